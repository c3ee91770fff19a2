import PyProof.Rows.All
import Wide.All
import OpenK.AllK
import Wide.FinOn
import Lean
import PyProof.EqAt
import PyProof.EqKinds
import PyProof.TupleCall
import PySem.Str
import KE.KListMore
import KE.LcSums
import KE.KRevIter
import PyProof.EnumStmt
import PyProof.EnumMake
import PyProof.IsiTupleOf
import PyProof.P3In
import PyProof.CollectIter
import PyProof.ListRange
import OpenK.KOwn
import KE.KTryMore
import PyProof.NsDelKeeps
import KE.KIsAll
import PyProof.ExcAttrAll.ValueError
import PySem.Challenge.RW_nearplane_k54_as_the_fit
set_option Elab.async false
set_option linter.all false
set_option maxRecDepth 100000
set_option maxHeartbeats 4000000
set_option autoImplicit true
open PySem.W renaming instObj -> jAa, methodObj -> jAb, lookIn -> jAz, plainGet -> jA0, hasDictIn -> jA1, findIn -> jA2, plainGet_of -> jA3, isFn -> jA4, plainOver -> jA5, takerIn -> jA6, makesIn -> jA8, emptyDict -> jA9, keepIn -> jBc, callWith_K -> jBi, methodCall_KW -> jBj, cellsFrom_some -> jBn, fnOf -> jBy, codeIn -> jBz, kitOne -> jCs, nsIn -> jCv, mg_of -> jCw, mg_none_of -> jEx
open PySem.Heap renaming lt_size -> jAc, get?_push_of_some -> jAu, get?_push_size -> jAw, size_push -> jBe, get?_update_self -> jB1, get?_update_other -> jB2
open Nat renaming lt_of_lt_of_le -> jAd, lt_irrefl -> jAe, ne_of_lt -> jAf, le_trans -> jAj, le_of_lt -> jAk, ne_of_gt -> jAv, le_refl -> jAx, lt_succ_self -> jBf, zero_le -> jBg, succ_le_succ -> jB6, mul_comm -> jCb, le_of_not_lt -> jCd, lt_succ_of_lt -> jCk, lt_of_le_of_lt -> jCm, pow_le_pow_right -> jC1, eq_zero_or_pos -> jC2, pow_add -> jC6, pow_succ -> jC8, pow_lt_pow_right -> jC9, one_lt_two_pow -> jDb, two_pow_pos -> jDc, reduceAdd -> jDf, mul_add -> jDt, mul_le_mul_left -> jDv, le_mul_of_pos_right -> jDw, strongRecOn -> jEd, mul_le_mul -> jEh, mul_lt_mul_of_pos_right -> jEi
open List renaming range -> jAg, mem_filter -> jAh, mem_range -> jAi, filterMap_cons -> jAl, mem_cons_self -> jAm, mem_cons_of_mem -> jAn, mem_cons -> jAo, mem_append -> jAp, mem_append_left -> jAq, getElem?_eq_some_iff -> jAr, getElem?_set_self -> jAs, getElem?_set_ne -> jAt, mem_append_right -> jAy, length_cons -> jA7, lookup -> jBa, map_cons -> jBb, length_map -> jBd, append_nil -> jBh, nodup_cons -> jBk, of_mem_zip -> jBl, replicate -> jBm, length -> jBp, length_take -> jBq, getElem?_append_right -> jBr, getElem?_replicate -> jBs, getElem?_append_left -> jBt, getElem?_map -> jBu, mem_of_getElem? -> jBv, length_append -> jBw, length_replicate -> jBx, size_toArray -> jB0, replicate_succ -> jB3, flatten_cons -> jB4, eraseIdx_cons_succ -> jB5, foldl_cons -> jB7, length_singleton -> jB8, eraseIdxIfInBounds_toArray -> jB9, nil_append -> jCa, map_nil -> jCc, mem_map -> jCe, getElem?_eq_none_iff -> jCf, getElem?_cons_succ -> jCg, map_map -> jCh, lookup_cons -> jCi, forIn_cons -> jCj, forIn_nil -> jCl, all_eq_true -> jCn, not_mem_nil -> jCo, dropLast_eq_take -> jCp, length_nil -> jCq, mem_singleton -> jCr, getElem?_cons_zero -> jCu, set_append_right -> jCx, getElem?_eq_none -> jCy, cons_append -> jDe, zipWith -> jDk, getElem?_zipWith -> jDl, length_zipWith -> jDm, range' -> jDn, take_add_one -> jDo, take_length -> jDp, getElem_of_mem -> jDq, getElem_zipWith -> jDr, getElem_mem -> jDs, mem_of_mem_take -> jDu, zipWith_cons_cons -> jDy, mem_replicate -> jDz, length_eq_zero_iff -> jD0, take_of_length_le -> jD1, getElem?_take -> jD2, getElem?_of_mem -> jD3, length_range -> jD4, mem_or_eq_of_mem_set -> jD5, getD_eq_getElem?_getD -> jD7, map_append -> jEj, take_append_of_le_length -> jEk, getElem?_eq_getElem -> jEl, drop_of_length_le -> jEm, drop_eq_getElem_cons -> jEn, filter_cons -> jEo, eq_nil_of_length_eq_zero -> jEp, mem_of_mem_eraseIdx -> jEq, eraseIdx_sublist -> jEr, length_eraseIdx_le -> jEs, drop_eq_nil_of_le -> jEt, length_filter_le -> jEu, nodup_append -> jEv
open Option renaming isSome_iff_exists -> jBo, bind_some -> jDd
open Int renaming toNat_natCast -> jCt, natAbs_natCast -> jC3, natAbs_mul -> jC4, natAbs_add_le -> jC7, gcd -> jDg, fmod_eq_emod_of_nonneg -> jDh, eq_ofNat_of_zero_le -> jDi, gcd_natCast_natCast -> jDj, mul_pos -> jEg, fdiv_eq_ediv_of_nonneg -> jEw
open Rat renaming divInt -> jCz, num_divInt_den -> jC0, divInt_ofNat -> jC5, div_def -> jDa, add_zero -> jDx, zero_mul -> jD6, mul_nonneg -> jD8, mul_eq_zero -> jD9, mul_comm -> jEa, mul_assoc -> jEb, mul_inv_cancel -> jEc, intCast_mul -> jEe, divInt_eq_div -> jEf
section
namespace L2
open PySem PySem.Spec PyProof.Rows
abbrev Key := Sum Int Str
def keyIs : Key -> Value -> Bool
 | .inl k, v => Value.isInt k v
 | .inr x, v => Value.isStrOf x v
def keyH (w : World) : Key -> Int
 | .inl k => hashInt k
 | .inr x => hashStr w x
theorem qAq : ∀ {k : Key} {v : Value}, keyIs k v = true -> (∃ i t, k = Sum.inl i /\ v = Value.int i t) \/ (∃ x t, k = Sum.inr x /\ v = Value.str x t)
 | .inl i, v, h => by
  obtain ⟨t, e⟩ := Value.isInt_shape (k := i) (v := v) h
  exact .inl ⟨i, t, rfl, e⟩
 | .inr x, v, h => by
  obtain ⟨t, e⟩ := Value.isStrOf_shape (x := x) (v := v) h
  exact .inr ⟨x, t, rfl, e⟩
theorem key_ll (a b : Int) : decide ((Sum.inl a : Key) = Sum.inl b) = (a == b) := by
 by_cases e : a = b
 ·subst e; simp
 ·have h : ¬ (Sum.inl a : Key) = Sum.inl b := fun q => e (Sum.inl.inj q)
  rw [decide_eq_false h]
  exact (beq_eq_false_iff_ne.mpr e).symm
theorem key_rr (a b : Str) : decide ((Sum.inr a : Key) = Sum.inr b) = decide (a = b) := by
 by_cases e : a = b
 ·subst e; simp
 ·have h : ¬ (Sum.inr a : Key) = Sum.inr b := fun q => e (Sum.inr.inj q)
  rw [decide_eq_false h, decide_eq_false e]
theorem key_lr (a : Int) (b : Str) : decide ((Sum.inl a : Key) = Sum.inr b) = false := decide_eq_false (fun q => nomatch q)
theorem key_rl (a : Str) (b : Int) : decide ((Sum.inr a : Key) = Sum.inl b) = false := decide_eq_false (fun q => nomatch q)
def mixKind (prog : Program) (w : World) : PySem.KeyKind prog w Key where
 is := keyIs
 hash := keyH w
 inj := fun v a b ha hb => by
  rcases qAq ha with ⟨i, t, rfl, rfl⟩ | ⟨x, t, rfl, rfl⟩
  ·rcases qAq hb with ⟨j, u, rfl, e⟩ | ⟨y, u, rfl, e⟩
   ·injection e with e1 _; rw [e1]
   ·exact nomatch e
  ·rcases qAq hb with ⟨j, u, rfl, e⟩ | ⟨y, u, rfl, e⟩
   ·exact nomatch e
   ·injection e with e1 _; rw [e1]
 byValue := fun k v h => by
  rcases qAq h with ⟨i, t, rfl, rfl⟩ | ⟨x, t, rfl, rfl⟩ <;> rfl
 pyHash := fun hv h => by
  rcases qAq hv with ⟨i, t, rfl, rfl⟩ | ⟨x, t, rfl, rfl⟩
  ·exact wpAny_pyHash_int h
  ·exact wpAny_pyHash_str h
 eqBool := fun hu hv h => by
  rcases qAq hu with ⟨i, t, rfl, rfl⟩ | ⟨x, t, rfl, rfl⟩
  ·rcases qAq hv with ⟨j, u, rfl, rfl⟩ | ⟨y, u, rfl, rfl⟩
   ·rw [key_ll] at h; exact wpAny_eqBool_int h
   ·rw [key_lr] at h; exact SeqAt.EqAt.int_str i t y u _ _ _ _ h
  ·rcases qAq hv with ⟨j, u, rfl, rfl⟩ | ⟨y, u, rfl, rfl⟩
   ·rw [key_rl] at h; exact SeqAt.EqAt.str_int x t j u _ _ _ _ h
   ·rw [key_rr] at h; exact wpAny_eqBool_str h
 «strs» := fun k x t v h => by
  rcases qAq h with ⟨i, u, rfl, e⟩ | ⟨y, u, rfl, e⟩
  ·exact nomatch e
  ·injection e with e1 _
   subst e1
   cases v <;> rfl
end L2
namespace L2
open PySem PySem.Spec PyProof.Rows
inductive V where
 | non | bl (b : Bool) | int (i : Int) | str (x : Str) | byt (b : Array UInt8) | flt (b : UInt64) | ref (a : Addr) | ty (n : String)
 deriving DecidableEq
def RelV : V -> Value -> Prop
 | .non, u => u = Value.none
 | .bl b, u => u = Value.bool b
 | .int i, u => ∃ t, u = Value.int i t
 | .str x, u => ∃ t, u = Value.str x t
 | .byt b, u => ∃ t, u = Value.bytes b t
 | .flt b, u => ∃ t, u = Value.float b t
 | .ref a, u => u = Value.ref a
 | .ty n, u => u = Value.type n
abbrev Vals : List V -> List Value -> Prop := Paired RelV
theorem Vals.length (r : Vals xs us) : xs.length = us.length := Paired.length r
theorem Vals.get : ∀ {xs : List V} {us : List Value} {i : Nat} {x : V}, Vals xs us -> xs[i]? = some x -> ∃ u, us[i]? = some u /\ RelV x u
 | _, _, _, _, .nil, e => by simp at e
 | _, _, 0, _, .cons r _, e => by simp at e; subst e; exact ⟨_, rfl, r⟩
 | _, _, i + 1, x, .cons _ t, e => by
  obtain ⟨u, h1, h2⟩ := Vals.get (i := i) (x := x) t (by simpa using e)
  exact ⟨u, by simpa using h1, h2⟩
theorem Vals.set (r : RelV x u) : ∀ {xs : List V} {us : List Value} (i : Nat), Vals xs us -> Vals (xs.set i x) (us.set i u)
 | _, _, _, .nil => .nil
 | _, _, 0, .cons _ t => .cons r t
 | _, _, i + 1, .cons q t => .cons q (Vals.set r i t)
theorem Vals.append : ∀ {xs ys : List V} {us ws : List Value}, Vals xs us -> Vals ys ws -> Vals (xs ++ ys) (us ++ ws)
 | _, _, _, _, .nil, s => s
 | _, _, _, _, .cons r t, s => .cons r (Vals.append t s)
theorem Vals.take : ∀ {xs : List V} {us : List Value} (n : Nat), Vals xs us -> Vals (xs.take n) (us.take n)
 | _, _, 0, _ => .nil
 | _, _, _ + 1, .nil => .nil
 | _, _, n + 1, .cons r t => .cons r (Vals.take n t)
theorem Vals.drop : ∀ {xs : List V} {us : List Value} (n : Nat), Vals xs us -> Vals (xs.drop n) (us.drop n)
 | _, _, 0, r => r
 | _, _, _ + 1, .nil => .nil
 | _, _, n + 1, .cons _ t => Vals.drop n t
def RelO : Option V -> Option Value -> Prop
 | some v, some u => RelV v u
 | none, none => True
 | _, _ => False
def KV {κ : Type} : List (κ × V) -> List (κ × Value) -> Prop := Paired fun (p : κ × V) (q : κ × Value) => p.1 = q.1 /\ RelV p.2 q.2
def kV : Key -> V
 | .inl i => .int i
 | .inr x => .str x
inductive HO where
  | lst (xs : List V)
  | tup (xs : List V)
  | dK (kvs : List (Key × V)) | dT (kvs : List (List Key × V))
  | set (S : Int -> Bool) (n : Nat)
  | ins (C dx : Addr) (fs : List (Str × V))
  | own (x : Addr)
  | xd (fs : List (Str × V))
  | met (f x : Addr)
  | rng (lo hi : Int)
  | frz (o : Obj) (u : HO)
  | tbl (ps : Array Value)
  | ext (φ : Heap -> Prop)
abbrev Hp := Addr -> Option HO
def upd (H : Hp) (a : Addr) (o : HO) : Hp := fun b => if b = a then some o else H b
theorem zW : upd H a o a = some o := by unfold upd; rw [if_pos rfl]
theorem zO (h : b ≠ a) : upd H a o b = H b := by unfold upd; rw [if_neg h]
theorem qAl {H : Hp} {a b : Addr} {o : HO} (h : H a = some o) (h' : H b = none) : a ≠ b := by
 intro e; subst e; rw [h] at h'; cases h'
section
variable (P : Program) (w : World)
def qBm (H : Hp) (h : Heap) (a : Addr) : HO -> Prop
 | .lst xs => xs.length <= sizeLine /\ ∃ (its : List Value) (n : Nat), Vals xs its /\ h.get? a = some { cls := .type "list", data := .seq its.toArray n }
 | .tup xs => xs.length <= sizeLine /\ ∃ its : List Value, Vals xs its /\ IsTup h a its.toArray
 | .dK kvs => kvs.length <= sizeLine /\ (a == sysModules) = false /\ ∃ vs, KV kvs vs /\ h.DictOf (mixKind P w) a vs
 | .dT kvs => kvs.length <= sizeLine /\ (a == sysModules) = false /\ ∃ xs : List (List Key × Addr × Value),
   Paired (fun (p : List Key × V) (q : List Key × Addr × Value) => p.1 = q.1 /\ H q.2.1 = some (.tup (p.1.map kV)) /\ RelV p.2 q.2.2) kvs xs /\
   ∃ o es ep, h.get? a = some o /\ o.ExactDict /\ o.data = .dict es ep /\ es.toList = xs.map (entryOfKey (tupleKind (mixKind P w))) /\ (xs.map (·.1)).Nodup
 | .set S n => h.SetOf (intKind P w) a S n
 | .ins C dx fs => H dx = some (.own a) /\ fs.length <= 1000 /\ dx ≠ a /\ h.get? a = some (jAa C dx) /\
   ∃ mA, h.Ns1 dx mA /\ (∀ f, RelO (fs.lookup f) (mA f)) /\ PySem.Within mA (fs.map (·.1))
 | .own _ => ∃ o, h.get? a = some o
 | .xd fs => ∃ mA, h.Ns1 a mA /\ ∀ f, RelO (fs.lookup f) (mA f)
 | .rng lo hi => ∃ t u v, h.get? a = some { cls := .type "range", data := .fields #[.int lo t, .int hi u, .int 1 v] }
 | .frz o u => h.get? a = some o /\ qBm H h a u
 | .tbl ps => h.get? a = some { cls := .none, data := .fields ps }
 | .met f x => h.get? a = some (jAb (.ref f) (.ref x))
 | .ext φ => φ h /\ (∃ o, h.get? a = some o) /\ ∀ h1 h2 : Heap, φ h1 -> (∀ o, h1.get? a = some o -> h2.get? a = some o) -> φ h2
def HOk (H : Hp) (h : Heap) : Prop := ∀ a o, H a = some o -> qBm P w H h a o
end
section
variable {P : Program} {w : World} {H H' : Hp} {h h' : Heap} {a : Addr} {o : HO}
theorem qBm.lt (x : qBm P w H h a o) : a < h.objs.size := by
 cases o with
 | lst xs => obtain ⟨_, _, _, _, e⟩ := x; exact jAc e
 | tup xs => obtain ⟨_, _, _, p⟩ := x; exact p.lt
 | dK kvs => obtain ⟨_, _, _, _, o, _, _, e, _⟩ := x; exact jAc e
 | dT kvs => obtain ⟨_, _, _, _, o, _, _, e, _⟩ := x; exact jAc e
 | set S n => obtain ⟨o, _, _, _, e, _⟩ := x; exact jAc e
 | ins C dx fs => obtain ⟨_, _, _, e, _⟩ := x; exact jAc e
 | own y => obtain ⟨_, e⟩ := x; exact jAc e
 | xd fs => obtain ⟨_, ⟨_, _, _, e, _⟩, _⟩ := x; exact jAc e
 | rng lo hi => obtain ⟨_, _, _, e⟩ := x; exact jAc e
 | frz ob u => obtain ⟨e, _⟩ := x; exact jAc e
 | tbl ps => exact jAc (show h.get? a = some _ from x)
 | met f y => exact jAc (show h.get? a = some _ from x)
 | ext φ => obtain ⟨_, ⟨_, e⟩, _⟩ := x; exact jAc e
theorem Paired.mapP : ∀ {l₁ : List α} {l₂ : List β}, Paired F l₁ l₂ -> (∀ a b, F a b -> G a b) -> Paired G l₁ l₂
 | _, _, .nil, _ => .nil
 | _, _, .cons r t, f => .cons (f _ _ r) (Paired.mapP t f)
theorem qBm.stay (x : qBm P w H h a o) (k : ∀ b u, (b = a \/ H b = some (.own a)) -> h.get? b = some u -> h'.get? b = some u)
  (ho : ∀ b, H b = some (.own a) -> H' b = some (.own a)) (ht : ∀ b xs, H b = some (.tup xs) -> H' b = some (.tup xs)) : qBm P w H' h' a o := by
 induction o with
 | lst xs => obtain ⟨z, its, n, r, e⟩ := x; exact ⟨z, its, n, r, k _ _ (.inl rfl) e⟩
 | tup xs => obtain ⟨z, its, r, ob, e, c⟩ := x; exact ⟨z, its, r, ob, k _ _ (.inl rfl) e, c⟩
 | dK kvs => obtain ⟨z, y, vs, r, ob, es, ep, e, c⟩ := x; exact ⟨z, y, vs, r, ob, es, ep, k _ _ (.inl rfl) e, c⟩
 | dT kvs =>
  obtain ⟨z, y, xs, r, ob, es, ep, e, c⟩ := x
  exact ⟨z, y, xs, Paired.mapP r fun p q z => ⟨z.1, ht _ _ z.2.1, z.2.2⟩, ob, es, ep, k _ _ (.inl rfl) e, c⟩
 | set S n => obtain ⟨ob, es, ep, t, e, c⟩ := x; exact ⟨ob, es, ep, t, k _ _ (.inl rfl) e, c⟩
 | ins C dx fs =>
  obtain ⟨d, z, ne, e, mA, ⟨od, es, ep, e2, c⟩, r⟩ := x
  exact ⟨ho _ d, z, ne, k _ _ (.inl rfl) e, mA, ⟨od, es, ep, k _ _ (.inr d) e2, c⟩, r⟩
 | own y => obtain ⟨ob, e⟩ := x; exact ⟨ob, k _ _ (.inl rfl) e⟩
 | xd fs => obtain ⟨mA, ⟨od, es, ep, e, c⟩, r⟩ := x; exact ⟨mA, ⟨od, es, ep, k _ _ (.inl rfl) e, c⟩, r⟩
 | rng lo hi => obtain ⟨t, u, v, e⟩ := x; exact ⟨t, u, v, k _ _ (.inl rfl) e⟩
 | frz ob u ih => obtain ⟨e, q⟩ := x; exact ⟨k _ _ (.inl rfl) e, ih q⟩
 | tbl ps =>
  have e : h.get? a = some { cls := .none, data := .fields ps } := x
  show h'.get? a = some { cls := .none, data := .fields ps }
  exact k a _ (.inl rfl) e
 | met f y =>
  have e : h.get? a = some (jAb (.ref f) (.ref y)) := x
  show h'.get? a = some (jAb (.ref f) (.ref y))
  exact k a _ (.inl rfl) e
 | ext φ => obtain ⟨p, ⟨o, e⟩, st⟩ := x; exact ⟨st _ _ p fun o q => k _ _ (.inl rfl) q, ⟨o, k _ _ (.inl rfl) e⟩, st⟩
theorem HOk.lt (x : HOk P w H h) (e : H a = some o) : a < h.objs.size := (x a o e).lt
theorem HOk.fresh (x : HOk P w H h) (e : h.objs.size <= a) : H a = none := by
 cases q : H a with
 | none => rfl
 | some u => exact absurd (jAd (x.lt q) e) (jAe _)
theorem HOk.kept (x : HOk P w H h) (k : ∀ b u, h.get? b = some u -> h'.get? b = some u) : HOk P w H h' := fun a o e =>
 (x a o e).stay (fun b u _ q => k b u q) (fun _ q => q) fun _ _ q => q
theorem HOk.laid (x : HOk P w H h) (k : ∀ b u, h.get? b = some u -> h'.get? b = some u) (hp : h.objs.size <= a) (new : qBm P w (upd H a o) h' a o) : HOk P w (upd H a o) h' := fun b u e => by
 have hn := x.fresh hp
 by_cases hb : b = a
 ·subst hb; rw [zW] at e; cases e; exact new
 ·rw [zO hb] at e
  exact (x b u e).stay (fun c v _ q => k c v q) (fun c q => by rw [zO (qAl q hn)]; exact q) fun c xs q => by rw [zO (qAl q hn)]; exact q
end
def Rd (H : Hp) (a : Addr) (u : HO) : Prop := H a = some u \/ ∃ o, H a = some (.frz o u)
theorem Rd.ok (r : Rd H a u) (x : HOk P w H h) : qBm P w H h a u := by
 rcases r with r | ⟨o, r⟩
 ·exact x a u r
 ·obtain ⟨_, q⟩ := x a _ r
  exact q
def Mut : Option HO -> Prop
 | some (.lst _) => True
 | some (.dK _) => True
 | some (.dT _) => True
 | some (.set _ _) => True
 | some (.ins _ _ _) => True
 | some (.ext _) => True
 | _ => False
section
variable {P : Program} {w : World} {H : Hp} {h h' : Heap} {x e : Addr} {o' : HO}
theorem HOk.write (ok : HOk P w H h) (mu : Mut (H x)) (he : e = x \/ H e = some (.own x)) (k : ∀ b u, b ≠ e -> h.get? b = some u -> h'.get? b = some u) (heo : ∃ u, h'.get? e = some u)
  (new : qBm P w (upd H x o') h' x o') : HOk P w (upd H x o') h' := fun b u q => by
 have nown : ∀ c y, H c = some (.own y) -> c ≠ x := fun c y r z => by subst z; rw [r] at mu; exact mu
 have ntup : ∀ c xs, H c = some (.tup xs) -> c ≠ x := fun c xs r z => by subst z; rw [r] at mu; exact mu
 by_cases hb : b = x
 ·subst hb; rw [zW] at q; cases q; exact new
 ·rw [zO hb] at q
  by_cases hbe : b = e
  ·have q' : H b = some (.own x) := by
    rcases he with z | z
    ·exact absurd (hbe.trans z) hb
    ·rw [hbe]; exact z
   rw [q] at q'; cases q'
   obtain ⟨v, hv⟩ := heo
   exact ⟨v, by rw [hbe]; exact hv⟩
  ·refine (ok b u q).stay (fun c v hc r => k c v ?_ r) (fun c r => by rw [zO (nown c b r)]; exact r) fun c xs r => by rw [zO (ntup c xs r)]; exact r
   rcases hc with rfl | hc
   ·exact hbe
   ·rintro rfl
    rcases he with z | z
    ·exact nown c b hc z
    ·rw [hc] at z; cases z; exact hb rfl
end
structure Un (fs ex : List Addr) (H H' : Hp) (h h' : Heap) : Prop where
 keep : ∀ b o, h.get? b = some o -> H b = none -> b ∉ fs -> b ∉ ex -> h'.get? b = some o
 slot : ∀ b o, h.get? b = some o -> H b = none -> b ∈ fs -> b ∉ ex -> ∃ sl, h'.get? b = some { o with slots := sl }
 free : ∀ b o, h.get? b = some o -> H b = none -> b ∉ ex -> H' b = none
 there : ∀ b o, h.get? b = some o -> b ∉ ex -> ∃ o', h'.get? b = some o'
 tups : ∀ b xs, H b = some (.tup xs) -> H' b = some (.tup xs)
 frzs : ∀ b o u, H b = some (.frz o u) -> H' b = some (.frz o u)
 tbls : ∀ b ps, H b = some (.tbl ps) -> ∃ more, H' b = some (.tbl (ps ++ more))
section
variable {fs fs' ex ex' : List Addr} {H H1 H2 : Hp} {h h1 h2 h' : Heap} {a x e : Addr} {o : HO}
theorem Un.any (u : Un fs ex H H1 h h1) (q : h.get? b = some ob) (n : H b = none) (hx : b ∉ ex) : ∃ sl, h1.get? b = some { ob with slots := sl } := by
 by_cases hb : b ∈ fs
 ·exact u.slot b ob q n hb hx
 ·exact ⟨ob.slots, u.keep b ob q n hb hx⟩
theorem Un.trans (a : Un fs ex H H1 h h1) (b : Un fs ex H1 H2 h1 h2) : Un fs ex H H2 h h2 where
 keep := fun c ob q n hc hx => b.keep c ob (a.keep c ob q n hc hx) (a.free c ob q n hx) hc hx
 slot := fun c ob q n hc hx => by
  obtain ⟨sl, e1⟩ := a.slot c ob q n hc hx
  obtain ⟨sl', e2⟩ := b.slot c _ e1 (a.free c ob q n hx) hc hx
  exact ⟨sl', e2⟩
 free := fun c ob q n hx => by
  obtain ⟨o', e1⟩ := a.there c ob q hx
  exact b.free c o' e1 (a.free c ob q n hx) hx
 there := fun c ob q hx => by
  obtain ⟨o', e1⟩ := a.there c ob q hx
  exact b.there c o' e1 hx
 tups := fun c xs q => b.tups c xs (a.tups c xs q)
 frzs := fun c ob xs q => b.frzs c ob xs (a.frzs c ob xs q)
 tbls := fun c ps q => by
  obtain ⟨m1, e1⟩ := a.tbls c ps q
  obtain ⟨m2, e2⟩ := b.tbls c _ e1
  exact ⟨m1 ++ m2, by rw [e2, Array.append_assoc]⟩
theorem Un.kept (k : ∀ b u, h.get? b = some u -> h'.get? b = some u) : Un fs ex H H h h' :=
 ⟨fun b ob q _ _ _ => k b ob q, fun b ob q _ _ _ => ⟨ob.slots, k b ob q⟩, fun _ _ _ n _ => n, fun b ob q _ => ⟨ob, k b ob q⟩, fun _ _ q => q, fun _ _ _ q => q, fun _ ps q => ⟨#[], by rw [q]; simp⟩⟩
theorem Un.refl : Un fs ex H H h h := Un.kept fun _ _ q => q
theorem Un.laid (k : ∀ b u, h.get? b = some u -> h'.get? b = some u) (hp : h.objs.size <= a) (hn : H a = none) : Un fs ex H (upd H a o) h h' where
 keep := fun b u q _ _ _ => k b u q
 slot := fun b u q _ _ _ => ⟨u.slots, k b u q⟩
 free := fun b u q n _ => by rw [zO (jAf (jAd (jAc q) hp))]; exact n
 there := fun b u q _ => ⟨u, k b u q⟩
 tups := fun b xs q => by rw [zO (qAl q hn)]; exact q
 frzs := fun b u xs q => by rw [zO (qAl q hn)]; exact q
 tbls := fun b ps q => ⟨#[], by rw [zO (qAl q hn), q]; simp⟩
theorem Un.write (mu : Mut (H x)) (he : e = x \/ H e = some (.own x)) (k : ∀ b u, b ≠ e -> h.get? b = some u -> h'.get? b = some u) (heo : ∃ u, h'.get? e = some u) : Un fs ex H (upd H x o) h h' := by
 have hx : ∀ b, H b = none -> b ≠ x := fun b n z => by subst z; rw [n] at mu; exact mu
 have hb : ∀ b, H b = none -> b ≠ e := fun b n z => by
  subst z
  rcases he with r | r
  ·exact hx b n r
  ·rw [n] at r; cases r
 have hm : ∀ b u, H b = some u -> ¬ Mut (some u) -> b ≠ x := fun b u q nm z => by subst z; rw [q] at mu; exact nm mu
 refine ⟨fun b u q n _ _ => k b u (hb b n) q, fun b u q n _ _ => ⟨u.slots, k b u (hb b n) q⟩, fun b u q n _ => by rw [zO (hx b n)]; exact n, fun b u q _ => ?_,
  fun b xs q => by rw [zO (hm b _ q fun z => z)]; exact q, fun b u xs q => by rw [zO (hm b _ q fun z => z)]; exact q, fun b ps q => ⟨#[], by rw [zO (hm b _ q fun z => z), q]; simp⟩⟩
 by_cases hbe : b = e
 ·subst hbe; exact heo
 ·exact ⟨u, k b u hbe q⟩
end
def trk (h : Heap) (H : Hp) : List Addr := (jAg h.objs.size).filter fun a => (H a).isSome
def hidT (h : Heap) (H : Hp) : Heap := PySem.W.hideAll h (trk h H)
theorem hidT_size (h : Heap) (H : Hp) : (hidT h H).objs.size = h.objs.size := PySem.W.hideAll_size _ _
theorem hidT_get (e : h.get? b = some o) (n : H b = none) : (hidT h H).get? b = some o :=
 PySem.W.hideAll_get _ e fun hm => by
  have q : (H b).isSome = true := (jAh.mp hm).2
  rw [n] at q; simp at q
theorem of_hidT (e : (hidT h H).get? b = some o) : h.get? b = some o /\ H b = none := by
 have e' : h.get? b = some o := PySem.W.of_hideAll (trk h H) e
 refine ⟨e', ?_⟩
 cases q : H b with
 | none => rfl
 | some x =>
  have hm : b ∈ trk h H := jAh.mpr ⟨jAi.mpr (jAc e'), by simp [q]⟩
  have z : (hidT h H).get? b = none := PySem.W.hideAll_none (trk h H) hm
  rw [z] at e; cases e
def allNews (g h : Heap) (L : Addr) : List (Addr × Obj) := (jAg h.objs.size).filterMap fun a => if a = L \/ (g.get? a).isSome = true then none else (h.get? a).map fun o => (a, o)
def rest (g h : Heap) (L d : Addr) : List (Addr × Obj) := (allNews g h L).filter fun p => decide (p.1 ≠ d)
end L2
namespace L2
open PySem PySem.Spec PyProof.Rows
structure Mod (K : PySem.W.Frag) (mg : Str -> Option Value) (base : Heap) : Prop where
 kin : K.In base
 glob : base.Ns mainGlobals mg
 blt : ∃ mb, base.Ns builtinsNs mb /\ ∀ x : Str, x ≠ "__name__" -> mb x = bootBuiltins x
 nolimit : base.NoLimit
 seer : base.NoSeer
structure Cx where
 prog : Program
 w : World
 K : PySem.W.Frag
 mg : Str -> Option Value
 base : Heap
 A : Around
 N : List Str
 s₀ : Shared
 H₀ : Hp
 env : Env
 outer : List Env
 stack : List Env
 ex : List Addr
 fn : Str -> Bool
 calm : Bool
 pn : List (Addr × Obj)
 xe : Value -> Shared -> Prop
def frs (l : List Env) : List Addr := l.filterMap (·.frame)
abbrev Cx.fs (X : Cx) : List Addr := frs X.outer
def Vis (sc : Scope) (x : Str) : Prop := sc.names.lookup x = some .local \/ sc.names.lookup x = some .cell \/ sc.names.lookup x = some .free
def Loc (sc : Scope) (x : Str) : Prop := sc.names.lookup x = some .local \/ sc.names.lookup x = some .cell
def Look (env : Env) (h : Heap) (m : Str -> Option Value) (x : Str) (u : Value) : Prop :=
 (env.kindOf x = some .local /\ m x = some u) \/ ((env.kindOf x = some .cell \/ env.kindOf x = some .free) /\ ∃ c, env.cells.lookup x = some c /\ h.IsCell c (some u))
structure Cx.Ok (X : Cx) : Prop where
 mod : Mod X.K X.mg X.base
 kind : X.env.scope.kind = .function
 glob : X.env.globals = mainGlobals
 blt : X.env.builtins = builtinsNs
 above : X.s₀.heap.objs.size <= X.env.locals
 inj : ∀ x y c, X.env.cells.lookup x = some c -> X.env.cells.lookup y = some c -> x = y
 has : ∀ x, (X.env.kindOf x = some .cell \/ X.env.kindOf x = some .free) -> ∃ c, X.env.cells.lookup x = some c
 cab : ∀ x c, X.fn x = true -> X.env.cells.lookup x = some c -> X.s₀.heap.objs.size <= c
 hd : X.calm = true -> X.A.handled = none
 frames : X.A.frames = some X.stack
 stk : X.stack = X.outer \/ (X.stack = X.env :: X.outer /\ X.env.frame = some X.env.locals)
 exf : ∀ b ∈ X.ex, b ≠ X.env.locals /\ ∀ x c, X.env.cells.lookup x = some c -> c ≠ b
 bs : ∀ b o, X.base.get? b = some o -> X.s₀.heap.get? b = some o /\ X.H₀ b = none
 bsz : X.base.objs.size <= X.s₀.heap.objs.size
 noex : ∀ b o, X.base.get? b = some o -> b ∉ X.ex
 exfs : ∀ b ∈ X.ex, b ∉ X.fs
 funs : X.s₀.heap.FunFrames X.base X.outer
 frf : ∀ b ∈ X.fs, X.H₀ b = none
structure Inv (X : Cx) (pins : List (Addr × Obj)) (σ : List (Option V)) (H : Hp) (s : Shared) : Prop where
 ok : X.Ok
 os : s.os = X.s₀.os
 bare : AllBare s.gens
 base : Un X.fs X.ex X.H₀ H X.s₀.heap s.heap
 loc : ∃ m, s.heap.Ns X.env.locals m /\ ∀ (i : Nat) (x : Str) (v : V), X.N[i]? = some x -> σ[i]? = some (some v) -> Vis X.env.scope x -> ∃ u, RelV v u /\ Look X.env s.heap m x u
 cell : ∀ x c, X.env.cells.lookup x = some c -> ∃ v, s.heap.IsCell c v
 free : H X.env.locals = none
 freeC : ∀ x c, X.env.cells.lookup x = some c -> H c = none
 pin : ∀ p ∈ X.pn ++ pins, s.heap.get? p.1 = some p.2 /\ H p.1 = none /\ p.1 ≠ X.env.locals /\ p.1 ∉ X.fs /\ ∀ v, p.2.data ≠ .cell v
 hok : HOk X.prog X.w H s.heap
 len : σ.length = X.N.length
section
variable {X : Cx} {pins : List (Addr × Obj)} {σ : List (Option V)} {H H' : Hp} {s : Shared} {h' : Heap}
theorem Cx.Ok.nofr (ok : X.Ok) (e : X.base.get? b = some o) : b ∉ X.fs := fun hb => by
 have := (ok.funs.mem hb).1
 rw [e] at this; cases this
theorem Inv.bs (I : Inv X pins σ H s) : ∀ b o, X.base.get? b = some o -> s.heap.get? b = some o /\ H b = none := fun b o e =>
 ⟨I.base.keep b o (I.ok.bs b o e).1 (I.ok.bs b o e).2 (I.ok.nofr e) (I.ok.noex b o e), I.base.free b o (I.ok.bs b o e).1 (I.ok.bs b o e).2 (I.ok.noex b o e)⟩
theorem Inv.bk (I : Inv X pins σ H s) : ∀ b o, X.base.get? b = some o -> s.heap.get? b = some o := fun b o e => (I.bs b o e).1
theorem Inv.mod (I : Inv X pins σ H s) : Mod X.K X.mg X.base := I.ok.mod
theorem Inv.kIn (I : Inv X pins σ H s) : X.K.In s.heap := I.ok.mod.kin.keeps I.bk
theorem Inv.fr (I : Inv X pins σ H s) : ∃ m, Fr X.base X.env.locals s.heap m :=
 let ⟨m, hn, _⟩ := I.loc
 ⟨m, hn, I.bk, jAj I.ok.bsz I.ok.above⟩
theorem Inv.lt (I : Inv X pins σ H s) : X.env.locals < s.heap.objs.size := let ⟨_, hn, _⟩ := I.loc; hn.lt
theorem Inv.sz (I : Inv X pins σ H s) : X.s₀.heap.objs.size <= s.heap.objs.size := jAj I.ok.above (jAk I.lt)
theorem Inv.nofs (I : Inv X pins σ H s) (h : s.heap.objs.size <= a) : a ∉ X.fs := fun hb => by
 obtain ⟨_, o, ho, _⟩ := I.ok.funs.mem hb
 exact absurd (jAd (jAc ho) (jAj I.sz h)) (jAe _)
theorem Inv.cne (I : Inv X pins σ H s) : ∀ x c, X.env.cells.lookup x = some c -> c ≠ X.env.locals := fun x c e z => by
 obtain ⟨v, o, ho, hd⟩ := I.cell x c e
 obtain ⟨m, ⟨o', es, ep, ho', hd', _⟩, _⟩ := I.loc
 rw [z, ho'] at ho; cases ho; rw [hd'] at hd; cases hd
theorem Inv.funs (I : Inv X pins σ H s) : s.heap.FunFrames X.base X.outer := by
 have all : ∀ (l : List Env), (∀ b ∈ frs l, b ∈ X.fs) -> X.s₀.heap.FunFrames X.base l -> s.heap.FunFrames X.base l := by
  intro l
  induction l with
  | nil => intro _ _; trivial
  | cons env r ih =>
   intro hs hl
   obtain ⟨hk, ⟨L, o, hf, hn, ho, hd⟩, hr⟩ := hl
   have hL : L ∈ X.fs := hs L (by unfold frs; rw [jAl, hf]; exact jAm)
   obtain ⟨sl, e⟩ := I.base.slot L o ho (I.ok.frf L hL) hL fun z => I.ok.exfs L z hL
   exact ⟨hk, ⟨L, _, hf, hn, e, hd⟩, ih (fun b hb => hs b (by unfold frs; rw [jAl, hf]; exact jAn _ hb)) hr⟩
 exact all X.outer (fun _ hb => hb) I.ok.funs
theorem Inv.stack (I : Inv X pins σ H s) : s.heap.FunFrames X.base X.stack := by
 rcases I.ok.stk with e | ⟨e, hf⟩
 ·rw [e]; exact I.funs
 ·rw [e]
  obtain ⟨m, hn, _⟩ := I.loc
  refine .cons (by rw [I.ok.kind]; decide) hf hn ?_ I.funs
  exact Heap.get?_none_of_le (jAj I.ok.bsz I.ok.above)
theorem Inv.stkSub (I : Inv X pins σ H s) : ∀ b ∈ frs X.stack, b ∈ X.env.locals :: X.fs := fun b hb => by
 rcases I.ok.stk with e | ⟨e, hf⟩
 ·rw [e] at hb; exact jAn _ hb
 ·rw [e] at hb
  unfold frs at hb
  rw [jAl, hf] at hb
  exact hb
theorem Inv.stkFree (I : Inv X pins σ H s) : ∀ b ∈ frs X.stack, H b = none := fun b hb => by
 rcases jAo.mp (I.stkSub b hb) with e | hb
 ·rw [e]; exact I.free
 ·obtain ⟨_, o, ho, _⟩ := I.ok.funs.mem hb
  exact I.base.free b o ho (I.ok.frf b hb) fun z => I.ok.exfs b z hb
theorem Inv.step {g' : Array GenState} {t' : Nat} {d' : Drawn} {ch : List Addr} (I : Inv X pins σ H s)
  (hch : ∀ b ∈ ch, (b ∈ X.ex \/ X.s₀.heap.objs.size <= b) /\ b ≠ X.env.locals /\ (∀ x c, X.env.cells.lookup x = some c -> c ≠ b) /\ ∀ p ∈ X.pn ++ pins, p.1 ≠ b)
  (keep : ∀ b o, b ≠ X.env.locals -> b ∉ X.fs -> b ∉ ch -> s.heap.get? b = some o -> H b = none -> h'.get? b = some o)
  (slot : ∀ b o, b ≠ X.env.locals -> b ∈ X.fs -> b ∉ ch -> s.heap.get? b = some o -> H b = none -> ∃ sl, h'.get? b = some { o with slots := sl }) (free : ∀ b o, b ∉ ch -> s.heap.get? b = some o -> H b = none -> H' b = none)
  (there : ∀ b o, b ∉ ch -> s.heap.get? b = some o -> ∃ o', h'.get? b = some o')
  (tups : ∀ b xs, H b = some (.tup xs) -> H' b = some (.tup xs)) (frzs : ∀ b o u, H b = some (.frz o u) -> H' b = some (.frz o u)) (tbls : ∀ b ps, H b = some (.tbl ps) -> ∃ more, H' b = some (.tbl (ps ++ more)))
  (ns : ∀ m, s.heap.Ns X.env.locals m -> h'.Ns X.env.locals m) (hok : HOk X.prog X.w H' h') (hg : AllBare g') :
  Inv X pins σ H' { s with heap := h', gens := g', drawn := d', toks := t' } := by
 have neL : ∀ b o, X.s₀.heap.get? b = some o -> b ≠ X.env.locals := fun b o e => jAf (jAd (jAc e) I.ok.above)
 have neC : ∀ b o, X.s₀.heap.get? b = some o -> b ∉ X.ex -> b ∉ ch := fun b o e hx hb => by
  rcases (hch b hb).1 with z | z
  ·exact hx z
  ·exact absurd (jAd (jAc e) z) (jAe _)
 have cellK : ∀ x c, X.env.cells.lookup x = some c -> ∀ v, s.heap.IsCell c v -> h'.IsCell c v := fun x c e v ⟨o, ho, hd⟩ => by
  have nch : c ∉ ch := fun z => (hch c z).2.2.1 x c e rfl
  by_cases hc : c ∈ X.fs
  ·obtain ⟨sl, q⟩ := slot c o (I.cne x c e) hc nch ho (I.freeC x c e)
   exact ⟨_, q, hd⟩
  ·exact ⟨o, keep c o (I.cne x c e) hc nch ho (I.freeC x c e), hd⟩
 refine ⟨I.ok, I.os, hg, ⟨fun b o e n hb hx => ?_, fun b o e n hb hx => ?_, fun b o e n hx => ?_, fun b o e hx => ?_, fun b xs e => tups b xs (I.base.tups b xs e), fun b o xs e => frzs b o xs (I.base.frzs b o xs e), fun b ps e => ?_⟩, ?_, fun x c e => ?_, ?_, fun x c e => ?_, fun p hp => ?_, hok, I.len⟩
 ·exact keep b o (neL b o e) hb (neC b o e hx) (I.base.keep b o e n hb hx) (I.base.free b o e n hx)
 ·obtain ⟨sl, e1⟩ := I.base.slot b o e n hb hx
  obtain ⟨sl', e2⟩ := slot b _ (neL b o e) hb (neC b o e hx) e1 (I.base.free b o e n hx)
  exact ⟨sl', e2⟩
 ·obtain ⟨o', e1⟩ := I.base.there b o e hx
  exact free b o' (neC b o e hx) e1 (I.base.free b o e n hx)
 ·obtain ⟨o', e1⟩ := I.base.there b o e hx
  exact there b o' (neC b o e hx) e1
 ·obtain ⟨m1, e1⟩ := I.base.tbls b ps e
  obtain ⟨m2, e2⟩ := tbls b _ e1
  exact ⟨m1 ++ m2, by rw [e2, Array.append_assoc]⟩
 ·obtain ⟨m, hn, hl⟩ := I.loc
  refine ⟨m, ns m hn, fun i x v e1 e2 e3 => ?_⟩
  obtain ⟨u, r, l⟩ := hl i x v e1 e2 e3
  refine ⟨u, r, ?_⟩
  rcases l with l | ⟨k, c, e, z⟩
  ·exact .inl l
  ·exact .inr ⟨k, c, e, cellK x c e _ z⟩
 ·obtain ⟨v, z⟩ := I.cell x c e
  exact ⟨v, cellK x c e v z⟩
 ·obtain ⟨m, ⟨o, _, _, ho, _⟩, _⟩ := I.loc
  exact free _ o (fun z => (hch _ z).2.1 rfl) ho I.free
 ·obtain ⟨v, o, ho, hd⟩ := I.cell x c e
  exact free c o (fun z => (hch c z).2.2.1 x c e rfl) ho (I.freeC x c e)
 ·obtain ⟨e, n, ne, nf, d⟩ := I.pin p hp
  have nch : p.1 ∉ ch := fun z => (hch p.1 z).2.2.2 p hp rfl
  exact ⟨keep p.1 p.2 ne nf nch e n, free p.1 p.2 nch e n, ne, nf, d⟩
theorem Inv.un {t' : Nat} (I : Inv X pins σ H s) (u : Un X.fs [] H H' s.heap h') (hok : HOk X.prog X.w H' h') : Inv X pins σ H' { s with heap := h', toks := t' } := by
 obtain ⟨m, ⟨o, es, ep, ho, r⟩, _⟩ := id I.loc
 obtain ⟨sl, hL⟩ := u.any ho I.free (by simp)
 exact I.step (g' := s.gens) (d' := s.drawn) (ch := []) (fun _ z => nomatch z) (fun b o _ hb _ e n => u.keep b o e n hb (by simp)) (fun b o _ hb _ e n => u.slot b o e n hb (by simp)) (fun b o _ e n => u.free b o e n (by simp)) (fun b o _ e => u.there b o e (by simp)) u.tups u.frzs u.tbls (fun m' hm => by
  obtain ⟨o', es', ep', ho', r'⟩ := hm
  rw [ho] at ho'; cases ho'
  exact ⟨_, es', ep', hL, r'⟩) hok I.bare
theorem Inv.call {g' : Array GenState} {t' : Nat} {d' : Drawn} {ch : List Addr} (I : Inv X pins σ H s) (u : Un (frs X.stack) ch H H' s.heap h') (hok : HOk X.prog X.w H' h') (hg : AllBare g')
  (hch : ∀ b ∈ ch, (b ∈ X.ex \/ X.s₀.heap.objs.size <= b) /\ b ≠ X.env.locals /\ (∀ x c, X.env.cells.lookup x = some c -> c ≠ b) /\ ∀ p ∈ X.pn ++ pins, p.1 ≠ b) :
  Inv X pins σ H' { s with heap := h', gens := g', drawn := d', toks := t' } := by
 obtain ⟨m, ⟨o, es, ep, ho, r⟩, _⟩ := id I.loc
 obtain ⟨sl, hL⟩ := u.any ho I.free fun z => (hch _ z).2.1 rfl
 exact I.step (ch := ch) hch (fun b o hL hb hc e n => u.keep b o e n (fun z => (jAo.mp (I.stkSub b z)).elim hL hb) hc) (fun b o _ _ hc e n => u.any e n hc) (fun b o hc e n => u.free b o e n hc) (fun b o hc e => u.there b o e hc) u.tups u.frzs u.tbls (fun m' hm => by
  obtain ⟨o', es', ep', ho', r'⟩ := hm
  rw [ho] at ho'; cases ho'
  exact ⟨_, es', ep', hL, r'⟩) hok hg
theorem Inv.turned {t' : Nat} {it : Addr} (I : Inv X pins σ H s) (k : ∀ b o, b ≠ it -> s.heap.get? b = some o -> h'.get? b = some o) (hn : H it = none) (hL : it ≠ X.env.locals)
  (h1 : it ∈ X.ex \/ X.s₀.heap.objs.size <= it) (h2 : ∀ x c, X.env.cells.lookup x = some c -> c ≠ it) (h3 : ∀ p ∈ X.pn ++ pins, p.1 ≠ it) : Inv X pins σ H { s with heap := h', toks := t' } := by
 have nit : ∀ b u, H b = some u -> b ≠ it := fun b u e z => by rw [z, hn] at e; cases e
 refine I.step (g' := s.gens) (d' := s.drawn) (ch := [it]) (fun b hb => ?_) (fun b o _ _ hc e _ => k b o (fun z => hc (by simp [z])) e) (fun b o _ _ hc e _ => ⟨o.slots, k b o (fun z => hc (by simp [z])) e⟩) (fun _ _ _ _ n => n)
  (fun b o hc e => ⟨o, k b o (fun z => hc (by simp [z])) e⟩) (fun _ _ e => e) (fun _ _ _ e => e) (fun b ps e => ⟨#[], by rw [e]; simp⟩) (fun m hm => ?_) (fun b u e => ?_) I.bare
 ·have e : b = it := by simpa using hb
  subst e
  exact ⟨h1, hL, h2, h3⟩
 ·obtain ⟨o, es, ep, ho, r⟩ := hm
  exact ⟨o, es, ep, k _ o (Ne.symm hL) ho, r⟩
 ·refine (I.hok b u e).stay (fun c v hc q => k c v ?_ q) (fun _ q => q) fun _ _ q => q
  rcases hc with z | z
  ·rw [z]; exact nit b u e
  ·exact nit c _ z
theorem Inv.tok (I : Inv X pins σ H s) (t : Nat) : Inv X pins σ H { s with toks := t } := I.un (h' := s.heap) (t' := t) Un.refl I.hok
theorem Inv.kept (I : Inv X pins σ H s) (k : ∀ b u, s.heap.get? b = some u -> h'.get? b = some u) : Inv X pins σ H { s with heap := h', toks := t' } := I.un (Un.kept k) (I.hok.kept k)
theorem Inv.laid (I : Inv X pins σ H s) (k : ∀ b u, s.heap.get? b = some u -> h'.get? b = some u) (hp : s.heap.objs.size <= a) (new : qBm X.prog X.w (upd H a o) h' a o) :
  Inv X pins σ (upd H a o) { s with heap := h', toks := t' } := I.un (Un.laid k hp (I.hok.fresh hp)) (I.hok.laid k hp new)
theorem Inv.write (I : Inv X pins σ H s) (mu : Mut (H x)) (he : e = x \/ H e = some (.own x)) (k : ∀ b u, b ≠ e -> s.heap.get? b = some u -> h'.get? b = some u) (heo : ∃ u, h'.get? e = some u)
  (new : qBm X.prog X.w (upd H x o) h' x o) : Inv X pins σ (upd H x o) { s with heap := h', toks := t' } := I.un (Un.write mu he k heo) (I.hok.write mu he k heo new)
theorem Inv.pins_of (I : Inv X pins σ H s) (h : ∀ p ∈ pins', s.heap.get? p.1 = some p.2 /\ H p.1 = none /\ p.1 ≠ X.env.locals /\ p.1 ∉ X.fs /\ ∀ v, p.2.data ≠ .cell v) : Inv X pins' σ H s :=
 ⟨I.ok, I.os, I.bare, I.base, I.loc, I.cell, I.free, I.freeC, fun p hp => (jAp.mp hp).elim (fun z => I.pin p (jAq _ z)) (h p), I.hok, I.len⟩
theorem qFq {N : List Str} (hN : N.Nodup) {i j : Nat} {x : Str} (a : N[i]? = some x) (b : N[j]? = some x) : i = j := by
 obtain ⟨h1, e1⟩ := jAr.mp a
 obtain ⟨h2, e2⟩ := jAr.mp b
 exact (List.getElem_inj hN).mp (e1.trans e2.symm)
theorem qD3 {M : Model} {A : Around} {E : Value -> Shared -> Prop} {i : Nat} {x : Str} {v : V} {u : Value} {Q : Unit -> Shared -> Prop} (I : Inv X pins σ H s) (hN : X.N.Nodup) (hi : X.N[i]? = some x) (hx : Loc X.env.scope x) (r : RelV v u)
  (h : ∀ s', Inv X pins (σ.set i (some v)) H s' -> (∃ a, Heap.SameBut a s.heap s'.heap /\ (a = X.env.locals \/ X.env.cells.lookup x = some a)) -> Q () s') (hf : X.fn x = true \/ X.env.scope.names.lookup x = some .local := by first | exact .inl rfl | exact .inr rfl | assumption) : wpAny M A (storeName X.env x u) Q E s := by
 obtain ⟨m, hn, hl⟩ := id I.loc
 have hcls : (X.env.scope.kind == .class || (X.env.scope.kind == .module && X.env.locals != X.env.globals)) = false := by rw [I.ok.kind]; rfl
 have hiσ : i < σ.length := by rw [I.len]; exact (jAr.mp hi).1
 have cne := I.cne
 have tracked : ∀ {a : Addr} {h' : Heap}, (∃ o, s.heap.get? a = some o /\ H a = none) -> Heap.SameBut a s.heap h' -> HOk X.prog X.w H h' := fun {a h'} ha hs b ob e => by
  obtain ⟨_, _, hfree⟩ := ha
  refine (I.hok b ob e).stay (fun c w' hc q => (hs.2 c ?_).trans q) (fun _ q => q) fun _ _ q => q
  rintro rfl
  rcases hc with rfl | hc
  ·rw [hfree] at e; cases e
  ·rw [hfree] at hc; cases hc
 rcases hx with hk | hk
 ·refine wpAny_storeName_local hk hn (fun h' hn' hs => ?_) hcls
  obtain ⟨oL, _, _, hoL, _⟩ := id hn
  refine h _ ⟨I.ok, I.os, I.bare, ⟨fun b o e n hb hx => ?_, fun b o e n hb hx => ?_, I.base.free, fun b o e hx => ?_, I.base.tups, I.base.frzs, I.base.tbls⟩, ⟨_, hn', fun j y v' e1 e2 e3 => ?_⟩, fun y c e => ?_, I.free, I.freeC, fun p hp => ?_, tracked ⟨oL, hoL, I.free⟩ hs, by simpa using I.len⟩ ⟨_, hs, .inl rfl⟩
  ·exact (hs.2 b (jAf (jAd (jAc e) I.ok.above))).trans (I.base.keep b o e n hb hx)
  ·obtain ⟨sl, e1⟩ := I.base.slot b o e n hb hx
   exact ⟨sl, (hs.2 b (jAf (jAd (jAc e) I.ok.above))).trans e1⟩
  ·obtain ⟨o', e1⟩ := I.base.there b o e hx
   exact ⟨o', (hs.2 b (jAf (jAd (jAc e) I.ok.above))).trans e1⟩
  ·by_cases hj : j = i
   ·subst hj
    rw [hi] at e1; cases e1
    rw [jAs hiσ] at e2
    cases e2
    exact ⟨u, r, .inl ⟨hk, by simp⟩⟩
   ·rw [jAt (Ne.symm hj)] at e2
    obtain ⟨u', r', q⟩ := hl j y v' e1 e2 e3
    refine ⟨u', r', ?_⟩
    rcases q with ⟨k, e⟩ | ⟨k, c, e, z⟩
    ·refine .inl ⟨k, ?_⟩
     have : y ≠ x := fun e => hj (qFq hN e1 (e ▸ hi))
     simp [this, e]
    ·exact .inr ⟨k, c, e, z.sameBut hs (cne y c e)⟩
  ·obtain ⟨w', z⟩ := I.cell y c e
   exact ⟨w', z.sameBut hs (cne y c e)⟩
  ·obtain ⟨e, n, ne, nf, d⟩ := I.pin p hp
   exact ⟨(hs.2 p.1 ne).trans e, n, ne, nf, d⟩
 ·have hfn : X.fn x = true := by
   rcases hf with z | z
   ·exact z
   ·rw [z] at hk; cases hk
  obtain ⟨c, hc⟩ := I.ok.has x (.inl hk)
  obtain ⟨w', z⟩ := I.cell x c hc
  refine wpAny_storeName_cell I.ok.kind hk hc z (fun h' hc' hs => ?_)
  obtain ⟨oc, hoc, hocd⟩ := id z
  refine h { s with heap := h' } ⟨I.ok, I.os, I.bare, ⟨fun b o e n hb hx => ?_, fun b o e n hb hx => ?_, I.base.free, fun b o e hx => ?_, I.base.tups, I.base.frzs, I.base.tbls⟩, ⟨m, hn.sameBut hs (Ne.symm (cne x c hc)), fun j y v' e1 e2 e3 => ?_⟩, fun y c' e => ?_, I.free, I.freeC, fun p hp => ?_, tracked ⟨oc, hoc, I.freeC x c hc⟩ hs, by simpa using I.len⟩ ⟨c, hs, .inr hc⟩
  ·exact (hs.2 b (jAf (jAd (jAc e) (I.ok.cab x c hfn hc)))).trans (I.base.keep b o e n hb hx)
  ·obtain ⟨sl, e1⟩ := I.base.slot b o e n hb hx
   exact ⟨sl, (hs.2 b (jAf (jAd (jAc e) (I.ok.cab x c hfn hc)))).trans e1⟩
  ·obtain ⟨o', e1⟩ := I.base.there b o e hx
   exact ⟨o', (hs.2 b (jAf (jAd (jAc e) (I.ok.cab x c hfn hc)))).trans e1⟩
  ·by_cases hj : j = i
   ·subst hj
    rw [hi] at e1; cases e1
    rw [jAs hiσ] at e2
    cases e2
    exact ⟨u, r, .inr ⟨.inl hk, c, hc, hc'⟩⟩
   ·rw [jAt (Ne.symm hj)] at e2
    obtain ⟨u', r', q⟩ := hl j y v' e1 e2 e3
    refine ⟨u', r', ?_⟩
    rcases q with q | ⟨k, c', e, z'⟩
    ·exact .inl q
    ·refine .inr ⟨k, c', e, z'.sameBut hs ?_⟩
     rintro rfl
     exact hj (qFq hN e1 (I.ok.inj _ _ _ e hc ▸ hi))
  ·by_cases hcc : c' = c
   ·subst hcc; exact ⟨_, hc'⟩
   ·obtain ⟨w2, z2⟩ := I.cell y c' e
    exact ⟨w2, z2.sameBut hs hcc⟩
  ·obtain ⟨e, n, ne, nf, d⟩ := I.pin p hp
   refine ⟨(hs.2 p.1 ?_).trans e, n, ne, nf, d⟩
   intro q
   rw [q, hoc] at e
   have q' : oc = p.2 := Option.some.inj e
   exact d w' (by rw [<- q']; exact hocd)
theorem qDr (I : Inv X pins σ H s) (hN : X.N.Nodup) (hi : X.N[i]? = some x) (hx : Loc X.env.scope x) (r : RelV v u)
  (h : ∀ s', Inv X pins (σ.set i (some v)) H s' -> Q () s') (hf : X.fn x = true \/ X.env.scope.names.lookup x = some .local := by first | exact .inl rfl | exact .inr rfl | assumption) : wpAny M A (storeName X.env x u) Q E s :=
 qD3 I hN hi hx r (fun s' I' _ => h s' I') hf
theorem Inv.call' (I : Inv X pins σ H s) (ho : s'.os = s.os) (u : Un (frs X.stack) ch H H' s.heap s'.heap) (hok : HOk X.prog X.w H' s'.heap) (hg : AllBare s'.gens)
  (hch : ∀ b ∈ ch, (b ∈ X.ex \/ X.s₀.heap.objs.size <= b) /\ b ≠ X.env.locals /\ (∀ x c, X.env.cells.lookup x = some c -> c ≠ b) /\ ∀ p ∈ X.pn ++ pins, p.1 ≠ b) : Inv X pins σ H' s' := by
 obtain ⟨h', g', d', t', o'⟩ := s'
 have e : o' = s.os := ho
 subst e
 exact I.call (g' := g') (t' := t') (d' := d') u hok hg hch
end
abbrev XK := Value -> Option Addr -> Hp -> Prop
abbrev St := List (Option V)
abbrev VK := V -> Hp -> Prop
abbrev TE := St -> Hp -> VK -> Prop
abbrev TT := St -> Hp -> (Bool -> Hp -> Prop) -> Prop
abbrev TA := St -> Hp -> (List V -> Hp -> Prop) -> Prop
structure Ends where
 nx : St -> Hp -> Prop
 rt : VK
 bk : St -> Hp -> Prop := fun _ _ => False
 ct : St -> Hp -> Prop := fun _ _ => False
abbrev TS := Ends -> St -> Hp -> Prop
def EP (X : Cx) (pins : List (Addr × Obj)) (σ : St) (Q : VK) (u : Value) (s' : Shared) : Prop := ∃ v H', Inv X pins σ H' s' /\ RelV v u /\ Q v H'
def TP (X : Cx) (pins : List (Addr × Obj)) (σ : St) (Q : Bool -> Hp -> Prop) (b : Bool) (s' : Shared) : Prop := ∃ H', Inv X pins σ H' s' /\ Q b H'
def AP (X : Cx) (pins : List (Addr × Obj)) (σ : St) (Q : List V -> Hp -> Prop) (us : List Value) (s' : Shared) : Prop := ∃ vs H', Inv X pins σ H' s' /\ Vals vs us /\ Q vs H'
def SP (X : Cx) (pins : List (Addr × Obj)) (D : Ends) (f : Flow) (s' : Shared) : Prop :=
 match f with
 | .next => ∃ σ' H', Inv X pins σ' H' s' /\ D.nx σ' H'
 | .brk => ∃ σ' H', Inv X pins σ' H' s' /\ D.bk σ' H'
 | .cont => ∃ σ' H', Inv X pins σ' H' s' /\ D.ct σ' H'
 | .ret u => ∃ v σ' H', Inv X pins σ' H' s' /\ RelV v u /\ D.rt v H'
def PE (X : Cx) (e : Expr) (t : TE) : Prop :=
 ∀ (pins : List (Addr × Obj)) (s : Shared) (σ : St) (H : Hp) (Q : VK), Inv X pins σ H s -> t σ H Q -> wpAny (model X.prog X.w) X.A (eval e X.env) (EP X pins σ Q) X.xe s
def PT (X : Cx) (e : Expr) (t : TT) : Prop :=
 ∀ (pins : List (Addr × Obj)) (s : Shared) (σ : St) (H : Hp) (Q : Bool -> Hp -> Prop), Inv X pins σ H s -> t σ H Q -> wpAny (model X.prog X.w) X.A (isTrue e X.env (eval e X.env)) (TP X pins σ Q) X.xe s
def PW (X : Cx) (e : Expr) (t : TT) : Prop :=
 ∀ (whole : Sem Value) (pins : List (Addr × Obj)) (s : Shared) (σ : St) (H : Hp) (Q : Bool -> Hp -> Prop), Inv X pins σ H s -> t σ H Q -> wpAny (model X.prog X.w) X.A (isTrue e X.env whole) (TP X pins σ Q) X.xe s
theorem PW.pt (h : PW X e t) : PT X e t := h _
def PA (X : Cx) (es : List Expr) (t : TA) : Prop :=
 ∀ (pos : Pos) (pins : List (Addr × Obj)) (s : Shared) (σ : St) (H : Hp) (Q : List V -> Hp -> Prop), Inv X pins σ H s -> t σ H Q -> wpAny (model X.prog X.w) X.A (spliced (backTo pos (starEach es X.env))) (AP X pins σ Q) X.xe s
def PS (X : Cx) (st : Stmt) (t : TS) : Prop :=
 ∀ (pins : List (Addr × Obj)) (s : Shared) (σ : St) (H : Hp) (D : Ends), Inv X pins σ H s -> t D σ H -> wpAny (model X.prog X.w) X.A (exec st X.env) (SP X pins D) X.xe s
def PSs (X : Cx) (st : List Stmt) (t : TS) : Prop :=
 ∀ (pins : List (Addr × Obj)) (s : Shared) (σ : St) (H : Hp) (D : Ends), Inv X pins σ H s -> t D σ H -> wpAny (model X.prog X.w) X.A (execs st X.env) (SP X pins D) X.xe s
theorem thn (h : wpAny M A t Q E s) (hQ : ∀ a s, Q a s -> Q' a s) : wpAny M A t Q' E s := wpAny_mono h hQ fun _ _ x => x
end L2
namespace L2
open PySem PySem.Spec PyProof.Rows
section
variable {X : Cx}
def tVar (i : Nat) : TE := fun σ H Q => ∃ v, σ[i]? = some (some v) /\ Q v H
def tC (v : V) : TE := fun _ H Q => Q v H
theorem pe_var (hN : X.N[i]? = some x) (hv : Vis X.env.scope x) (hd : (x == ("__debug__" : Str)) = false := by decide) (hcd : (x == ("__classdict__" : Str)) = false := by decide) : PE X (.Name x pos) (tVar i) := by
 intro pins s σ H Q I h
 obtain ⟨v, e, h⟩ := h
 obtain ⟨m, hn, hl⟩ := I.loc
 obtain ⟨u, r, l⟩ := hl i x v hN e hv
 have fin : EP X pins σ Q u s := ⟨v, H, I, r, h⟩
 rcases l with ⟨hk, hm⟩ | ⟨hk, c, hc, hcell⟩
 ·exact wpAny_Name (wpAny_loadName_local I.ok.kind hk hn hm fin) hd
 ·rcases hk with hk | hk
  ·exact wpAny_Name (wpAny_loadName_cell I.ok.kind hk hc hcell fin) hd
  ·exact wpAny_Name (wpAny_loadName_free I.ok.kind hk hc hcell fin hcd) hd
theorem pe_int {i j pos} : PE X (.Constant (.int i) j pos) (tC (.int i)) := fun _ _ _ H _ I h => wpAny_Constant_int ⟨.int i, H, I.tok _, ⟨_, rfl⟩, h⟩
theorem pe_bl {b j pos} : PE X (.Constant (.bool b) j pos) (tC (.bl b)) := fun _ _ _ H _ I h => Constant_bool ⟨.bl b, H, I, rfl, h⟩
theorem pe_non {j pos} : PE X (.Constant .none j pos) (tC .non) := fun _ _ _ H _ I h => Constant_none ⟨.non, H, I, rfl, h⟩
def Gl (X : Cx) (x : Str) : Prop := X.env.kindOf x = some .globalImplicit
theorem ld_glob (I : Inv X pins σ H s) (hg : Gl X x) (hm : X.mg x = some u) (h : Q u s)
  (hd : (x == ("__debug__" : Str)) = false := by decide) : wpAny (model X.prog X.w) X.A (eval (.Name x pos) X.env) Q E s :=
 Calls.Name_function_global I.ok.kind hg (Calls.loadGlobal_global (by rw [I.ok.glob]; exact I.mod.glob.keeps I.bk) hm h) hd
theorem qDl (I : Inv X pins σ H s) (hg : Gl X x) (hm : X.mg x = none) (hv : bootBuiltins x = some u) (h : Q u s)
  (hn : x ≠ "__name__" := by decide) (hd : (x == ("__debug__" : Str)) = false := by decide) : wpAny (model X.prog X.w) X.A (eval (.Name x pos) X.env) Q E s := by
 obtain ⟨mb, h1, h2⟩ := I.mod.blt
 exact Calls.Name_function_global I.ok.kind hg (Calls.loadGlobal_builtin (by rw [I.ok.glob]; exact I.mod.glob.keeps I.bk) hm (by rw [I.ok.blt]; exact h1.keeps I.bk) ((h2 x hn).trans hv) h) hd
theorem pe_glob (hg : Gl X x) (hm : X.mg x = some u) (r : RelV v u) (hd : (x == ("__debug__" : Str)) = false := by decide) : PE X (.Name x pos) (tC v) :=
 fun _ _ _ H _ I h => ld_glob I hg hm ⟨v, H, I, r, h⟩ hd
theorem pe_bltn (hg : Gl X x) (hm : X.mg x = none) (hv : bootBuiltins x = some u) (r : RelV v u) (hn : x ≠ "__name__" := by decide) (hd : (x == ("__debug__" : Str)) = false := by decide) : PE X (.Name x pos) (tC v) :=
 fun _ _ _ H _ I h => qDl I hg hm hv ⟨v, H, I, r, h⟩ hn hd
variable {a b : Expr} {ta tb : TE} {pos : Pos}
def tB (t : TE) : TT := fun σ H Q => t σ H fun x H1 => ∃ c, x = .bl c /\ Q c H1
theorem pt_val (h : PE X e t) (he : ∀ whole, isTrue e X.env whole = (do let v <- whole; standAt e.pos; holding [v] (truthy v)) := by intro _; rfl) : PT X e (tB t) := by
 intro pins s σ H Q I hw
 refine isTrue_plain (thn (h pins s σ H _ I hw) fun v s1 ⟨x, H1, I1, r1, q1⟩ => ?_) (he _)
 obtain ⟨d, rfl, q⟩ := q1
 cases r1
 exact wpAny_truthy_bool ⟨H1, I1, q⟩
variable {tA tB' : TT} {rest : List Expr}
def tAnd (t u : TT) : TT := fun σ H Q => t σ H fun c H1 => if c = true then u σ H1 Q else Q false H1
def tOr (t u : TT) : TT := fun σ H Q => t σ H fun c H1 => if c = true then Q true H1 else u σ H1 Q
def tNot (t : TT) : TT := fun σ H Q => t σ H fun c H1 => Q (!c) H1
theorem pw_and1 (ha : PT X a tA) : PW X (.BoolOp .And [a] pos) tA := by
 intro wh pins s σ H Q I h
 refine isTrue_and (thn (ha pins s σ H Q I h) fun c s1 e => ?_)
 cases c with
 | true => exact isTrue_and_nil e
 | false => exact e
theorem pw_or1 (ha : PT X a tA) : PW X (.BoolOp .Or [a] pos) tA := by
 intro wh pins s σ H Q I h
 refine isTrue_or (thn (ha pins s σ H Q I h) fun c s1 e => ?_)
 cases c with
 | false => exact isTrue_or_nil e
 | true => exact e
theorem pw_and (ha : PT X a tA) (hb : PW X (.BoolOp .And (b :: rest) pos) tB') : PW X (.BoolOp .And (a :: b :: rest) pos) (tAnd tA tB') := by
 intro wh pins s σ H Q I h
 refine isTrue_and (thn (ha pins s σ H _ I h) fun c s1 ⟨H1, I1, q1⟩ => ?_)
 cases c with
 | true => exact hb wh pins s1 σ H1 Q I1 q1
 | false => exact ⟨H1, I1, q1⟩
theorem pw_or (ha : PT X a tA) (hb : PW X (.BoolOp .Or (b :: rest) pos) tB') : PW X (.BoolOp .Or (a :: b :: rest) pos) (tOr tA tB') := by
 intro wh pins s σ H Q I h
 refine isTrue_or (thn (ha pins s σ H _ I h) fun c s1 ⟨H1, I1, q1⟩ => ?_)
 cases c with
 | true => exact ⟨H1, I1, q1⟩
 | false => exact hb wh pins s1 σ H1 Q I1 q1
theorem pt_not (ha : PT X a tA) : PT X (.UnaryOp .Not a pos) (tNot tA) := by
 intro pins s σ H Q I h
 exact isTrue_not (ha pins s σ H (fun c H1 => Q (!c) H1) I h)
def tAndV (ta tb : TE) : TE := fun σ H Q => ta σ H fun x H1 => ∃ c, x = .bl c /\ if c = true then tb σ H1 Q else Q (.bl false) H1
def tNotV (ta : TE) : TE := fun σ H Q => ta σ H fun x H1 => ∃ c, x = .bl c /\ Q (.bl (!c)) H1
theorem pe_one {op} (h : PE X a t) : PE X (.BoolOp op [a] pos) t := fun pins s σ H Q I hw => BoolOp_one (h pins s σ H Q I hw)
theorem pe_and (ha : PE X a ta) (hb : PE X (.BoolOp .And (b :: rest) pos) tb) : PE X (.BoolOp .And (a :: b :: rest) pos) (tAndV ta tb) := by
 intro pins s σ H Q I h
 refine BoolOp_and (thn (ha pins s σ H _ I h) fun v s1 ⟨x, H1, I1, r1, q1⟩ => ?_)
 obtain ⟨c, rfl, q1⟩ := q1
 cases r1
 refine wpAny_truthy_bool ?_
 cases c with
 | true => exact hb pins s1 σ H1 Q I1 q1
 | false => exact ⟨.bl false, H1, I1, rfl, q1⟩
theorem pe_not (ha : PE X a ta) : PE X (.UnaryOp .Not a pos) (tNotV ta) := by
 intro pins s σ H Q I h
 refine UnaryOp_ (thn (ha pins s σ H _ I h) fun v s1 ⟨x, H1, I1, r1, q1⟩ => ?_)
 obtain ⟨c, rfl, q1⟩ := q1
 cases r1
 exact not_of (wpAny_truthy_bool ⟨.bl (!c), H1, I1, rfl, q1⟩)
def tIf (t : TT) (ta tb : TE) : TE := fun σ H Q => t σ H fun c H1 => if c = true then ta σ H1 Q else tb σ H1 Q
theorem pe_ifExp (hc : PT X c tA) (ha : PE X a ta) (hb : PE X b tb) : PE X (.IfExp c a b pos) (tIf tA ta tb) := by
 intro pins s σ H Q I h
 refine wpAny_IfExp (thn (hc pins s σ H _ I h) fun d s1 ⟨H1, I1, q1⟩ => ?_)
 cases d with
 | true => exact ha pins s1 σ H1 Q I1 q1
 | false => exact hb pins s1 σ H1 Q I1 q1
end
end L2
namespace L2
open PySem PySem.Spec PyProof.Rows
def SqL (K : PySem.W.Frag) (H : Hp) (a : Addr) (xs : List V) : Prop :=
 Rd H a (.lst xs) \/
  ∃ (o : Obj) (its : Array Value) (n : Nat), K.lookup a = some o /\ o.cls = .type "list" /\ o.dict = none /\ o.data = .seq its n /\ its.size <= sizeLine /\ Vals xs its.toList
def SqT (K : PySem.W.Frag) (H : Hp) (a : Addr) (xs : List V) : Prop :=
 Rd H a (.tup xs) \/
  ∃ (o : Obj) (its : Array Value) (n : Nat), K.lookup a = some o /\ o.cls = .type "tuple" /\ o.data = .seq its n /\ its.size <= sizeLine /\ Vals xs its.toList
def absV : Value -> Option V
 | .none => some .non
 | .bool b => some (.bl b)
 | .int i _ => some (.int i)
 | .str x _ => some (.str x)
 | .bytes b _ => some (.byt b)
 | .float b _ => some (.flt b)
 | .ref a => some (.ref a)
 | .type n => some (.ty n)
 | _ => none
theorem RelV.abs (r : RelV x u) : absV u = some x := by
 cases x with
 | non => cases r; rfl
 | bl _ => cases r; rfl
 | int _ => obtain ⟨t, rfl⟩ := r; rfl
 | str _ => obtain ⟨t, rfl⟩ := r; rfl
 | byt _ => obtain ⟨t, rfl⟩ := r; rfl
 | flt _ => obtain ⟨t, rfl⟩ := r; rfl
 | ref _ => cases r; rfl
 | ty _ => cases r; rfl
theorem RelV.inj (r : RelV x u) (q : RelV y u) : x = y := Option.some.inj (r.abs.symm.trans q.abs)
theorem Vals.inj : ∀ {xs ys : List V} {us : List Value}, Vals xs us -> Vals ys us -> xs = ys
 | _, _, _, .nil, .nil => rfl
 | _, _, _, .cons r t, .cons r' t' => by rw [r.inj r', Vals.inj t t']
section
variable {X : Cx} {pins : List (Addr × Obj)} {σ : St} {H : Hp} {s : Shared} {a : Addr} {xs ys : List V}
theorem SqT.of {K : PySem.W.Frag} (h : H a = some (.tup xs)) : SqT K H a xs := .inl (.inl h)
theorem Inv.list (I : Inv X pins σ H s) (h : SqL X.K H a xs) : ∃ its : List Value, Vals xs its /\ PlainL s.heap a its.toArray /\ xs.length <= sizeLine := by
 rcases h with h | ⟨o, its, n, hk, hc, hd, hs, hz, r⟩
 ·obtain ⟨z, its, n, r, e⟩ := h.ok I.hok
  exact ⟨its, r, ⟨_, n, e, rfl, rfl, rfl⟩, z⟩
 ·refine ⟨its.toList, r, ⟨o, n, I.kIn a o hk, hc, hd, by simpa using hs⟩, ?_⟩
  have e := r.length
  simp only [Array.length_toList] at e
  omega
theorem Inv.tuple (I : Inv X pins σ H s) (h : SqT X.K H a xs) : ∃ its : List Value, Vals xs its /\ IsTup s.heap a its.toArray /\ xs.length <= sizeLine := by
 rcases h with h | ⟨o, its, n, hk, hc, hs, hz, r⟩
 ·obtain ⟨z, its, r, p⟩ := h.ok I.hok
  exact ⟨its, r, p, z⟩
 ·refine ⟨its.toList, r, ⟨o, I.kIn a o hk, hc, n, by simpa using hs⟩, ?_⟩
  have e := r.length
  simp only [Array.length_toList] at e
  omega
theorem Inv.list_inj (I : Inv X pins σ H s) (h : SqL X.K H a xs) (h' : SqL X.K H a ys) : xs = ys := by
 obtain ⟨its, r, ⟨o, n, e, _, _, d⟩, _⟩ := I.list h
 obtain ⟨its', r', ⟨o', n', e', _, _, d'⟩, _⟩ := I.list h'
 rw [e] at e'; cases e'
 rw [d] at d'
 injection d' with d1 _
 have : its = its' := by simpa using congrArg Array.toList d1
 subst this
 exact r.inj r'
theorem Inv.tuple_inj (I : Inv X pins σ H s) (h : SqT X.K H a xs) (h' : SqT X.K H a ys) : xs = ys := by
 obtain ⟨its, r, ⟨o, e, _, n, d⟩, _⟩ := I.tuple h
 obtain ⟨its', r', ⟨o', e', _, n', d'⟩, _⟩ := I.tuple h'
 rw [e] at e'; cases e'
 rw [d] at d'
 injection d' with d1 _
 have : its = its' := by simpa using congrArg Array.toList d1
 subst this
 exact r.inj r'
end
abbrev Cx.wish (X : Cx) (E : Value -> Shared -> Prop) : Cx := { X with xe := E }
abbrev Cx.nox (X : Cx) : Cx := X.wish fun _ _ => False
theorem Cx.Ok.wish {X : Cx} (ok : X.Ok) (E : Value -> Shared -> Prop) : (X.wish E).Ok :=
 ⟨ok.mod, ok.kind, ok.glob, ok.blt, ok.above, ok.inj, ok.has, ok.cab, ok.hd, ok.frames, ok.stk, ok.exf, ok.bs, ok.bsz, ok.noex, ok.exfs, ok.funs, ok.frf⟩
theorem Cx.Ok.unwish {X : Cx} {E : Value -> Shared -> Prop} (ok : (X.wish E).Ok) : X.Ok :=
 ⟨ok.mod, ok.kind, ok.glob, ok.blt, ok.above, ok.inj, ok.has, ok.cab, ok.hd, ok.frames, ok.stk, ok.exf, ok.bs, ok.bsz, ok.noex, ok.exfs, ok.funs, ok.frf⟩
section
variable {X : Cx} {pins : List (Addr × Obj)} {σ : St} {H : Hp} {s : Shared} {E : Value -> Shared -> Prop}
theorem Inv.wish (I : Inv X pins σ H s) (E : Value -> Shared -> Prop) : Inv (X.wish E) pins σ H s := ⟨I.ok.wish E, I.os, I.bare, I.base, I.loc, I.cell, I.free, I.freeC, I.pin, I.hok, I.len⟩
theorem Inv.unwish (I : Inv (X.wish E) pins σ H s) : Inv X pins σ H s := ⟨I.ok.unwish, I.os, I.bare, I.base, I.loc, I.cell, I.free, I.freeC, I.pin, I.hok, I.len⟩
theorem SP.unwish (h : SP (X.wish E) pins D f s') : SP X pins D f s' := by
 cases f with
 | next => obtain ⟨σ', H', I, q⟩ := h; exact ⟨σ', H', I.unwish, q⟩
 | brk => obtain ⟨σ', H', I, q⟩ := h; exact ⟨σ', H', I.unwish, q⟩
 | cont => obtain ⟨σ', H', I, q⟩ := h; exact ⟨σ', H', I.unwish, q⟩
 | ret u => obtain ⟨v, σ', H', I, r, q⟩ := h; exact ⟨v, σ', H', I.unwish, r, q⟩
theorem PE.nox (h : PE X.nox e t) : PE X e t := fun pins s σ H Q I hw =>
 wpAny_mono (h pins s σ H Q (I.wish _) hw) (fun _ _ ⟨v, H', I', r, q⟩ => ⟨v, H', I'.unwish, r, q⟩) fun _ _ z => False.elim z
theorem PT.nox (h : PT X.nox e t) : PT X e t := fun pins s σ H Q I hw =>
 wpAny_mono (h pins s σ H Q (I.wish _) hw) (fun _ _ ⟨H', I', q⟩ => ⟨H', I'.unwish, q⟩) fun _ _ z => False.elim z
theorem PSs.nox {st : List Stmt} {t : TS} (h : PSs X.nox st t) : PSs X st t := fun pins s σ H D I hw =>
 wpAny_mono (h pins s σ H D (I.wish _) hw) (fun _ _ q => q.unwish) fun _ _ z => False.elim z
end
section
variable {X : Cx} {st : Stmt} {rest : List Stmt} {t u : TS} {e : Expr} {te : TE} {pos : Pos}
def tNext : TS := fun D σ H => D.nx σ H
def tSeq (t u : TS) : TS := fun D σ H => t { D with nx := u D } σ H
theorem pss_nil : PSs X [] tNext := fun _ _ σ H _ I h => wpAny_execs_nil ⟨σ, H, I, h⟩
theorem pss_cons (h1 : PS X st t) (h2 : PSs X rest u) : PSs X (st :: rest) (tSeq t u) := by
 intro pins s σ H D I h
 refine wpAny_execs_cons (thn (h1 pins s σ H { D with nx := u D } I h) fun f s1 q => ?_)
 cases f with
 | next =>
  obtain ⟨σ', H', I', q⟩ := q
  exact h2 pins s1 σ' H' D I' q
 | ret v => exact q
 | brk => exact q
 | cont => exact q
theorem pss_one (h1 : PS X st t) : PSs X [st] t := by
 intro pins s σ H D I h
 refine wpAny_execs_cons (thn (h1 pins s σ H D I h) fun f s1 q => ?_)
 cases f with
 | next => exact wpAny_execs_nil q
 | ret v => exact q
 | brk => exact q
 | cont => exact q
theorem Inv.quiet (I : Inv X pins σ H s) : interactive X.env = false := by simp [interactive, I.ok.kind]
def tDrop (te : TE) : TS := fun D σ H => te σ H fun _ H1 => D.nx σ H1
theorem ps_expr (he : PE X e te) (hs : swapsWith e none pos.line X.env = pure false := by rfl) : PS X (.Expr e pos) (tDrop te) := by
 intro pins s σ H D I h
 exact wpAny_Expr_any (thn (he pins s σ H _ I h) fun v s1 ⟨x, H1, I1, r1, q1⟩ => ⟨σ, H1, I1, q1⟩) I.quiet hs
def tRet (te : TE) : TS := fun D σ H => te σ H D.rt
theorem ps_ret (he : PE X e te) : PS X (.Return (some e) pos) (tRet te) := by
 intro pins s σ H D I h
 exact wpAny_Return_some (thn (he pins s σ H _ I h) fun v s1 ⟨x, H1, I1, r1, q1⟩ => ⟨x, σ, H1, I1, r1, q1⟩)
def tIfS (c : TT) (t u : TS) : TS := fun D σ H => c σ H fun b H1 => if b = true then t D σ H1 else u D σ H1
theorem ps_if (hc : PT X c tc) (ha : PSs X a t) (hb : PSs X b u) : PS X (.If c a b pos) (tIfS tc t u) := by
 intro pins s σ H D I h
 refine wpAny_If (thn (hc pins s σ H _ I h) fun d s1 ⟨H1, I1, q1⟩ => ?_)
 cases d with
 | true => exact ha pins s1 σ H1 D I1 q1
 | false => exact hb pins s1 σ H1 D I1 q1
def tNever : TS := fun _ _ _ => False
theorem ps_never : PS X st tNever := fun _ _ _ _ _ _ h => h.elim
theorem pss_never : PSs X sts tNever := fun _ _ _ _ _ _ h => h.elim
end
abbrev TG := V -> St -> Hp -> (St -> Hp -> Prop) -> Prop
abbrev TGs := List V -> St -> Hp -> (St -> Hp -> Prop) -> Prop
def PG (X : Cx) (target : Expr) (t : TG) : Prop :=
 ∀ (pins : List (Addr × Obj)) (s : Shared) (σ : St) (H : Hp) (v : V) (u : Value) (Q : St -> Hp -> Prop), Inv X pins σ H s -> RelV v u -> t v σ H Q ->
  wpAny (model X.prog X.w) X.A (assign target X.env u) (fun _ s' => ∃ σ' H', Inv X pins σ' H' s' /\ Q σ' H') X.xe s
def PGs (X : Cx) (ts : List Expr) (t : TGs) : Prop :=
 ∀ (pins : List (Addr × Obj)) (s : Shared) (σ : St) (H : Hp) (vs : List V) (us : List Value) (Q : St -> Hp -> Prop), Inv X pins σ H s -> Vals vs us -> t vs σ H Q ->
  wpAny (model X.prog X.w) X.A (assignInOrder ((assignEach ts X.env).map (·.2)) us) (fun _ s' => ∃ σ' H', Inv X pins σ' H' s' /\ Q σ' H') X.xe s
abbrev TSet := V -> V -> V -> Hp -> (Hp -> Prop) -> Prop
def PSet (X : Cx) (t : TSet) : Prop :=
 ∀ (pins : List (Addr × Obj)) (s : Shared) (σ : St) (H : Hp) (o i v : V) (ov iv u : Value) (Q : Hp -> Prop), Inv X pins σ H s -> RelV o ov -> RelV i iv -> RelV v u -> t o i v H Q ->
  wpAny (model X.prog X.w) X.A (setItem ov iv u) (fun _ s' => ∃ H', Inv X pins σ H' s' /\ Q H') X.xe s
section
variable {X : Cx} {pos : Pos}
def gName (i : Nat) : TG := fun v σ H Q => Q (σ.set i (some v)) H
theorem pg_name (hN : X.N.Nodup) (hi : X.N[i]? = some x) (hx : Loc X.env.scope x) (hf : X.fn x = true \/ X.env.scope.names.lookup x = some .local := by first | exact .inl rfl | exact .inr rfl | assumption) : PG X (.Name x pos) (gName i) := by
 intro pins s σ H v u Q I r h
 exact wpAny_assign_Name (qDr I hN hi hx r (fun s' I' => ⟨_, H, I', h⟩) hf)
def gNil : TGs := fun vs σ H Q => vs = [] /\ Q σ H
def gCons (t : TG) (u : TGs) : TGs := fun vs σ H Q => ∃ v r, vs = v :: r /\ t v σ H fun σ' H' => u r σ' H' Q
theorem pgs_nil : PGs X [] gNil := by
 intro pins s σ H vs us Q I r h
 obtain ⟨e, h⟩ := h
 subst e
 cases r
 exact assignInOrder_nil ⟨σ, H, I, h⟩
theorem pgs_cons (h1 : PG X e t) (h2 : PGs X es u)
  (hs : (assignEach (e :: es) X.env).map (·.2) = assign e X.env :: (assignEach es X.env).map (·.2) := by rfl) : PGs X (e :: es) (gCons t u) := by
 intro pins s σ H vs us Q I r h
 obtain ⟨v, vr, e1, h⟩ := h
 subst e1
 cases r with
 | cons r rr =>
  rw [hs]
  refine assignInOrder_cons (thn (h1 pins s σ H _ _ _ I r h) fun _ s1 ⟨σ1, H1, I1, q1⟩ => ?_)
  exact h2 pins s1 σ1 H1 _ _ Q I1 rr q1
def gTup (K : PySem.W.Frag) (n : Nat) (t : TGs) : TG := fun v σ H Q => ∃ a xs, v = .ref a /\ SqT K H a xs /\ xs.length = n /\ t xs σ H Q
theorem pg_tup (hc : X.calm = true) (h : PGs X es t)
  (hn : (assignEach es X.env).length = n := by rfl) (hst : (assignEach es X.env).findIdx? (·.1) = none := by rfl) : PG X (.Tuple es k pos) (gTup X.K n t) := by
 intro pins s σ H v u Q I r hw
 obtain ⟨a, xs, e1, hq, hl, hw⟩ := hw
 subst e1
 cases r
 obtain ⟨its, rv, ht, hz⟩ := I.tuple hq
 refine assign_Tuple_tuple (I.ok.hd hc) ht (by simp [hn, <- hl, rv.length]) hst fun h' hx => ?_
 have I1 : Inv X pins σ H { s with heap := h' } := I.kept (t' := s.toks) fun b o e => hx b o (jAf (jAc e)) e
 exact h pins _ σ H xs _ Q I1 (by simpa using rv) hw
def gSub (to ti : TE) (t : TSet) : TG := fun v σ H Q => to σ H fun o H1 => ti σ H1 fun i H2 => t o i v H2 fun H3 => Q σ H3
theorem pg_sub (ho : PE X o to) (hi : PE X i ti) (hs : PSet X t)
  (ha : ∀ v, assign (.Subscript o i pos) X.env v = (do
   let ov <- holding [v] (eval o X.env)
   let iv <- holding [v, ov] (eval i X.env)
   standAt pos
   holding [v, ov, iv] (setItem ov iv v)
   release [v, ov, iv] []) := by intro _; rfl) : PG X (.Subscript o i pos) (gSub to ti t) := by
 intro pins s σ H v u Q I r h
 rw [ha]
 refine wpAny_bind (wpAny_holding (thn (ho pins s σ H _ I h) fun ov s1 ⟨x, H1, I1, r1, q1⟩ => ?_))
 refine wpAny_bind (wpAny_holding (thn (hi pins s1 σ H1 _ I1 q1) fun iv s2 ⟨y, H2, I2, r2, q2⟩ => ?_))
 refine wpAny_bind (wpAny_standAt (wpAny_bind (wpAny_holding (thn (hs pins s2 σ H2 x y v ov iv u _ I2 r1 r2 r q2) fun _ s3 ⟨H3, I3, q3⟩ => ?_))))
 exact wpAny_release ⟨σ, H3, I3, q3⟩
def tAsg (te : TE) (g : TG) : TS := fun D σ H => te σ H fun x H1 => g x σ H1 D.nx
theorem ps_asg (he : PE X e te) (hg : PG X tg g) (hs : swapsWithSole [tg] e pos.line X.env = pure false := by rfl) (hw : swappedStores [tg] e X.env = pure none := by rfl)
  (h1 : (assignEach [tg] X.env).map (·.2) = [assign tg X.env] := by rfl) : PS X (.Assign [tg] e pos) (tAsg te g) := by
 intro pins s σ H D I h
 refine wpAny_Assign_stores (thn (he pins s σ H _ I h) fun v s1 ⟨x, H1, I1, r1, q1⟩ => ?_) hs hw
 rw [h1]
 exact thn (hg pins s1 σ H1 x v _ I1 r1 q1) fun _ s2 q => q
theorem ps_set (hN : X.N.Nodup) (hi : X.N[i]? = some x) (hx : Loc X.env.scope x) (he : PE X e te) (hs : swapsWith e (some (.Name x pos')) pos.line X.env = pure false := by rfl) (hf : X.fn x = true \/ X.env.scope.names.lookup x = some .local := by first | exact .inl rfl | exact .inr rfl | assumption) :
  PS X (.Assign [.Name x pos'] e pos) (tAsg te (gName i)) := by
 intro pins s σ H D I h
 refine wpAny_Assign_Name (thn (he pins s σ H _ I h) fun v s1 ⟨y, H1, I1, r1, q1⟩ => ?_) hs
 exact qDr I1 hN hi hx r1 (fun s2 I2 => ⟨_, H1, I2, q1⟩) hf
def tPar (i j : Nat) (ta : TA) : TS := fun D σ H => ta σ H fun vs H1 => ∃ v w, vs = [v, w] /\ D.nx ((σ.set i (some v)).set j (some w)) H1
theorem ps_par {kt k2 pt2} (hc : X.calm = true) (hN : X.N.Nodup) (hi : X.N[i]? = some x) (hj : X.N[j]? = some y) (hij : i ≠ j)
  (hx : X.env.scope.names.lookup x = some .local) (hy : X.env.scope.names.lookup y = some .local) (ha : PA X [a, b] ta)
  (hw : swappedStores [.Tuple [.Name x px, .Name y py] kt pt] (.Tuple [a, b] k2 pt2) X.env = pure (some [x, y]))
  (hs : swapsWithSole [.Tuple [.Name x px, .Name y py] kt pt] (.Tuple [a, b] k2 pt2) pos.line X.env = pure false := by rfl) :
  PS X (.Assign [.Tuple [.Name x px, .Name y py] kt pt] (.Tuple [a, b] k2 pt2) pos) (tPar i j ta) := by
 intro pins s σ H D I h
 rw [exec_Assign_arm]
 refine wpAny_bind (wpAny_standAt ?_)
 rw [hs]
 refine wpAny_bind (wpAny_pure ?_)
 rw [if_neg (by decide)]
 refine wpAny_bind (Tuple_ (thn (ha _ pins s σ H _ I h) fun us s1 ⟨vs, H1, I1, r1, q1⟩ => ?_))
 obtain ⟨v, w, e1, q1⟩ := q1
 subst e1
 obtain ⟨u1, u2, rfl, rv, rw'⟩ : ∃ u1 u2, us = [u1, u2] /\ RelV v u1 /\ RelV w u2 := by
  cases r1 with
  | cons p q =>
   cases q with
   | cons p' q' =>
    cases q'
    exact ⟨_, _, rfl, p, p'⟩
 refine wpAny_newObj_type ?_ (by show 2 <= sizeLine; decide)
 have I2 : Inv X pins σ H1 { s1 with heap := s1.heap.push { cls := .type "tuple", data := .seq [u1, u2].toArray } } := I1.kept (t' := s1.toks) fun b o e => jAu _ e
 rw [hw]
 refine wpAny_bind (wpAny_pure ?_)
 show wpAny (model X.prog X.w) X.A (do rule "assign.swapped-stores"; let items <- unpackItems (.ref s1.heap.objs.size) 2 none; assignInOrder [fun v => bindName X.env y v, fun v => bindName X.env x v] items.reverse; pure Flow.next) _ _ _
 refine wpAny_bind (wpAny_rule (wpAny_bind (unpackItems_tuple (items := #[u1, u2]) (I.ok.hd hc) (IsTup.new s1.heap _) fun h' hx' => ?_)))
 have I3 := I2.kept (h' := h') (t' := s1.toks) fun b o e => hx' b o (jAf (jAc e)) e
 show wpAny _ _ (assignInOrder [fun v => bindName X.env y v, fun v => bindName X.env x v] [u2, u1] >>= fun _ => pure Flow.next) _ _ _
 refine wpAny_bind (assignInOrder_cons (wpAny_bindName (qDr I3 hN hj (.inl hy) rw' (fun s2 I4 => ?_) (.inr hy))))
 refine assignInOrder_cons (wpAny_bindName (qDr I4 hN hi (.inl hx) rv (fun s3 I5 => assignInOrder_nil (wpAny_pure ?_)) (.inr hx)))
 rw [List.set_comm _ _ (Ne.symm hij)] at I5
 exact ⟨_, H1, I5, q1⟩
end
section
variable {X : Cx} {pos : Pos}
def tWhile (c : TT) (tb : TS) : TS := fun D σ H => ∃ W : Nat -> St -> Hp -> Prop, (∃ m, W m σ H) /\ ∀ m σ H, W m σ H ->
 c σ H fun b H1 => if b = true then ∃ N : St -> Hp -> Prop, (∀ σ' H', N σ' H' -> ∃ m', m' < m /\ W m' σ' H') /\ tb { D with nx := N, ct := N, bk := D.nx } σ H1 else D.nx σ H1
theorem ps_while (hp : PassesOwn (model X.prog X.w) X.A X.env X.xe) (hc : PT X c tc) (hb : PSs X body tb) : PS X (.While c body [] pos) (tWhile tc tb) := by
 intro pins s σ H D I h
 obtain ⟨W, ⟨m0, w0⟩, turn⟩ := h
 refine wpAny_While (codeAny_whileLoop (fun n s' => ∃ σ' H', Inv X pins σ' H' s' /\ W n σ' H') ?_ m0 ⟨σ, H, I, w0⟩)
 rintro n s1 ⟨σ1, H1, I1, w1⟩
 refine wpAny_passesOwn hp (thn (hc pins s1 σ1 H1 _ I1 (turn n σ1 H1 w1)) fun b s2 ⟨H2, I2, q2⟩ => ?_)
 cases b with
 | true =>
  obtain ⟨N, hN, q2⟩ := q2
  rw [if_pos rfl]
  refine wpAny_passesOwn hp (thn (hb pins s2 σ1 H2 _ I2 q2) fun f s3 q3 => ?_)
  cases f with
  | next =>
   obtain ⟨σ3, H3, I3, n3⟩ := q3
   obtain ⟨m', hm, w3⟩ := hN σ3 H3 n3
   exact ⟨m', hm, σ3, H3, I3, w3⟩
  | cont =>
   obtain ⟨σ3, H3, I3, n3⟩ := q3
   obtain ⟨m', hm, w3⟩ := hN σ3 H3 n3
   exact ⟨m', hm, σ3, H3, I3, w3⟩
  | brk => exact q3
  | ret v => exact q3
 | false =>
  rw [if_neg Bool.false_ne_true]
  exact wpAny_execs_nil ⟨σ1, H2, I2, q2⟩
end
structure It where
 go : Nat -> Hp -> Prop
 yld : Nat -> Hp -> V -> Hp -> Prop
 stop : Nat -> Hp -> Prop
def FpOk (X : Cx) (pins : List (Addr × Obj)) (H : Hp) (b : Addr) : Prop :=
 H b = none /\ b ≠ X.env.locals /\ b ∉ X.fs /\ (b ∈ X.ex \/ X.s₀.heap.objs.size <= b) /\ (∀ x c, X.env.cells.lookup x = some c -> c ≠ b) /\ ∀ p ∈ X.pn ++ pins, p.1 ≠ b
theorem Inv.fpOk (I : Inv X pins σ H s) (hb : s.heap.objs.size <= b) (hn : H' b = none) : FpOk X pins H' b := by
 refine ⟨hn, jAv (jAd I.lt hb), I.nofs hb, .inr (jAj I.sz hb), fun x c e z => ?_, fun p hp z => ?_⟩
 ·obtain ⟨v, q⟩ := I.cell x c e
  exact absurd (jAd q.lt (by rw [z]; exact hb)) (jAe _)
 ·exact absurd (jAd (jAc (I.pin p hp).1) (by rw [z]; exact hb)) (jAe _)
structure Turn (P : Program) (w : World) (K : PySem.W.Frag) (tg : Expr) (J : It) (fp : List Addr) (it : Addr) (tn : Nat -> Heap -> Prop) : Prop where
 mem : it ∈ fp
 obj : ∀ i h, tn i h -> ∀ b ∈ fp, ∃ o, h.get? b = some o /\ ∀ v, o.data ≠ .cell v
 keep : ∀ i h h', tn i h -> (∀ b ∈ fp, ∀ o, h.get? b = some o -> h'.get? b = some o) -> tn i h'
 item : ∀ (X : Cx), X.prog = P -> X.w = w -> X.K = K -> X.calm = true -> ∀ (i : Nat) (pins : List (Addr × Obj)) (s : Shared) (σ : St) (H : Hp) (E : Value -> Shared -> Prop), Inv X pins σ H s -> (∀ b ∈ fp, FpOk X pins H b) -> tn i s.heap -> J.go i H ->
  wpAny (model P w) X.A (pyNext (.ref it)) (fun r s1 => ∃ u, r = some u /\
   wpAny (model P w) X.A (letOwnedTupleGo tg (.ref it) u) (fun _ s2 => ∃ x H', Inv X pins σ H' s2 /\ RelV x u /\ J.yld i H x H' /\ tn (i + 1) s2.heap /\ ∀ b ∈ fp, H' b = none) E s1) E s
 done : ∀ (X : Cx), X.prog = P -> X.w = w -> X.K = K -> X.calm = true -> ∀ (i : Nat) (pins : List (Addr × Obj)) (s : Shared) (σ : St) (H : Hp) (E : Value -> Shared -> Prop), Inv X pins σ H s -> (∀ b ∈ fp, FpOk X pins H b) -> tn i s.heap -> J.stop i H ->
  wpAny (model P w) X.A (pyNext (.ref it)) (fun r s1 => r = none /\ Inv X pins σ H s1) E s
 self : ∀ (A : Around) (i : Nat) (s : Shared) (Q : Value -> Shared -> Prop) (E : Value -> Shared -> Prop), tn i s.heap -> Q (.ref it) s -> wpAny (model P w) A (pyIter (.ref it)) Q E s
abbrev TI := St -> Hp -> (It -> Hp -> Prop) -> Prop
def PIE (X : Cx) (pins : List (Addr × Obj)) (σ : St) (tg : Expr) (R : It -> Hp -> Prop) (itv : Value) (s2 : Shared) : Prop :=
 ∃ (it : Addr) (fp : List Addr) (tn : Nat -> Heap -> Prop) (J : It) (H' : Hp), itv = .ref it /\ Inv X pins σ H' s2 /\ Turn X.prog X.w X.K tg J fp it tn /\ tn 0 s2.heap /\ (∀ b ∈ fp, FpOk X pins H' b) /\ R J H'
def PI (X : Cx) (tg iter : Expr) (wi : TI) : Prop :=
 ∀ (pins : List (Addr × Obj)) (s : Shared) (σ : St) (H : Hp) (R : It -> Hp -> Prop), Inv X pins σ H s -> wi σ H R ->
  wpAny (model X.prog X.w) X.A (eval iter X.env) (fun v s1 => wpAny (model X.prog X.w) X.A (pyIter v) (PIE X pins σ tg R) X.xe s1) X.xe s
theorem go_of (ho : s.heap.get? it = some o) (hc : o.cls = .type n) (hd : o.data = .fields vs)
    (hn : ["enumerate", "zip", "dict_itemiterator", "dict_reverseitemiterator", "odict_iterator", "itertools.zip_longest", "itertools.pairwise"].contains n = false) (hQ : Q () s) : wpAny M A (letOwnedTupleGo tg (.ref it) u) Q E s := by
  unfold letOwnedTupleGo
  cases tg <;> first
    | exact wpAny_pure hQ
    | (cases u <;> first
        | exact wpAny_pure hQ
        | (refine wpAny_bind (wpAny_load ho ?_)
           rw [hc, hd]
           show wpAny M A (if (["enumerate", "zip", "dict_itemiterator", "dict_reverseitemiterator", "odict_iterator", "itertools.zip_longest", "itertools.pairwise"].contains n && vs[0]? == some (rawInt _)) = true then _ else _) Q E s
           rw [if_neg (by intro h; rw [hn, Bool.false_and] at h; cases h)]
           exact wpAny_pure hQ))
def Itl (K : PySem.W.Frag) (a : Addr) : It :=
 ⟨fun i H => ∃ xs x, SqL K H a xs /\ xs[i]? = some x, fun i H x H' => H' = H /\ ∀ xs, SqL K H a xs -> xs[i]? = some x, fun i H => ∃ xs, SqL K H a xs /\ xs.length <= i⟩
def Itr (lo : Int) (n : Nat) : It := ⟨fun i _ => i < n, fun i H x H' => H' = H /\ x = .int (lo + i), fun i _ => n <= i⟩
theorem turn_list {P : Program} {w : World} {K : PySem.W.Frag} {tg : Expr} (a it : Addr) : Turn P w K tg (Itl K a) [it] it (fun i h => h.IsListIter it a i) where
 mem := by simp
 obj := fun i h st b hb => by
  have e : b = it := by simpa using hb
  subst e
  obtain ⟨o, e, c, d⟩ := st
  exact ⟨o, e, fun v z => by rw [d] at z; cases z⟩
 keep := fun i h h' st k => st.at fun o e => k it (by simp) o e
 item := by
  intro X hP hw hK hc i pins s σ H E I hf st hg
  subst hP hw hK
  obtain ⟨xs, x, hq, hx⟩ := hg
  obtain ⟨its, rv, p, hz⟩ := I.list hq
  obtain ⟨u, hu, ru⟩ := rv.get hx
  obtain ⟨f0, f1, f2, f3, f4, f5⟩ := hf it (by simp)
  refine wpAny_pyNext_list_item st p.isList (x := u) (by simpa using hu) fun h' st' sb => ?_
  have I1 : Inv X pins σ H { s with heap := h' } := I.turned (t' := s.toks) (fun b o hb e => (sb.2 b hb).trans e) f0 f1 f3 f4 f5
  obtain ⟨o, e, c, d⟩ := id st'
  exact ⟨u, rfl, go_of (s := { s with heap := h' }) e c d (by decide) ⟨x, H, I1, ru, ⟨rfl, fun ys hy => by rw [I.list_inj hy hq]; exact hx⟩, st', fun b hb => (hf b hb).1⟩⟩
 done := by
  intro X hP hw hK hc i pins s σ H E I hf st hg
  subst hP hw hK
  obtain ⟨xs, hq, hx⟩ := hg
  obtain ⟨its, rv, p, hz⟩ := I.list hq
  obtain ⟨f0, f1, f2, f3, f4, f5⟩ := hf it (by simp)
  have hl := rv.length
  exact wpAny_pyNext_list_end (I.ok.hd hc) st p.isList (by simp; omega) fun h' eb => ⟨rfl, I.turned (t' := s.toks) (fun b o hb e => eb b o hb e) f0 f1 f3 f4 f5⟩
 self := fun _ _ _ _ _ st h => wpAny_pyIter_listiter st h
theorem turn_range {P : Program} {w : World} {K : PySem.W.Frag} {tg : Expr} (it : Addr) (lo : Int) (n : Nat) : Turn P w K tg (Itr lo n) [it] it (fun i h => IsRangeIter h it (lo + (i : Nat) * 1) ((n : Int) - (i : Nat)) 1) where
 mem := by simp
 obj := fun i h st b hb => by
  have e : b = it := by simpa using hb
  subst e
  exact ⟨_, st, fun v z => by
   have z' : Data.fields _ = Data.cell v := z
   cases z'⟩
 keep := fun i h h' st k => k it (by simp) _ st
 item := by
  intro X hP hw hK hc i pins s σ H E I hf st hg
  subst hP hw hK
  obtain ⟨f0, f1, f2, f3, f4, f5⟩ := hf it (by simp)
  have W := Walks.range (prog := X.prog) (w := X.w) (I.ok.hd hc) it lo 1 n
  refine W.item i s _ _ hg st fun v h' tk hv st' kk => ?_
  obtain ⟨t, rfl⟩ := hv
  have I1 : Inv X pins σ H { s with heap := h', toks := tk } := I.turned (fun b o hb e => kk b o (by simpa using hb) e) f0 f1 f3 f4 f5
  refine ⟨_, rfl, go_of (s := { s with heap := h', toks := tk }) (n := "range_iterator") st' rfl rfl (by decide) ⟨.int (lo + i), H, I1, ⟨t, ?_⟩, ⟨rfl, rfl⟩, st', fun b hb => (hf b hb).1⟩⟩
  rw [Int.mul_one]
 done := by
  intro X hP hw hK hc i pins s σ H E I hf st hg
  subst hP hw hK
  obtain ⟨f0, f1, f2, f3, f4, f5⟩ := hf it (by simp)
  exact wpAny_pyNext_range_end (I.ok.hd hc) st (by have : n <= i := hg; omega) fun h' eb => ⟨rfl, I.turned (t' := s.toks) (fun b o hb e => eb b o hb e) f0 f1 f3 f4 f5⟩
 self := fun _ _ _ _ _ st h => wpAny_pyIter_rangeiter st h
end L2
namespace L2
open PySem PySem.Spec PyProof.Rows
section
variable {X : Cx} {tg : Expr}
def iList (K : PySem.W.Frag) (tl : TE) : TI := fun σ H R => tl σ H fun x H1 => ∃ a, x = .ref a /\ (∃ xs, SqL K H1 a xs) /\ R (Itl K a) H1
theorem pi_list {l : Expr} {tl : TE} (hl : PE X l tl) : PI X tg l (iList X.K tl) := by
 intro pins s σ H R I h
 refine thn (hl pins s σ H _ I h) fun v s1 ⟨x, H1, I1, r1, q1⟩ => ?_
 obtain ⟨a, e, ⟨xs, hq⟩, q⟩ := q1
 subst e
 cases r1
 obtain ⟨its, rv, p, hz⟩ := I1.list hq
 refine wpAny_pyIter_list p.isList ?_
 refine ⟨s1.heap.objs.size, [s1.heap.objs.size], _, _, H1, rfl, I1.kept (t' := s1.toks) fun b o e => jAu _ e, turn_list a _, ⟨_, jAw _ rfl, rfl, rfl⟩, fun b hb => ?_, q⟩
 have e : b = s1.heap.objs.size := by simpa using hb
 subst e
 exact I1.fpOk (jAx _) (I1.hok.fresh (jAx _))
theorem range_it {pins : List (Addr × Obj)} {σ : St} {H : Hp} {s : Shared} {R : It -> Hp -> Prop} {E : Value -> Shared -> Prop} {lo hi : Int} {t u v : Tok} {tk : Nat} (I : Inv X pins σ H s) (h1 : -(2 ^ 62) <= lo) (h2 : lo < 2 ^ 62) (h3 : -(2 ^ 62) <= hi) (h4 : hi < 2 ^ 62)
  (q : R (Itr lo (hi - lo).toNat) H) : wpAny (model X.prog X.w) X.A (pyIter (.ref s.heap.objs.size)) (PIE X pins σ tg R) E { s with heap := s.heap.push { cls := .type "range", data := .fields #[.int lo t, .int hi u, .int 1 v] }, toks := tk } := by
 refine wpAny_pyIter_range (IsRange.new ..) (small_one h1 h2 h3 h4) ?_
 have I1 : Inv X pins σ H { s with heap := s.heap.push { cls := .type "range", data := .fields #[.int lo t, .int hi u, .int 1 v] }, toks := tk } := I.kept fun b o e => jAu _ e
 refine ⟨(s.heap.push { cls := .type "range", data := .fields #[.int lo t, .int hi u, .int 1 v] }).objs.size, [(s.heap.push { cls := .type "range", data := .fields #[.int lo t, .int hi u, .int 1 v] }).objs.size], _, _, H, rfl,
  I1.kept (t' := tk) fun b o e => jAu _ e, turn_range _ lo (hi - lo).toNat, ?_, fun b hb => ?_, q⟩
 ·have e1 : lo + ((0 : Nat) : Int) * 1 = lo := by simp
  have e2 : (((hi - lo).toNat : Nat) : Int) - ((0 : Nat) : Int) = Builtin.Range.rangeSize lo hi 1 := by rw [rangeSize_one]; split <;> omega
  show IsRangeIter _ _ (lo + ((0 : Nat) : Int) * 1) ((((hi - lo).toNat : Nat) : Int) - ((0 : Nat) : Int)) 1
  rw [e1, e2]
  exact jAw _ rfl
 ·have e : b = (s.heap.push { cls := .type "range", data := .fields #[.int lo t, .int hi u, .int 1 v] }).objs.size := by simpa using hb
  subst e
  exact I1.fpOk (jAx _) (I1.hok.fresh (jAx _))
def iRng1 (ta : TA) : TI := fun σ H R => ta σ H fun vs H1 => ∃ j : Int, vs = [.int j] /\ -(2 ^ 62) <= j /\ j < 2 ^ 62 /\ R (Itr 0 j.toNat) H1
def iRng2 (ta : TA) : TI := fun σ H R => ta σ H fun vs H1 => ∃ i j : Int, vs = [.int i, .int j] /\ (-(2 ^ 62) <= i /\ i < 2 ^ 62 /\ -(2 ^ 62) <= j /\ j < 2 ^ 62) /\ R (Itr i (j - i).toNat) H1
theorem pi_range1 {a : Expr} {ta : TA} {p pos : Pos} (hg : Gl X "range") (hm : X.mg "range" = none) (ha : PA X [a] ta) (hs : starEach [a] X.env = [(false, eval a X.env)] := by rfl) : PI X tg (.Call (.Name "range" p) [a] [] pos) (iRng1 ta) := by
 intro pins s σ H R I h
 refine Call_ (qDl I hg hm boot_range (PyProof.Rows.callWith_type1 (thn (ha pos pins s σ H _ I h) fun us s1 ⟨vs, H1, I1, r1, q1⟩ => ?_) hs rfl))
 obtain ⟨j, e, q1, q2, q⟩ := q1
 subst e
 cases r1 with
 | cons r rr =>
  cases rr
  obtain ⟨t, rfl⟩ := r
  exact call_range_1 (range_it I1 (by omega) (by omega) q1 q2 (by simpa using q))
theorem pi_range2 (hg : Gl X "range") (hm : X.mg "range" = none) (ha : PA X [a, b] ta) (hs : starEach [a, b] X.env = [(false, eval a X.env), (false, eval b X.env)] := by rfl) (hs2 : starEach [b] X.env = [(false, eval b X.env)] := by rfl) :
  PI X tg (.Call (.Name "range" p) [a, b] [] pos) (iRng2 ta) := by
 intro pins s σ H R I h
 refine Call_ (qDl I hg hm boot_range (PyProof.Rows.callWith_type1 (thn (ha pos pins s σ H _ I h) fun us s1 ⟨vs, H1, I1, r1, q1⟩ => ?_) (by rw [hs, hs2]) (by rw [hs2]; rfl)))
 obtain ⟨i, j, e, ⟨q1, q2, q3, q4⟩, q⟩ := q1
 subst e
 cases r1 with
 | cons r rr =>
  cases rr with
  | cons r' rr =>
   cases rr
   obtain ⟨t, rfl⟩ := r
   obtain ⟨t', rfl⟩ := r'
   exact call_range_2 (range_it I1 q1 q2 q3 q4 q)
def tFor (wi : TI) (g : TG) (tb : TS) : TS := fun D σ H => wi σ H fun J H1 => ∃ W : Nat -> Nat -> St -> Hp -> Prop, (∃ m, W 0 m σ H1) /\ ∀ i m σ H, W i m σ H ->
 (J.stop i H /\ D.nx σ H) \/ (J.go i H /\ ∃ N : St -> Hp -> Prop, (∀ σ' H', N σ' H' -> ∃ m', m' < m /\ W (i + 1) m' σ' H') /\ ∀ x H', J.yld i H x H' -> g x σ H' fun σ2 H2 => tb { D with nx := N, ct := N, bk := D.nx } σ2 H2)
def qB8 (fp : List Addr) (h : Heap) : List (Addr × Obj) := fp.filterMap fun b => (h.get? b).map fun o => (b, o)
theorem qA3 (hb : b ∈ fp) (e : h.get? b = some o) : (b, o) ∈ qB8 fp h := List.mem_filterMap.mpr ⟨b, hb, by rw [e]; rfl⟩
theorem qEd (hp : p ∈ qB8 fp h) : p.1 ∈ fp /\ h.get? p.1 = some p.2 := by
 obtain ⟨b, hb, e⟩ := List.mem_filterMap.mp hp
 cases q : h.get? b with
 | none => rw [q] at e; cases e
 | some o =>
  rw [q] at e
  have e' : (b, o) = p := Option.some.inj e
  subst e'
  exact ⟨hb, q⟩
theorem Inv.pinned (I : Inv X pins σ H s) (hf : ∀ b ∈ fp, FpOk X pins H b) (ho : ∀ b ∈ fp, ∃ o, s.heap.get? b = some o /\ ∀ v, o.data ≠ .cell v) : Inv X (pins ++ qB8 fp s.heap) σ H s :=
 I.pins_of fun p hp => (jAp.mp hp).elim (fun z => I.pin p (jAy _ z)) fun z => by
  obtain ⟨hb, e⟩ := qEd z
  obtain ⟨f0, f1, f2, _⟩ := hf p.1 hb
  obtain ⟨o, e', d⟩ := ho p.1 hb
  rw [e] at e'; cases e'
  exact ⟨e, f0, f1, f2, d⟩
theorem Inv.unpinned (I : Inv X (pins ++ pl) σ H s) : Inv X pins σ H s := I.pins_of fun p hp => I.pin p (jAy _ (jAq _ hp))
theorem ps_for (hp : PassesOwn (model X.prog X.w) X.A X.env X.xe) (hc : X.calm = true) (hi : PI X tg iter wi) (hg : PG X tg g) (hb : PSs X body tb)
  (hs : ∀ x, foldedSetIterable iter X.env x = pure x := by intro _; rfl) : PS X (.For tg iter body [] pos) (tFor wi g tb) := by
 intro pins s σ H D I h
 refine wpAny_For (thn (hi pins s σ H _ I h) fun v s1 h1 => thn h1 fun itv s2 h2 => ?_) hs
 obtain ⟨it, fp, tn, J, H2, e, I2, T, st2, f2, W, ⟨m0, w0⟩, turn⟩ := h2
 subst e
 -- what stays true of the iterator's objects through the loop
 have stat : ∀ {H' : Hp}, (∀ b ∈ fp, H' b = none) -> ∀ b ∈ fp, FpOk X pins H' b := fun hn b hb => ⟨hn b hb, (f2 b hb).2⟩
 refine codeAny_forLoop_any (fun n s' => ∃ i σ' H', Inv X pins σ' H' s' /\ tn i s'.heap /\ (∀ b ∈ fp, H' b = none) /\ W i n σ' H') ?_ m0 ⟨0, σ, H2, I2, st2, fun b hb => (f2 b hb).1, w0⟩
 rintro n s3 ⟨i, σ3, H3, I3, st3, fr3, w3⟩
 rcases turn i n σ3 H3 w3 with ⟨stop, qn⟩ | ⟨go, N, hN, step⟩
 ·refine wpAny_passesOwn hp (thn (T.done X rfl rfl rfl hc i pins s3 σ3 H3 X.xe I3 (stat fr3) st3 stop) fun r s4 ⟨hr, I4⟩ => ?_)
  subst hr
  exact wpAny_execs_nil ⟨σ3, H3, I4, qn⟩
 ·refine wpAny_passesOwn hp (thn (T.item X rfl rfl rfl hc i pins s3 σ3 H3 X.xe I3 (stat fr3) st3 go) fun r s4 ⟨u, hr, h4⟩ => ?_)
  subst hr
  refine wpAny_passesOwn hp (thn h4 fun _ s5 ⟨x, H5, I5, r5, y5, st5, fr5⟩ => ?_)
  have I5' := I5.pinned (stat fr5) (T.obj _ _ st5)
  refine wpAny_passesOwn hp (thn (hg _ s5 σ3 H5 x u _ I5' r5 (step x H5 y5)) fun _ s6 ⟨σ6, H6, I6, q6⟩ => ?_)
  refine wpAny_passesOwn hp (thn (hb _ s6 σ6 H6 _ I6 q6) fun f s7 q7 => ?_)
  have again : ∀ {σ7 : St} {H7 : Hp}, Inv X (pins ++ qB8 fp s5.heap) σ7 H7 s7 -> N σ7 H7 -> ∃ m, m < n /\ ∃ i σ' H', Inv X pins σ' H' s7 /\ tn i s7.heap /\ (∀ b ∈ fp, H' b = none) /\ W i m σ' H' := fun {σ7 H7} I7 n7 => by
   obtain ⟨m', hm, w7⟩ := hN σ7 H7 n7
   refine ⟨m', hm, i + 1, σ7, H7, I7.unpinned, T.keep _ _ _ st5 fun b hb o e => (I7.pin (b, o) (jAy _ (jAy _ (qA3 hb e)))).1, fun b hb => ?_, w7⟩
   obtain ⟨o, e, d⟩ := T.obj _ _ st5 b hb
   exact (I7.pin (b, o) (jAy _ (jAy _ (qA3 hb e)))).2.1
  cases f with
  | next => obtain ⟨σ7, H7, I7, n7⟩ := q7; exact again I7 n7
  | cont => obtain ⟨σ7, H7, I7, n7⟩ := q7; exact again I7 n7
  | brk => obtain ⟨σ7, H7, I7, q7⟩ := q7; exact ⟨σ7, H7, I7.unpinned, q7⟩
  | ret v => obtain ⟨x7, σ7, H7, I7, r7, q7⟩ := q7; exact ⟨x7, σ7, H7, I7.unpinned, r7, q7⟩
end
end L2
namespace L2
open PySem PySem.Spec PyProof.Rows
abbrev R2 := V -> V -> Hp -> VK -> Prop
def OpR (X : Cx) (f : Value -> Value -> Sem Value) (r : R2) : Prop :=
 ∀ (pins : List (Addr × Obj)) (s : Shared) (σ : St) (H : Hp) (x y : V) (v u : Value) (Q : VK), Inv X pins σ H s -> RelV x v -> RelV y u -> r x y H Q ->
  wpAny (model X.prog X.w) X.A (f v u) (EP X pins σ Q) X.xe s
def UnR (X : Cx) (f : Value -> Sem Value) (r : V -> Hp -> VK -> Prop) : Prop :=
 ∀ (pins : List (Addr × Obj)) (s : Shared) (σ : St) (H : Hp) (x : V) (v : Value) (Q : VK), Inv X pins σ H s -> RelV x v -> r x H Q ->
  wpAny (model X.prog X.w) X.A (f v) (EP X pins σ Q) X.xe s
def qBy (X : Cx) (f : Value) (r : List V -> Hp -> VK -> Prop) : Prop :=
 ∀ (pins : List (Addr × Obj)) (s : Shared) (σ : St) (H : Hp) (xs : List V) (us : List Value) (Q : VK), Inv X pins σ H s -> Vals xs us -> r xs H Q ->
  wpAny (model X.prog X.w) X.A (call f us) (EP X pins σ Q) X.xe s
def tOp (r : R2) (ta tb : TE) : TE := fun σ H Q => ta σ H fun x H1 => tb σ H1 fun y H2 => r x y H2 Q
def tUn (r : V -> Hp -> VK -> Prop) (ta : TE) : TE := fun σ H Q => ta σ H fun x H1 => r x H1 Q
def rI (C : Int -> Int -> Prop) (g : Int -> Int -> V) : R2 := fun x y H Q => ∃ i j, x = .int i /\ y = .int j /\ C i j /\ Q (g i j) H
def rI0 (g : Int -> Int -> V) : R2 := fun x y H Q => ∃ i j, x = .int i /\ y = .int j /\ Q (g i j) H
def rU (g : Int -> V) : V -> Hp -> VK -> Prop := fun x H Q => ∃ i, x = .int i /\ Q (g i) H
section
variable {X : Cx} {a b c : Expr} {ta tb tc : TE} {pos : Pos}
theorem binT (ha : PE X a ta) (hb : PE X b tb) {pins : List (Addr × Obj)} {s : Shared} {σ : St} {H : Hp} {R : V -> V -> Hp -> Prop} (I : Inv X pins σ H s)
  (h : ta σ H fun x H1 => tb σ H1 fun y H2 => R x y H2) {Q : Value -> Shared -> Prop} {f : Value -> Value -> Sem Value}
  (hf : ∀ v u s2 x y H2, Inv X pins σ H2 s2 -> RelV x v -> RelV y u -> R x y H2 -> wpAny (model X.prog X.w) X.A (f v u) Q X.xe s2) :
  wpAny (model X.prog X.w) X.A (eval a X.env) (fun v s₁ => wpAny (model X.prog X.w) X.A (eval b X.env) (fun u s₂ => wpAny (model X.prog X.w) X.A (f v u) Q X.xe s₂) X.xe s₁) X.xe s := by
 refine thn (ha pins s σ H _ I h) fun v s1 ⟨x, H1, I1, r1, q1⟩ => ?_
 refine thn (hb pins s1 σ H1 _ I1 q1) fun u s2 ⟨y, H2, I2, r2, q2⟩ => ?_
 exact hf v u s2 x y H2 I2 r1 r2 q2
theorem pe_op {op : Operator} {r : R2} (ho : OpR X (binaryOp op) r) (ha : PE X a ta) (hb : PE X b tb) : PE X (.BinOp a op b pos) (tOp r ta tb) := by
 intro pins s σ H Q I h
 exact wpAny_BinOp (binT ha hb I h fun v u s2 x y H2 I2 rx ry q => ho pins s2 σ H2 x y v u Q I2 rx ry q)
theorem pe_un (ho : UnR X (unaryOp op) r) (ha : PE X a ta) : PE X (.UnaryOp op a pos) (tUn r ta) := by
 intro pins s σ H Q I h
 exact UnaryOp_ (thn (ha pins s σ H _ I h) fun v s1 ⟨x, H1, I1, r1, q1⟩ => ho pins s1 σ H1 x v Q I1 r1 q1)
theorem opI {f : Value -> Value -> Sem Value} {C : Int -> Int -> Prop} {g : Int -> Int -> Int}
  (rule : ∀ (i j : Int) (t u : Tok) (s : Shared) (Q : Value -> Shared -> Prop) (E : Value -> Shared -> Prop), C i j -> Q (.int (g i j) s.toks) { s with toks := s.toks + 1 } -> wpAny (model X.prog X.w) X.A (f (.int i t) (.int j u)) Q E s) :
  OpR X f (rI C fun i j => .int (g i j)) := by
 intro pins s σ H x y v u Q I rx ry h
 obtain ⟨i, j, rfl, rfl, hc, q⟩ := h
 obtain ⟨t, rfl⟩ := rx
 obtain ⟨t', rfl⟩ := ry
 exact rule i j t t' s _ _ hc ⟨.int (g i j), H, I.tok _, ⟨_, rfl⟩, q⟩
theorem opI0 {f : Value -> Value -> Sem Value} {g : Int -> Int -> Int}
  (rule : ∀ (i j : Int) (t u : Tok) (s : Shared) (Q : Value -> Shared -> Prop) (E : Value -> Shared -> Prop), Q (.int (g i j) s.toks) { s with toks := s.toks + 1 } -> wpAny (model X.prog X.w) X.A (f (.int i t) (.int j u)) Q E s) :
  OpR X f (rI0 fun i j => .int (g i j)) := by
 intro pins s σ H x y v u Q I rx ry h
 obtain ⟨i, j, rfl, rfl, q⟩ := h
 obtain ⟨t, rfl⟩ := rx
 obtain ⟨t', rfl⟩ := ry
 exact rule i j t t' s _ _ ⟨.int (g i j), H, I.tok _, ⟨_, rfl⟩, q⟩
theorem opB0 {f : Value -> Value -> Sem Value} {g : Int -> Int -> Bool}
  (rule : ∀ (i j : Int) (t u : Tok) (s : Shared) (Q : Value -> Shared -> Prop) (E : Value -> Shared -> Prop), Q (.bool (g i j)) s -> wpAny (model X.prog X.w) X.A (f (.int i t) (.int j u)) Q E s) :
  OpR X f (rI0 fun i j => .bl (g i j)) := by
 intro pins s σ H x y v u Q I rx ry h
 obtain ⟨i, j, rfl, rfl, q⟩ := h
 obtain ⟨t, rfl⟩ := rx
 obtain ⟨t', rfl⟩ := ry
 exact rule i j t t' s _ _ ⟨.bl (g i j), H, I, rfl, q⟩
def CMul (i j : Int) : Prop := (-(2 ^ 64) < i /\ i < 2 ^ 64) \/ (-(2 ^ 64) < j /\ j < 2 ^ 64)
theorem CMul.ok (h : CMul i j) : IntMulOk i j := by
 rcases h with ⟨h1, h2⟩ | ⟨h1, h2⟩
 ·exact .of_left (intBits_le_64 h1 h2)
 ·exact .of_right (intBits_le_64 h1 h2)
theorem op_add : OpR X (binaryOp .Add) (rI0 fun i j => .int (i + j)) := opI0 fun _ _ _ _ _ _ _ q => add_int q
theorem op_sub : OpR X (binaryOp .Sub) (rI0 fun i j => .int (i - j)) := opI0 fun _ _ _ _ _ _ _ q => sub_int q
theorem op_modN : OpR X (binaryOp .Mod) (rI (fun _ j => j ≠ 0) fun i j => .int (i.fmod j)) := opI fun _ _ _ _ _ _ _ hc q => mod_int' hc q
theorem unI {f : Value -> Sem Value} {g : Int -> Int}
  (rule : ∀ (i : Int) (t : Tok) (s : Shared) (Q : Value -> Shared -> Prop) (E : Value -> Shared -> Prop), Q (.int (g i) s.toks) { s with toks := s.toks + 1 } -> wpAny (model X.prog X.w) X.A (f (.int i t)) Q E s) :
  UnR X f (rU fun i => .int (g i)) := by
 intro pins s σ H x v Q I rx h
 obtain ⟨i, rfl, q⟩ := h
 obtain ⟨t, rfl⟩ := rx
 exact rule i t s _ _ ⟨.int (g i), H, I.tok _, ⟨_, rfl⟩, q⟩
theorem un_neg : UnR X (unaryOp .USub) (rU fun i => .int (-i)) := unI fun _ _ _ _ _ q => neg_int q
end
section
variable {X : Cx} {a b c : Expr} {ta tb tc : TE} {pos : Pos}
theorem fin_bl (I : Inv X pins σ H s) (q : Q (.bl k) H) (e : k = k') : EP X pins σ Q (.bool k') s := by
 subst e
 exact ⟨.bl k, H, I, rfl, q⟩
theorem op_lt : OpR X (compareOp .Lt) (rI0 fun i j => .bl (decide (i < j))) := opB0 fun _ _ _ _ _ _ _ q => lt_int q
theorem op_le : OpR X (compareOp .LtE) (rI0 fun i j => .bl (decide (i <= j))) := opB0 fun _ _ _ _ _ _ _ q => le_int q
theorem op_gt : OpR X (compareOp .Gt) (rI0 fun i j => .bl (decide (j < i))) := opB0 fun _ _ _ _ _ _ _ q => gt_int q
theorem op_ge : OpR X (compareOp .GtE) (rI0 fun i j => .bl (decide (j <= i))) := opB0 fun _ _ _ _ _ _ _ q => ge_int q
theorem op_isN : OpR X (compareOp .Is) (fun x y H Q => y = .non /\ Q (.bl (decide (x = .non))) H) := by
 intro pins s σ H x y v u Q I rx ry h
 obtain ⟨rfl, q⟩ := h
 cases ry
 refine is_none_gen (fin_bl I q ?_)
 cases x <;> first
  | (cases rx; rfl)
  | (obtain ⟨t, rfl⟩ := rx; rfl)
theorem op_notN : OpR X (compareOp .IsNot) (fun x y H Q => y = .non /\ Q (.bl (!decide (x = .non))) H) := by
 intro pins s σ H x y v u Q I rx ry h
 obtain ⟨rfl, q⟩ := h
 cases ry
 refine isnot_none_gen (fin_bl I q ?_)
 cases x <;> first
  | (cases rx; rfl)
  | (obtain ⟨t, rfl⟩ := rx; rfl)
theorem OpR.or (h : OpR X f r) (h' : OpR X f r') : OpR X f (fun x y H Q => r x y H Q \/ r' x y H Q) := by
 intro pins s σ H x y v u Q I rx ry q
 rcases q with q | q
 ·exact h pins s σ H x y v u Q I rx ry q
 ·exact h' pins s σ H x y v u Q I rx ry q
theorem zZ (b : Expr) (h : op ≠ .In := by decide) (h2 : op ≠ .NotIn := by decide) : behindInMarks op b = false := by
 have e1 : (op == CmpOp.In) = false := by cases op <;> first | rfl | exact absurd rfl h
 have e2 : (op == CmpOp.NotIn) = false := by cases op <;> first | rfl | exact absurd rfl h2
 cases b <;> simp [behindInMarks, e1, e2]
theorem pe_cmpR (ho : OpR X (compareOp op) r) (ha : PE X a ta) (hb : PE X b tb) (hm : behindInMarks op b = false) : PE X (.Compare a [op] [b] pos) (tOp r ta tb) := by
 intro pins s σ H Q I h
 exact wpAny_Compare1 (binT ha hb I h fun v u s2 x y H2 I2 rx ry q => ho pins s2 σ H2 x y v u Q I2 rx ry q) hm
def tTest (t : TE) : TT := fun σ H Q => t σ H fun x H' => ∃ k, x = .bl k /\ Q k H'
theorem pt_cmpR (ho : OpR X (compareOp op) r) (ha : PE X a ta) (hb : PE X b tb) (hm : behindInMarks op b = false) : PT X (.Compare a [op] [b] pos) (tTest (tOp r ta tb)) := by
 intro pins s σ H Q I h
 refine wpAny_isTrue_Compare1 (thn (ha pins s σ H _ I h) fun v s1 ⟨x, H1, I1, r1, q1⟩ => thn (hb pins s1 σ H1 _ I1 q1) fun u s2 ⟨y, H2, I2, r2, q2⟩ =>
  thn (ho pins s2 σ H2 x y v u _ I2 r1 r2 q2) fun c s3 ⟨z, H3, I3, r3, k, e, q3⟩ => ?_) hm
 subst e
 cases r3
 exact wpAny_truthy_bool ⟨H3, I3, q3⟩
def tChain (r r' : R2) (ta tb tc : TE) : TE := fun σ H Q => ta σ H fun x H1 => tb σ H1 fun y H2 => r x y H2 fun z H3 => ∃ k, z = .bl k /\
 (if k = true then tc σ H3 fun w' H4 => r' y w' H4 Q else Q (.bl false) H3)
theorem pe_chain (ho : OpR X (compareOp op) r) (ho' : OpR X (compareOp op') r') (ha : PE X a ta) (hb : PE X b tb) (hc : PE X c tc)
  (hm : lastMarks [op, op'] [b, c] = false := by with_unfolding_all rfl) : PE X (.Compare a [op, op'] [b, c] pos) (tChain r r' ta tb tc) := by
 intro pins s σ H Q I h
 refine Compare_chain (thn (ha pins s σ H _ I h) fun v s1 ⟨x, H1, I1, r1, q1⟩ => chain_link (thn (hb pins s1 σ H1 _ I1 q1) fun u s2 ⟨y, H2, I2, r2, q2⟩ =>
  thn (ho pins s2 σ H2 x y v u _ I2 r1 r2 q2) fun d s3 ⟨z, H3, I3, r3, k, e, q3⟩ => ?_)) hm
 subst e
 cases r3
 refine wpAny_truthy_bool ?_
 cases k with
 | false => exact ite_ff ⟨.bl false, H3, I3, rfl, q3⟩
 | true => exact ite_tt (chain_last (thn (hc pins s3 σ H3 _ I3 q3) fun w' s4 ⟨z', H4, I4, r4, q4⟩ => ho' pins s4 σ H4 y z' u w' Q I4 r2 r4 q4))
theorem line63 : (sizeLine : Nat) < 2 ^ 63 := by rw [sizeLine_eq]; decide
theorem op_add_str : OpR X (binaryOp .Add) (fun x y H Q => ∃ i j, x = .str i /\ y = .str j /\ i.length + j.length <= sizeLine /\ Q (.str (i ++ j)) H) := by
 intro pins s σ H x y v u Q I rx ry h
 obtain ⟨i, j, rfl, rfl, hz, q⟩ := h
 obtain ⟨t, rfl⟩ := rx
 obtain ⟨t', rfl⟩ := ry
 exact add_str (fun t' tk => ⟨.str (i ++ j), H, I.tok _, ⟨_, rfl⟩, q⟩) hz
theorem vals1 (r : Vals [x] us) : ∃ u, us = [u] /\ RelV x u := by
 cases r with
 | cons r1 r2 => cases r2; exact ⟨_, rfl, r1⟩
theorem vals2 (r : Vals [x, y] us) : ∃ u w', us = [u, w'] /\ RelV x u /\ RelV y w' := by
 cases r with
 | cons r1 r2 =>
  cases r2 with
  | cons r3 r4 => cases r4; exact ⟨_, _, rfl, r1, r3⟩
theorem call_abs : qBy X (.builtin "abs") (fun xs H Q => ∃ i, xs = [.int i] /\ Q (.int (if i < 0 then -i else i)) H) := by
 intro pins s σ H xs us Q I r h
 obtain ⟨i, rfl, q⟩ := h
 obtain ⟨u, rfl, t, rfl⟩ := vals1 r
 exact call_abs_int fun u tk => ⟨.int (if i < 0 then -i else i), H, I.tok _, ⟨_, rfl⟩, q⟩
theorem call_min2 (hc : X.calm = true) : qBy X (.builtin "min") (fun xs H Q => ∃ i j, xs = [.int i, .int j] /\ Q (.int (if j < i then j else i)) H) := by
 intro pins s σ H xs us Q I r h
 obtain ⟨i, j, rfl, q⟩ := h
 obtain ⟨u, w', rfl, ⟨t, rfl⟩, ⟨t', rfl⟩⟩ := vals2 r
 refine min_two_ints (I.ok.hd hc) fun h' tk k => ⟨_, H, I.kept k, ?_, q⟩
 by_cases hj : j < i
 ·rw [if_pos hj, if_pos hj]; exact ⟨_, rfl⟩
 ·rw [if_neg hj, if_neg hj]; exact ⟨_, rfl⟩
theorem call_int1 : qBy X (.type "int") (fun xs H Q => (∃ i, xs = [.int i] /\ Q (.int i) H) \/ ∃ k, xs = [.bl k] /\ Q (.int (if k then 1 else 0)) H) := by
 intro pins s σ H xs us Q I r h
 rcases h with ⟨i, rfl, q⟩ | ⟨k, rfl, q⟩
 ·obtain ⟨u, rfl, t, rfl⟩ := vals1 r
  exact call_int_int ⟨.int i, H, I, ⟨_, rfl⟩, q⟩
 ·obtain ⟨u, rfl, r1⟩ := vals1 r
  cases r1
  exact call_int_bool ⟨.int (if k then 1 else 0), H, I.tok _, ⟨_, rfl⟩, q⟩
end
end L2
namespace L2
open PySem PySem.Spec PyProof.Rows
structure ObjM (h : Heap) (x dx C : Addr) (mA : Str -> Option Value) : Prop where
 obj : h.get? x = some (jAa C dx)
 ns : h.Ns1 dx mA
 ne : dx ≠ x
theorem lookIn_ns {h : Heap} {dx : Addr} {mA : Str -> Option Value} (n : h.Ns1 dx mA) : ∃ od, h.get? dx = some od /\ ∀ name, jAz name od = some (mA name) := by
 obtain ⟨o, es, ep, ho, hd, hk, _, hm⟩ := n
 refine ⟨o, ho, fun name => ?_⟩
 have e := hm name
 unfold nsFind findBy at e
 rw [<- Array.find?_toList] at e
 unfold jAz
 rw [hd]
 dsimp only
 split
 ·rename_i y q
  rw [q] at e
  exact congrArg some e
 ·rename_i q
  rw [q] at e
  have a : es.toList.any (·.refKey) = false := by
   rw [List.any_eq_false]
   intro y hy
   obtain ⟨z, t, hkey⟩ := hk y (Array.mem_toList_iff.mp hy)
   simp [DictEntry.refKey, hkey]
  have a' : ¬ es.toList.any (·.refKey) = true := by rw [a]; exact Bool.false_ne_true
  rw [if_neg a']
  exact congrArg some e
theorem ObjM.look (I : ObjM h x dx C mA) : ∃ od, PySem.W.InstAt h x (jAa C dx) C (some od) /\ ∀ name, jAz name od = some (mA name) :=
 let ⟨od, ho, hl⟩ := lookIn_ns I.ns
 ⟨od, ⟨I.obj, rfl, rfl, ho⟩, hl⟩
section
variable {prog : Program} {w : World} {A : Around} {E : Value -> Shared -> Prop} {s : Shared} {K : PySem.W.Frag} {x dx C f : Addr} {mA : Str -> Option Value} {name : Str} {v : Value}
theorem qBk (X : K.In s.heap) (I : ObjM s.heap x dx C mA) (hg : jA0 K C name = true) (hh : jA1 K C = true)
  (ha : jA2 K (.ref C) name = some none) (hv : mA name = some v) (hv' : PySem.W.handedIn v = true) (h : Q v { s with toks := s.toks + 1 }) :
  wpAny (model prog w) A (getAttr (.ref x) name expr) Q E s := by
 obtain ⟨od, J, hl⟩ := I.look
 exact PySem.W.get_value X J (jA3 hg).1 (PySem.W.findObj_own hh ha rfl (by rw [hl, hv])) hv' h
theorem get_meth (X : K.In s.heap) (I : ObjM s.heap x dx C mA) (hg : jA0 K C name = true)
  (hf : jA2 K (.ref C) name = some (some (.ref f))) (ht : jA4 K (.ref f) = true) (hv : mA name = none) (h : Q (.ref f, [.ref x]) s) :
  wpAny (model prog w) A (getMethod (.ref x) name pl) Q E s := by
 obtain ⟨od, J, hl⟩ := I.look
 exact PySem.W.method_fn X J (jA3 hg).1 (jA3 hg).2 hf (beq_iff_eq.mp ht) (by show (jAz name od).map (·.isSome) = some false; rw [hl, hv]; rfl) h
theorem set_map (X : K.In s.heap) (I : ObjM s.heap x dx C mA)
  (hs : jA2 K (.ref C) "__setattr__" = some (some (.builtin "object.__setattr__"))) (hp : jA5 K C = true) (ht : jA6 K C name = some none) (hh : jA1 K C = true)
  (hw : PySem.Within mA ns) (hsz : ns.length <= sizeLine)
  (h : ∀ h', ObjM h' x dx C (fun y => if y = name then some v else mA y) -> Heap.SameBut dx s.heap h' -> Q () { s with heap := h', toks := s.toks + 2 }) :
  wpAny (model prog w) A (setAttr (.ref x) name v) Q E s := by
 obtain ⟨od, J, hl⟩ := I.look
 refine PySem.W.set_plain X J hs (PySem.W.osa_open (s := { s with toks := s.toks + 1 }) (r := none) X J hp ht fun b => ?_)
 obtain ⟨cd, hc, hd'⟩ := PySem.W.any_some hh
 have hx : s.heap.get? x = some ⟨.ref C, some dx, .plain, #[]⟩ := I.obj
 refine wpAny_bind (wpAny_pure (wpAny_bind (wpAny_bind (wpAny_loadPart hx (wpAny_bind (PySem.W.Looks.here (s := { s with toks := s.toks + 1 }) (PySem.W.looks_clsIn X hc) ?_))))))
 rw [hd']
 refine wpAny_pure (a := some dx) (wpAny_bind (wpAny_pure (wpAny_bind ?_)))
 refine wpAny_nsSet1 (s := { s with toks := s.toks + 1 }) I.ns fun h' hn2 hs2 => ?_
 obtain ⟨oD, esD, epD, hoD, hdD, hcD⟩ := hn2.count (PySem.Within.cons name v hw)
 refine wpAny_bind (wpAny_lookBehind hoD (by rw [hdD]; exact pastItsLine_dict (jAj hcD (by rw [jA7]; omega))) ?_)
 exact wpAny_pure (h _ ⟨(hs2.2 _ (Ne.symm I.ne)).trans I.obj, hn2, I.ne⟩ hs2)
theorem make_map (X : K.In s.heap) (hm : jA8 K C = true)
  (hi : jA2 K (.ref C) "__init__" = some (some (.ref f))) (hf : PySem.W.typeIn K (.ref f) = some (.type "function"))
  (h : codeAny (model prog w) (A.under (.builtin "type.__call__" ⟨.ref C :: vs, kw⟩)) (.call (.ref f) ⟨.ref (s.heap.objs.size + 1) :: vs, kw⟩) (PySem.W.InitBack (s.heap.objs.size + 1) R)
   { s with heap := (s.heap.push jA9).push (jAa C s.heap.objs.size) }) :
  codeAny (model prog w) A (.call (.ref C) ⟨vs, kw⟩) R s := by
 obtain ⟨hh, g, d, t, os⟩ := s
 exact PySem.W.make_core (PySem.W.makes_of X hm) (PySem.W.looks_findIn X hi) (fun self => PySem.W.bind_fn X self hf) (.inl rfl) h
end
def putF (f : Str) (v : V) : List (Str × V) -> List (Str × V)
 | [] => [(f, v)]
 | (g, x) :: r => if g = f then (g, v) :: r else (g, x) :: putF f v r
theorem qEi (f g : Str) (v : V) : ∀ fs : List (Str × V), (putF f v fs).lookup g = if g = f then some v else fs.lookup g
 | [] => by
  show jBa g [(f, v)] = _
  by_cases h : g = f
  ·have hb : (g == f) = true := beq_iff_eq.mpr h
   simp only [jBa, hb, if_pos h]
  ·have hb : (g == f) = false := beq_eq_false_iff_ne.mpr h
   simp only [jBa, hb, if_neg h]
 | (k, x) :: r => by
  have ih := qEi f g v r
  rw [show putF f v ((k, x) :: r) = (if k = f then (k, v) :: r else (k, x) :: putF f v r) from rfl]
  by_cases hk : k = f
  ·rw [if_pos hk]
   by_cases h : g = k
   ·have hb : (g == k) = true := beq_iff_eq.mpr h
    simp only [jBa, hb, if_pos (h.trans hk)]
   ·have hb : (g == k) = false := beq_eq_false_iff_ne.mpr h
    simp only [jBa, hb, if_neg (fun e : g = f => h (e.trans hk.symm))]
  ·rw [if_neg hk]
   by_cases h : g = k
   ·have hb : (g == k) = true := beq_iff_eq.mpr h
    simp only [jBa, hb, if_neg (fun e : g = f => hk (h.symm.trans e))]
   ·have hb : (g == k) = false := beq_eq_false_iff_ne.mpr h
    simp only [jBa, hb]
    exact ih
theorem qEl (f : Str) (v : V) : ∀ fs : List (Str × V), f ∈ (putF f v fs).map (·.1) /\ ∀ g, g ∈ fs.map (·.1) -> g ∈ (putF f v fs).map (·.1)
 | [] => ⟨by simp [putF], fun g h => by simp at h⟩
 | (k, x) :: r => by
  obtain ⟨i1, i2⟩ := qEl f v r
  rw [show putF f v ((k, x) :: r) = (if k = f then (k, v) :: r else (k, x) :: putF f v r) from rfl]
  by_cases hk : k = f
  ·rw [if_pos hk]
   subst hk
   exact ⟨by simp, fun g h => by simpa using h⟩
  ·rw [if_neg hk]
   refine ⟨?_, fun g h => ?_⟩
   ·rw [jBb]
    exact jAn _ i1
   ·rw [jBb] at h ⊢
    rcases jAo.mp h with e | e
    ·exact jAo.mpr (.inl e)
    ·exact jAn _ (i2 g e)
theorem qEk (f : Str) (v : V) : ∀ fs : List (Str × V), (putF f v fs).length <= fs.length + 1
 | [] => by simp [putF]
 | (k, x) :: r => by
  have ih := qEk f v r
  rw [show putF f v ((k, x) :: r) = (if k = f then (k, v) :: r else (k, x) :: putF f v r) from rfl]
  by_cases hk : k = f
  ·rw [if_pos hk, jA7, jA7]; omega
  ·rw [if_neg hk, jA7, jA7]; omega
theorem RelO.some_of (r : RelO (some v) o) : ∃ u, o = some u /\ RelV v u := by
 cases o with
 | none => exact (show False from r).elim
 | some u => exact ⟨u, rfl, r⟩
theorem RelO.none_of (r : RelO none o) : o = none := by
 cases o with
 | none => rfl
 | some u => exact (show False from r).elim
theorem handed_of (r : RelV v u) : PySem.W.handedIn u = true := by
 cases v with
 | non => cases (show u = Value.none from r); rfl
 | bl b => cases (show u = Value.bool b from r); rfl
 | int i => obtain ⟨t, e⟩ := (show ∃ t, u = Value.int i t from r); cases e; rfl
 | str x => obtain ⟨t, e⟩ := (show ∃ t, u = Value.str x t from r); cases e; rfl
 | byt b => obtain ⟨t, e⟩ := (show ∃ t, u = Value.bytes b t from r); cases e; rfl
 | flt b => obtain ⟨t, e⟩ := (show ∃ t, u = Value.float b t from r); cases e; rfl
 | ref a => cases (show u = Value.ref a from r); rfl
 | ty n => cases (show u = Value.type n from r); rfl
section
variable {P : Program} {w : World} {H H' : Hp} {h h' : Heap} {a C dx : Addr} {fs fs' : List (Str × V)}
theorem ins_get (hok : HOk P w H h) (e : H a = some (.ins C dx fs)) : ∃ mA, ObjM h a dx C mA /\ (∀ f, RelO (fs.lookup f) (mA f)) /\ PySem.Within mA (fs.map (·.1)) /\ fs.length <= 1000 /\ H dx = some (.own a) := by
 obtain ⟨d, z, ne, ob, mA, n, r, q⟩ := (show qBm P w H h a (.ins C dx fs) from hok a _ e)
 exact ⟨mA, ⟨ob, n, ne⟩, r, q, z, d⟩
end
structure Cls (K : PySem.W.Frag) (C : Addr) : Prop where
 pg : jA0 K C Str.empty = true
 hd : jA1 K C = true
 po : jA5 K C = true
 sa : jA2 K (.ref C) "__setattr__" = some (some (.builtin "object.__setattr__"))
theorem Cls.get {K : PySem.W.Frag} {C : Addr} (c : Cls K C) (f : Str) : jA0 K C f = true := c.pg
def qC5 (K : PySem.W.Frag) (C : Addr) (f : Str) : Prop := jA2 K (.ref C) f = some none
theorem qC5.taker {K : PySem.W.Frag} {C : Addr} {f : Str} (n : qC5 K C f) : jA6 K C f = some none := by
 unfold jA6
 rw [show jA2 K (.ref C) f = some none from n]
 rfl
structure Meth (K : PySem.W.Frag) (C : Addr) (m : Str) (f : Addr) : Prop where
 at_ : jA2 K (.ref C) m = some (some (.ref f))
 fn : jA4 K (.ref f) = true
 kp : jBc K (.ref f) = true
section
variable {X : Cx} {pins : List (Addr × Obj)} {σ : St} {H : Hp} {s : Shared} {a C dx : Addr} {fs : List (Str × V)} {f : Str} {v : V} {A : Around} {E : Value -> Shared -> Prop}
theorem getattr_ok (I : Inv X pins σ H s) (e : H a = some (.ins C dx fs)) (c : Cls X.K C) (n : qC5 X.K C f) (l : fs.lookup f = some v)
  (h : ∀ u s', Inv X pins σ H s' -> RelV v u -> Q u s') : wpAny (model X.prog X.w) A (getAttr (.ref a) f b) Q E s := by
 obtain ⟨mA, O, r, _, _, _⟩ := ins_get I.hok e
 obtain ⟨u, hu, ru⟩ := RelO.some_of (v := v) (o := mA f) (by rw [<- l]; exact r f)
 exact qBk I.kIn O (c.get f) c.hd n hu (handed_of ru) (h u _ (I.tok _) ru)
theorem qFb (I : Inv X pins σ H s) (e : H a = some (.ins C dx fs)) (c : Cls X.K C) (k : Meth X.K C m g) (l : fs.lookup m = none)
  (h : Q (.ref g, [.ref a]) s) : wpAny (model X.prog X.w) A (getMethod (.ref a) m pl) Q E s := by
 obtain ⟨mA, O, r, _, _, _⟩ := ins_get I.hok e
 have hn : mA m = none := RelO.none_of (by rw [<- l]; exact r m)
 exact get_meth I.kIn O (c.get m) k.at_ k.fn hn h
theorem setattr_ok (I : Inv X pins σ H s) (e : H a = some (.ins C dx fs)) (c : Cls X.K C) (n : qC5 X.K C f) (hl : fs.length < 1000) (ry : RelV y u)
  (h : ∀ s', Inv X pins σ (upd H a (.ins C dx (putF f y fs))) s' -> Q () s') : wpAny (model X.prog X.w) A (setAttr (.ref a) f u) Q E s := by
 obtain ⟨mA, O, r, wi, _, ho⟩ := ins_get I.hok e
 have hz : (fs.map (·.1)).length <= sizeLine := by rw [jBd, sizeLine_eq]; omega
 refine set_map I.kIn O c.sa c.po n.taker c.hd wi hz fun h' O' sb => h _ ?_
 have hd : ∃ o, h'.get? dx = some o := let ⟨o, _, _, e', _⟩ := O'.ns; ⟨o, e'⟩
 refine I.write (x := a) (e := dx) (by rw [e]; exact True.intro) (.inr ho) (fun b q hb z => (sb.2 b hb).trans z) hd ?_
 refine ⟨by rw [zO O.ne]; exact ho, ?_, O.ne, O'.obj, _, O'.ns, fun g => ?_, fun g hg => ?_⟩
 ·have := qEk f y fs; omega
 ·show RelO ((putF f y fs).lookup g) (if g = f then some u else mA g)
  rw [qEi]
  by_cases q : g = f
  ·rw [if_pos q, if_pos q]; exact ry
  ·rw [if_neg q, if_neg q]; exact r g
 ·by_cases q : g = f
  ·rw [q]; exact (qEl f y fs).1
  ·refine (qEl f y fs).2 g (wi g fun z => hg ?_)
   show (if g = f then some u else mA g) = none
   rw [if_neg q]; exact z
theorem Inv.made (I : Inv X pins σ H s) : Inv X pins σ (upd (upd H s.heap.objs.size (.own (s.heap.objs.size + 1))) (s.heap.objs.size + 1) (.ins C s.heap.objs.size []))
  { s with heap := (s.heap.push jA9).push (jAa C s.heap.objs.size) } := by
 have e1 : (s.heap.push jA9).get? s.heap.objs.size = some jA9 := jAw s.heap rfl
 have e2 : ((s.heap.push jA9).push (jAa C s.heap.objs.size)).get? (s.heap.objs.size + 1) = some (jAa C s.heap.objs.size) := by
  have := jAw (s.heap.push jA9) (o := jAa C s.heap.objs.size) rfl
  rwa [jBe] at this
 have e3 : (s.heap.push jA9).Ns s.heap.objs.size (fun _ => none) := ⟨jA9, #[], _, e1, rfl, (fun e he => absurd he (by simp)), fun _ => rfl⟩
 have I1 := I.laid (a := s.heap.objs.size) (o := .own (s.heap.objs.size + 1)) (h' := s.heap.push jA9) (t' := s.toks) (fun b u q => jAu _ q) (jAx _) ⟨_, e1⟩
 refine I1.laid (a := s.heap.objs.size + 1) (o := .ins C s.heap.objs.size []) (t' := s.toks) (fun b u q => jAu _ q) (Nat.le_of_eq (jBe _ _)) ?_
 have ne : s.heap.objs.size ≠ s.heap.objs.size + 1 := jAf (jBf _)
 refine ⟨by rw [zO ne, zW], jBg _, ne, e2, fun _ => none, (Heap.Ns1.of_empty e3).at fun o q => jAu _ q, fun _ => True.intro, fun y hy => absurd rfl hy⟩
theorem attr_of (hb : attributeBase e f env (eval e env) = eval e env)
  (h : wpAny (model prog w) A (eval e env) (fun o s₁ => wpAny (model prog w) A (getAttr o f true) Q E s₁) E s) : wpAny (model prog w) A (eval (.Attribute e f pos) env) Q E s :=
 Attribute_any_ h (by rw [arm_eval_Attribute, hb])
end
def tFld (K : PySem.W.Frag) (ta : TE) (f : Str) : TE := fun σ H Q => ta σ H fun x H1 => ∃ a C dx fs v, x = .ref a /\ H1 a = some (.ins C dx fs) /\ Cls K C /\ qC5 K C f /\ fs.lookup f = some v /\ Q v H1
def sFld (K : PySem.W.Frag) (ta tv : TE) (f : Str) : TS := fun D σ H => tv σ H fun y H1 => ta σ H1 fun x H2 => ∃ a C dx fs, x = .ref a /\ H2 a = some (.ins C dx fs) /\ Cls K C /\ qC5 K C f /\ fs.length < 1000 /\
 D.nx σ (upd H2 a (.ins C dx (putF f y fs)))
section
variable {X : Cx} {o e value : Expr} {f : Str} {pos pos' tpos : Pos} {ta tv : TE}
theorem pe_fld (he : PE X e ta) (hb : attributeBase e f X.env (eval e X.env) = eval e X.env) : PE X (.Attribute e f pos) (tFld X.K ta f) := by
 intro pins s σ H Q I h
 refine attr_of hb (thn (he pins s σ H _ I h) fun u s1 ⟨x, H1, I1, rx, a, C, dx, fs, v, ex, ea, c, n, l, q⟩ => ?_)
 subst ex
 obtain rfl : u = Value.ref a := rx
 exact getattr_ok I1 ea c n l fun u' s2 I2 ru => ⟨v, H1, I2, ru, q⟩
theorem ps_fld (ha : PE X o ta) (hv : PE X value tv) (hs : swapsWith value (some (.Attribute o f pos')) pos.line X.env = pure false) : PS X (.Assign [.Attribute o f pos'] value pos) (sFld X.K ta tv f) := by
 intro pins s σ H D I h
 refine plainObj_wpAny_Assign_Attribute (thn (hv pins s σ H _ I h) fun u s1 ⟨y, H1, I1, ry, q⟩ => thn (ha pins s1 σ H1 _ I1 q) fun ov s2 ⟨x, H2, I2, rx, a, C, dx, fs, ex, ea, c, n, l, q2⟩ => ?_) hs
 subst ex
 obtain rfl : ov = Value.ref a := rx
 exact setattr_ok I2 ea c n l ry fun s3 I3 => ⟨σ, _, I3, q2⟩
end
end L2
namespace L2
open PySem PySem.Spec PyProof.Rows
structure Room (k : Nat) (A : Around) : Prop where
 hd : A.handled = none
 dp : A.depth + 3 * k + 120 < recursionLimit
 un : A.units + 16 * k + 200 < cLine
theorem Room.mono (r : Room k A) (h : j <= k) : Room j A := ⟨r.hd, by have := r.dp; omega, by have := r.un; omega⟩
theorem Room.deeper (r : Room (k + 1) A) (env : Env) : Room k (A.deeper env) :=
 ⟨r.hd, by have := r.dp; show A.depth + 1 + 3 * k + 120 < _; omega, by have := r.un; show A.units + 3 + 16 * k + 200 < _; omega⟩
theorem make_depth {A : Around} {C : Addr} {us : List Value} {kw : List (Str × Value)} : (A.under (.builtin "type.__call__" ⟨.ref C :: us, kw⟩)).depth = A.depth + 1 := by
 first | rfl | simp [Around.under, Code.weight, Code.isCreation, Code.isGuard, Code.isCaller, Code.frames, Code.isFrame, guardIds]
theorem make_units {A : Around} {C : Addr} {us : List Value} {kw : List (Str × Value)} : (A.under (.builtin "type.__call__" ⟨.ref C :: us, kw⟩)).units = A.units + 1 := by
 first | rfl | simp [Around.under, Code.cUnits, Code.frames, Code.isFrame]
theorem Room.make (r : Room (k + 1) A) (C : Addr) (us : List Value) (kw : List (Str × Value)) : Room k (A.under (.builtin "type.__call__" ⟨.ref C :: us, kw⟩)) :=
 ⟨r.hd, by have := r.dp; rw [make_depth]; omega, by have := r.un; rw [make_units]; omega⟩
theorem Room.depth (r : Room k A) : A.depth < recursionLimit := by have := r.dp; omega
theorem Room.units (r : Room k A) : A.units + 64 < cLine := by have := r.un; omega
def tNil : TA := fun _ H Q => Q [] H
def tCons (ta : TE) (tr : TA) : TA := fun σ H Q => ta σ H fun x H1 => tr σ H1 fun xs H2 => Q (x :: xs) H2
section
variable {X : Cx} {e : Expr} {es : List Expr} {te : TE} {t : TA} {pos : Pos}
theorem pa_nil : PA X [] tNil := fun _ _ _ _ H Q I h => Calls.spliced_nil ⟨[], H, I, .nil, h⟩
theorem qCq (ha : PE X e te) (hr : PA X es t) (hs : starEach (e :: es) X.env = (false, eval e X.env) :: starEach es X.env := by rfl) : PA X (e :: es) (tCons te t) := by
 intro pos pins s σ H Q I h
 rw [hs]
 show wpAny _ _ (spliced ((false, eval e X.env) :: backTo pos (starEach es X.env))) _ _ s
 refine Calls.spliced_cons (thn (ha pins s σ H _ I h) fun u s1 ⟨x, H1, I1, r1, q1⟩ => ?_)
 exact thn (hr pos pins s1 σ H1 _ I1 q1) fun us s2 ⟨xs, H2, I2, r2, q2⟩ => ⟨x :: xs, H2, I2, .cons r1 r2, q2⟩
def tTup (t : TA) : TE := fun σ H Q => t σ H fun xs H1 => xs.length <= sizeLine /\ ∀ p, H1 p = none -> Q (.ref p) (upd H1 p (.tup xs))
def tLst (t : TA) : TE := fun σ H Q => t σ H fun xs H1 => xs.length <= sizeLine /\ ∀ p, H1 p = none -> Q (.ref p) (upd H1 p (.lst xs))
theorem pe_tup {x1} (h : PA X es t) : PE X (.Tuple es x1 pos) (tTup t) := by
 intro pins s σ H Q I hq
 refine wpAny_Tuple_spliced (thn (h pos pins s σ H _ I hq) fun us s1 ⟨xs, H1, I1, r, z, q⟩ => ⟨by rw [<- r.length]; exact z, ?_⟩)
 have hf : H1 s1.heap.objs.size = none := I1.hok.fresh (jAx _)
 refine ⟨.ref s1.heap.objs.size, upd H1 s1.heap.objs.size (.tup xs), I1.laid (t' := s1.toks) (fun b u e => jAu _ e) (jAx _) ?_, rfl, q _ hf⟩
 exact ⟨z, us, r, ⟨_, jAw _ rfl, rfl, _, rfl⟩⟩
theorem pe_lst (h : PA X es t) : PE X (.List es pos) (tLst t) := by
 intro pins s σ H Q I hq
 refine wpAny_List_spliced (thn (h pos pins s σ H _ I hq) fun us s1 ⟨xs, H1, I1, r, z, q⟩ => ⟨by rw [<- r.length]; exact z, ?_⟩)
 have hf : H1 s1.heap.objs.size = none := I1.hok.fresh (jAx _)
 refine ⟨.ref s1.heap.objs.size, upd H1 s1.heap.objs.size (.lst xs), I1.laid (t' := s1.toks) (fun b u e => jAu _ e) (jAx _) ?_, rfl, q _ hf⟩
 exact ⟨z, us, 0, r, jAw _ rfl⟩
end
abbrev Sp := List V -> Hp -> VK -> XK -> Prop
abbrev CXT := List Env -> Hp -> Shared -> XK -> Value -> Shared -> Prop
structure Env0 (P : Program) (w : World) (K : PySem.W.Frag) (mg : Str -> Option Value) (base : Heap) (A : Around) (outer : List Env) (s : Shared) (H : Hp) : Prop where
 frames : A.frames = some outer
 mod : Mod K mg base
 bs : ∀ b o, base.get? b = some o -> s.heap.get? b = some o /\ H b = none
 bsz : base.objs.size <= s.heap.objs.size
 funs : s.heap.FunFrames base outer
 frf : ∀ b ∈ frs outer, H b = none
 hok : HOk P w H s.heap
 bare : AllBare s.gens
def CE (outer : List Env) (P : Program) (w : World) (H : Hp) (s : Shared) (Q : VK) (u : Value) (s' : Shared) : Prop :=
 ∃ v H', s'.os = s.os /\ AllBare s'.gens /\ Un (frs outer) [] H H' s.heap s'.heap /\ HOk P w H' s'.heap /\ RelV v u /\ Q v H'
def CR (CX : CXT) (outer : List Env) (P : Program) (w : World) (H : Hp) (s : Shared) (Q : VK) (E : XK) (r : Result) (s' : Shared) : Prop :=
 match r with
 | .ok (.ret u) => CE outer P w H s Q u s'
 | .ok _ => False
 | .error e => CX outer H s E e s'
structure FnOk (P : Program) (w : World) (K : PySem.W.Frag) (mg : Str -> Option Value) (base : Heap) (CX : CXT) (k : Nat) (f : Addr) (fd : FuncData) (ps : List Str) (sp : Sp) : Prop where
 len : ∀ vs H Q E, sp vs H Q E -> vs.length = ps.length
 run : ∀ (A : Around) (outer : List Env) (s : Shared) (H : Hp) (args : Args) (us : List Value) (vs : List V) (Q : VK) (E : XK), Room k A -> Env0 P w K mg base A outer s H -> BindsTo s fd args (ps.zip us) -> Vals vs us -> sp vs H Q E ->
  codeAny (model P w) A (.call (.ref f) args) (CR CX outer P w H s Q E) s
theorem FnOk.mono {P : Program} {w : World} {K : PySem.W.Frag} {mg : Str -> Option Value} {base : Heap} {CX : CXT} {j k : Nat} {f : Addr} {fd : FuncData} {ps : List Str} {sp : Sp} (F : FnOk P w K mg base CX j f fd ps sp) (h : j <= k) :
  FnOk P w K mg base CX k f fd ps sp := ⟨F.len, fun A outer s H args us vs Q E hr => F.run A outer s H args us vs Q E (hr.mono h)⟩
theorem FnOk.imp {P : Program} {w : World} {K : PySem.W.Frag} {mg : Str -> Option Value} {base : Heap} {CX : CXT} {k : Nat} {f : Addr} {fd : FuncData} {ps : List Str} {sp sp' : Sp} (F : FnOk P w K mg base CX k f fd ps sp)
  (h : ∀ vs H Q E, sp' vs H Q E -> sp vs H Q E) : FnOk P w K mg base CX k f fd ps sp' :=
 ⟨fun vs H Q E q => F.len vs H Q E (h _ _ _ _ q), fun A outer s H args us vs Q E hr he hb hv hs => F.run A outer s H args us vs Q E hr he hb hv (h _ _ _ _ hs)⟩
theorem Env0.make {P : Program} {w : World} {K : PySem.W.Frag} {mg : Str -> Option Value} {base : Heap} {A : Around} {outer : List Env} {s : Shared} {H : Hp} (e : Env0 P w K mg base A outer s H) (C : Addr) (us : List Value) (kw : List (Str × Value)) :
  Env0 P w K mg base (A.under (.builtin "type.__call__" ⟨.ref C :: us, kw⟩)) outer s H := ⟨by first | exact e.frames | (simpa [Around.under, Code.envs, Code.isFrame, pushEnvs] using e.frames), e.mod, e.bs, e.bsz, e.funs, e.frf, e.hok, e.bare⟩
section
variable {X : Cx} {pins : List (Addr × Obj)} {σ : St} {H : Hp} {s s' : Shared}
theorem Inv.env0 (I : Inv X pins σ H s) : Env0 X.prog X.w X.K X.mg X.base X.A X.stack s H :=
 ⟨I.ok.frames, I.ok.mod, I.bs, jAj I.ok.bsz I.sz, I.stack, I.stkFree, I.hok, I.bare⟩
theorem Inv.after (I : Inv X pins σ H s) (h : CE X.stack X.prog X.w H s Q u s') : EP X pins σ Q u s' := by
 obtain ⟨v, H', os, bare, un, hok, r, q⟩ := h
 obtain ⟨hh, g, d, t, os'⟩ := s'
 obtain rfl : os' = s.os := os
 exact ⟨v, H', I.call (h' := hh) (g' := g) (d' := d) (t' := t) (ch := []) un hok bare (fun b z => absurd z (by simp)), r, q⟩
end
def tCall (sp : Sp) (dvs : List V) (E : XK) (t : TA) : TE := fun σ H Q => t σ H fun vs H1 => sp (vs ++ dvs) H1 Q E
def tMeth (C : Addr) (m : Str) (sp : Sp) (dvs : List V) (E : XK) (ta : TE) (t : TA) : TE := fun σ H Q => ta σ H fun x H1 => ∃ a dx fs, x = .ref a /\ H1 a = some (.ins C dx fs) /\ fs.lookup m = none /\
 t σ H1 fun vs H2 => sp (x :: (vs ++ dvs)) H2 Q E
def tMake (C : Addr) (sp : Sp) (dvs : List V) (E : XK) (t : TA) : TE := fun σ H Q => t σ H fun vs H1 => ∀ x dx, H1 x = none -> H1 dx = none -> dx ≠ x ->
 sp (.ref x :: (vs ++ dvs)) (upd (upd H1 dx (.own x)) x (.ins C dx [])) (fun v H2 => v = .non /\ Q (.ref x) H2) E
def zV (K : PySem.W.Frag) (fd : FuncData) (ps : List Str) (ds : List Value) : Prop :=
 ∀ (s : Shared) (us : List Value), K.In s.heap -> (us ++ ds).length = ps.length -> BindsTo s fd ⟨us, []⟩ (ps.zip (us ++ ds))
theorem zV.all {K : PySem.W.Frag} {fd : FuncData} {ps : List Str} (h : ∀ us : List Value, us.length = ps.length -> bindArgs fd ⟨us, []⟩ = pure (ps.zip us)) : zV K fd ps [] := fun s us _ hl => by
 rw [jBh] at hl ⊢
 exact .of_eq (h us hl)
def qBb (CX : CXT) (X : Cx) (E : XK) : Prop := ∀ (pins : List (Addr × Obj)) (σ : St) (H : Hp) (s : Shared) (e : Value) (s' : Shared), Inv X pins σ H s -> CX X.stack H s E e s' -> X.xe e s'
section
variable {X : Cx} {CX : CXT} {k : Nat} {f C : Addr} {fd : FuncData} {ps : List Str} {sp : Sp} {dvs : List V} {ds : List Value} {E : XK} {x m : Str} {p pos apos : Pos} {e o : Expr} {es : List Expr} {ta : TE} {t : TA}
theorem run_fn (F : FnOk X.prog X.w X.K X.mg X.base CX k f fd ps sp) (hr : Room k X.A) (hb : zV X.K fd ps ds) (hd : Vals dvs ds) (hx : qBb CX X E)
  (I : Inv X pins σ H s) (r : Vals vs us) (h : sp (vs ++ dvs) H Q E) : wpAny (model X.prog X.w) X.A (call (.ref f) us) (EP X pins σ Q) X.xe s := by
 have r2 : Vals (vs ++ dvs) (us ++ ds) := r.append hd
 have hl : (us ++ ds).length = ps.length := by rw [<- r2.length]; exact F.len _ _ _ _ h
 refine wpAny_call (codeAny_mono (F.run X.A X.stack s H ⟨us, []⟩ (us ++ ds) (vs ++ dvs) Q E hr I.env0 (hb s us I.kIn hl) r2 h) fun r s' hq => ?_)
 cases r with
 | error e => exact hx pins σ H s e s' I hq
 | ok fl =>
  cases fl with
  | ret u => exact I.after hq
  | next => exact False.elim hq
  | brk => exact False.elim hq
  | cont => exact False.elim hq
theorem pe_call (F : FnOk X.prog X.w X.K X.mg X.base CX k f fd ps sp) (hr : Room k X.A) (hg : Gl X x) (hm : X.mg x = some (.ref f)) (hk : jBc X.K (.ref f) = true) (hb : zV X.K fd ps ds) (hd : Vals dvs ds) (hx : qBb CX X E)
  (ha : PA X (e :: es) t) (hdb : (x == ("__debug__" : Str)) = false := by decide) (he : starEach (e :: es) X.env = (false, eval e X.env) :: starEach es X.env := by rfl) (hpl : (backTo pos (starEach es X.env)).any (·.1) = false := by rfl) :
  PE X (.Call (.Name x p) (e :: es) [] pos) (tCall sp dvs E t) := by
 intro pins s σ H Q I h
 refine wpAny_Call_Name_kw (ld_glob I hg hm ?_ hdb)
 refine jBi (h₀ := X.base) I.ok.mod.kin hk (thn (ha pos pins s σ H _ I h) fun us s1 ⟨vs, H1, I1, r, q⟩ => ⟨I1.kIn, ?_⟩) he hpl
 exact run_fn F hr hb hd hx I1 r q
theorem pe_meth (he : PE X o ta) (c : Cls X.K C) (hm : Meth X.K C m f) (F : FnOk X.prog X.w X.K X.mg X.base CX k f fd ps sp) (hr : Room k X.A) (hb : zV X.K fd ps ds) (hd : Vals dvs ds) (hx : qBb CX X E) (ha : PA X (e :: es) t)
  (hst : starEach (e :: es) X.env = (false, eval e X.env) :: starEach es X.env := by rfl) (hpl : (backTo pos (starEach es X.env)).any (·.1) = false := by rfl)
  (ht : eval (.Call (.Attribute o m apos) (e :: es) [] pos) X.env = (do
   let ov <- eval o X.env
   standAt apos.atName
   let (f, first) <- holding [ov] (getMethod ov m pl)
   callWith pos f first (backTo pos (starEach (e :: es) X.env)) (backToKw pos (keywordEach [] X.env))) := by rfl) :
  PE X (.Call (.Attribute o m apos) (e :: es) [] pos) (tMeth C m sp dvs E ta t) := by
 intro pins s σ H Q I h
 refine jBj (pl := pl) (thn (he pins s σ H _ I h) fun u s1 ⟨x, H1, I1, rx, a, dx, fs, ex, ea, l, q⟩ => ?_) ht
 subst ex
 obtain rfl : u = Value.ref a := rx
 refine qFb I1 ea c hm l ?_
 refine jBi (first := [.ref a]) (h₀ := X.base) I.ok.mod.kin hm.kp (thn (ha pos pins s1 σ H1 _ I1 q) fun us s2 ⟨vs, H2, I2, r, q2⟩ => ⟨I2.kIn, ?_⟩) hst hpl
 exact run_fn (us := .ref a :: us) (vs := .ref a :: vs) F hr hb hd hx I2 (.cons rfl r) q2
theorem pe_meth0 (he : PE X o ta) (c : Cls X.K C) (hm : Meth X.K C m f) (F : FnOk X.prog X.w X.K X.mg X.base CX k f fd ps sp) (hr : Room k X.A) (hb : zV X.K fd ps ds) (hd : Vals dvs ds) (hx : qBb CX X E)
  (ht : eval (.Call (.Attribute o m apos) [] [] pos) X.env = (do
   let ov <- eval o X.env
   standAt apos.atName
   let (f, first) <- holding [ov] (getMethod ov m pl)
   callWith pos f first (backTo pos (starEach [] X.env)) (backToKw pos (keywordEach [] X.env))) := by rfl) :
  PE X (.Call (.Attribute o m apos) [] [] pos) (tMeth C m sp dvs E ta tNil) := by
 intro pins s σ H Q I h
 refine jBj (pl := pl) (thn (he pins s σ H _ I h) fun u s1 ⟨x, H1, I1, rx, a, dx, fs, ex, ea, l, q⟩ => ?_) ht
 subst ex
 obtain rfl : u = Value.ref a := rx
 refine qFb I1 ea c hm l ?_
 exact PySem.W.callWith_K0 (first := [.ref a]) I1.kIn hm.kp (run_fn (us := [.ref a]) (vs := [.ref a]) F hr hb hd hx I1 (.cons rfl .nil) q)
structure Mk (K : PySem.W.Frag) (C f : Addr) : Prop where
 makes : jA8 K C = true
 init : jA2 K (.ref C) "__init__" = some (some (.ref f))
 fn : jA4 K (.ref f) = true
 kp : jBc K (.ref C) = true
theorem run_make (M : Mk X.K C f) (F : FnOk X.prog X.w X.K X.mg X.base CX k f fd ps sp) (hr : Room (k + 1) X.A) (hb : zV X.K fd ps ds) (hd : Vals dvs ds)
  (hx : qBb CX X E) (I : Inv X pins σ H s) (r : Vals vs us)
  (h : ∀ x dx, H x = none -> H dx = none -> dx ≠ x -> sp (.ref x :: (vs ++ dvs)) (upd (upd H dx (.own x)) x (.ins C dx [])) (fun v H2 => v = .non /\ Q (.ref x) H2) E) :
  wpAny (model X.prog X.w) X.A (call (.ref C) us) (EP X pins σ Q) X.xe s := by
 have hq := h (s.heap.objs.size + 1) s.heap.objs.size (I.hok.fresh (Nat.le_succ _)) (I.hok.fresh (jAx _)) (jAf (jBf _))
 have I2 := Inv.made (C := C) I
 have r2 : Vals (V.ref (s.heap.objs.size + 1) :: (vs ++ dvs)) (Value.ref (s.heap.objs.size + 1) :: (us ++ ds)) := .cons rfl (r.append hd)
 have hl : (Value.ref (s.heap.objs.size + 1) :: us ++ ds).length = ps.length := by
  have e := r2.length
  rw [F.len _ _ _ _ hq] at e
  exact e.symm
 refine wpAny_call (make_map (f := f) I.kIn M.makes M.init (beq_iff_eq.mp M.fn) (codeAny_mono (F.run _ X.stack _ _ ⟨Value.ref (s.heap.objs.size + 1) :: us, []⟩ (Value.ref (s.heap.objs.size + 1) :: (us ++ ds)) _ _ E (hr.make C us [])
  (I2.env0.make C us []) (hb _ (Value.ref (s.heap.objs.size + 1) :: us) I2.kIn hl) r2 hq) fun r s' hq' => ?_))
 cases r with
 | error e => exact hx pins σ _ _ e s' I2 hq'
 | ok fl =>
  cases fl with
  | ret u =>
   obtain ⟨v, H', I3, rv, ev, q3⟩ := I2.after hq'
   subst ev
   exact ⟨rv, ⟨V.ref (s.heap.objs.size + 1), H', I3, rfl, q3⟩⟩
  | next => exact False.elim hq'
  | brk => exact False.elim hq'
  | cont => exact False.elim hq'
theorem pe_make (M : Mk X.K C f) (F : FnOk X.prog X.w X.K X.mg X.base CX k f fd ps sp) (hr : Room (k + 1) X.A) (hg : Gl X x) (hm : X.mg x = some (.ref C)) (hb : zV X.K fd ps ds) (hd : Vals dvs ds) (hx : qBb CX X E)
  (ha : PA X (e :: es) t) (hdb : (x == ("__debug__" : Str)) = false := by decide) (he : starEach (e :: es) X.env = (false, eval e X.env) :: starEach es X.env := by rfl) (hpl : (backTo pos (starEach es X.env)).any (·.1) = false := by rfl) :
  PE X (.Call (.Name x p) (e :: es) [] pos) (tMake C sp dvs E t) := by
 intro pins s σ H Q I h
 refine wpAny_Call_Name_kw (ld_glob I hg hm ?_ hdb)
 refine jBi (h₀ := X.base) I.ok.mod.kin M.kp (thn (ha pos pins s σ H _ I h) fun us s1 ⟨vs, H1, I1, r, q⟩ => ⟨I1.kIn, ?_⟩) he hpl
 exact run_make M F hr hb hd hx I1 r q
end
structure zN (N P : List Str) (sc : Scope) : Prop where
 kind : sc.kind = .function
 co : sc.isCoroutine = false
 gen : sc.isGenerator = false
 nd : N.Nodup
 pre : N.take P.length = P
 par : ∀ x ∈ P, sc.names.lookup x = some .local \/ sc.names.lookup x = some .cell
 nofree : ∀ y ∈ sc.names, y.2 ≠ .free
theorem bindL_out {kindOf : Str -> Option NameKind} {x : Str} : ∀ {binds : List (Str × Value)} {m : Str -> Option Value}, (∀ v, (x, v) ∉ binds) -> bindL kindOf binds m x = m x
 | [], _, _ => rfl
 | (n, v) :: r, m, h => by
  unfold bindL
  rw [bindL_out fun w hw => h w (jAn _ hw)]
  split
  ·have : x ≠ n := by rintro rfl; exact h v jAm
   simp [this]
  ·rfl
theorem bindC_out {kindOf : Str -> Option NameKind} {x : Str} : ∀ {binds : List (Str × Value)} {m : Str -> Option Value}, (∀ v, (x, v) ∉ binds) -> bindC kindOf binds m x = m x
 | [], _, _ => rfl
 | (n, v) :: r, m, h => by
  unfold bindC
  rw [bindC_out fun w hw => h w (jAn _ hw)]
  split
  ·rfl
  ·have : x ≠ n := by rintro rfl; exact h v jAm
   simp [this]
theorem bindL_get {kindOf : Str -> Option NameKind} {x : Str} {v : Value} : ∀ {P : List Str} {vs : List Value} {i : Nat} {m : Str -> Option Value}, P.Nodup -> P[i]? = some x -> vs[i]? = some v -> kindOf x = some .local ->
  bindL kindOf (P.zip vs) m x = some v
 | [], _, _, _, _, h, _, _ => by simp at h
 | _ :: _, [], _, _, _, _, h, _ => by simp at h
 | p :: P, w :: vs, 0, m, nd, h1, h2, hk => by
  simp at h1 h2; subst h1; subst h2
  show bindL kindOf ((p, w) :: P.zip vs) m p = _
  unfold bindL
  rw [bindL_out fun v hv => (jBk.mp nd).1 (jBl hv).1, if_pos hk]
  simp
 | p :: P, w :: vs, i + 1, m, nd, h1, h2, hk => by
  show bindL kindOf ((p, w) :: P.zip vs) m x = _
  unfold bindL
  exact bindL_get (i := i) (jBk.mp nd).2 (by simpa using h1) (by simpa using h2) hk
theorem bindC_get {kindOf : Str -> Option NameKind} {x : Str} {v : Value} : ∀ {P : List Str} {vs : List Value} {i : Nat} {m : Str -> Option Value}, P.Nodup -> P[i]? = some x -> vs[i]? = some v -> kindOf x ≠ some .local ->
  bindC kindOf (P.zip vs) m x = some v
 | [], _, _, _, _, h, _, _ => by simp at h
 | _ :: _, [], _, _, _, _, h, _ => by simp at h
 | p :: P, w :: vs, 0, m, nd, h1, h2, hk => by
  simp at h1 h2; subst h1; subst h2
  show bindC kindOf ((p, w) :: P.zip vs) m p = _
  unfold bindC
  rw [bindC_out fun v hv => (jBk.mp nd).1 (jBl hv).1, if_neg hk]
  simp
 | p :: P, w :: vs, i + 1, m, nd, h1, h2, hk => by
  show bindC kindOf ((p, w) :: P.zip vs) m x = _
  unfold bindC
  exact bindC_get (i := i) (jBk.mp nd).2 (by simpa using h1) (by simpa using h2) hk
def start (N : List Str) (vs : List V) : St := vs.map some ++ jBm (N.length - vs.length) none
def cxOf (CX : CXT) (P : Program) (w : World) (K : PySem.W.Frag) (mg : Str -> Option Value) (base : Heap) (N : List Str) (qual : Str) (scope : Scope) (f : Addr) (cd : Value) (A : Around) (outer : List Env) (s : Shared) (H : Hp) (E : XK) : Cx where
 prog := P
 w := w
 K := K
 mg := mg
 base := base
 A := A.deeper (envOfC qual scope s.heap.objs.size f cd)
 N := N
 s₀ := s
 H₀ := H
 env := envOfC qual scope s.heap.objs.size f cd
 outer := outer
 stack := envOfC qual scope s.heap.objs.size f cd :: outer
 ex := []
 calm := true
 fn := fun _ => true
 pn := []
 xe := fun e s' => wpAny (model P w) (A.deeper (envOfC qual scope s.heap.objs.size f cd)) (leaving (envOfC qual scope s.heap.objs.size f cd) e) (fun _ s'' => CX outer H s E e s'') (fun e' s'' => CX outer H s E e' s'') s'
theorem cell_has {sc : Scope} {n : Nat} {x : Str} (h : sc.names.lookup x = some .cell) : ∃ c, (cellsFrom n sc.names []).lookup x = some c := by
 have q := jBn sc.names n [] (.inl h)
 exact jBo.mp q
theorem inv_start {CX : CXT} {P : Program} {w : World} {K : PySem.W.Frag} {mg : Str -> Option Value} {base : Heap} {N ps : List Str} {qual : Str} {scope : Scope} {f : Addr} {cd : Value} {A : Around} {outer : List Env} {s s1 : Shared} {H : Hp} {E : XK} {us : List Value} {vs : List V}
  (S : zN N ps scope) (hd : A.handled = none) (e0 : Env0 P w K mg base A outer s H) (hl : vs.length = ps.length) (r : Vals vs us)
  (x : InCallC s s.heap.objs.size (bindL (envOfC qual scope s.heap.objs.size f cd).kindOf (ps.zip us) fun _ => none) (cellsFrom (s.heap.objs.size + 1) scope.names []) (bindC (envOfC qual scope s.heap.objs.size f cd).kindOf (ps.zip us) fun _ => none) s1) :
  Inv (cxOf CX P w K mg base N qual scope f cd A outer s H E) [] (start N vs) H s1 := by
 have hpl : ps.length <= N.length := by have := congrArg jBp S.pre; rw [jBq] at this; omega
 obtain ⟨h1, tk, rfl, hk⟩ := x.done
 have noA : ∀ b : Addr, b ∉ (cxOf CX P w K mg base N qual scope f cd A outer s H E).ex := fun b z => absurd (show b ∈ ([] : List Addr) from z) (by simp)
 refine ⟨⟨e0.mod, S.kind, rfl, rfl, jAx _, fun y z c h1 h2 => ?_, fun y hy => ?_, fun y c _ h => ?_, fun _ => hd, Around.frames_deeper e0.frames, .inr ⟨rfl, rfl⟩, fun b z => absurd z (noA b), e0.bs, e0.bsz, fun b _ _ => noA b, fun b z => absurd z (noA b), e0.funs, e0.frf⟩,
  rfl, e0.bare, Un.kept hk, ⟨_, x.toInCall.ns, fun i y v h1 h2 h3 => ?_⟩, fun y c h => ⟨_, x.cell y c h⟩, e0.hok.fresh (jAx _), fun y c h => ?_, fun p hp => absurd (show p ∈ ([] : List (Addr × Obj)) from hp) (by simp), e0.hok.kept hk, ?_⟩
 ·exact name_of_addr x.apart (PySem.mem_of_lookup h1) (PySem.mem_of_lookup h2)
 ·have hy : scope.names.lookup y = some .cell \/ scope.names.lookup y = some .free := hy
  rcases hy with hy | hy
  ·exact cell_has hy
  ·exact absurd rfl (S.nofree _ (PySem.mem_of_lookup hy))
 ·exact jAk (x.above y c (PySem.mem_of_lookup h))
 ·have hi : i < vs.length := by
   unfold start at h2
   by_cases hi : i < vs.length
   ·exact hi
   ·rw [jBr (by simpa using hi)] at h2
    rw [jBs] at h2
    split at h2 <;> cases h2
  have ha : vs[i]? = some v := by
   unfold start at h2
   rw [jBt (by simpa using hi), jBu] at h2
   cases e : vs[i]? with
   | none => rw [e] at h2; cases h2
   | some a => rw [e] at h2; cases h2; rfl
  obtain ⟨u, hu, rv⟩ := r.get ha
  have hp : ps[i]? = some y := by
   rw [<- S.pre, List.getElem?_take_of_lt (by omega)]; exact h1
  have ndP : ps.Nodup := by rw [<- S.pre]; exact S.nd.sublist (List.take_sublist _ _)
  refine ⟨u, rv, ?_⟩
  rcases S.par y (jBv hp) with k | k
  ·exact .inl ⟨k, bindL_get ndP hp hu k⟩
  ·obtain ⟨c, e⟩ := cell_has (n := s.heap.objs.size + 1) k
   refine .inr ⟨.inl k, c, e, ?_⟩
   have q := x.cell y c e
   rw [bindC_get ndP hp hu (by show scope.names.lookup y ≠ _; rw [k]; decide)] at q
   exact q
 ·exact e0.hok.fresh (jAk (x.above y c (PySem.mem_of_lookup h)))
 ·unfold start
  show _ = N.length
  rw [jBw, jBd, jBx]
  omega
theorem fn_of {CX : CXT} {P : Program} {w : World} {K : PySem.W.Frag} {mg : Str -> Option Value} {base : Heap} {k : Nat} {f : Addr} {name qual : Str} {params : Arguments} {body : List Stmt} {scope : Scope} {dV kV doc pm cdv ct oc : Value} {an od : Option Addr}
  {osl : Array (Option Value)} {N ps : List Str} {sp : Sp} (lk : K.lookup f = some ⟨oc, od, .func (jBy name qual params body scope dV kV doc pm an cdv ct), osl⟩) (hcd : jBz K cdv qual = true) (S : zN N ps scope)
  (len : ∀ vs H Q E, sp vs H Q E -> vs.length = ps.length)
  (hbody : ∀ (A : Around) (outer : List Env) (s : Shared) (H : Hp) (vs : List V) (Q : VK) (E : XK), Room k (A.deeper (envOfC qual scope s.heap.objs.size f cdv)) -> sp vs H Q E ->
   ∃ t, PSs (cxOf CX P w K mg base N qual scope f cdv A outer s H E) body t /\ t { nx := fun _ H' => Q .non H', rt := Q } (start N vs) H) :
  FnOk P w K mg base CX (k + 1) f (jBy name qual params body scope dV kV doc pm an cdv ct) ps sp := by
 refine ⟨len, fun A outer s H args us vs Q E hr e0 hb r hsp => ?_⟩
 have hl := len _ _ _ _ hsp
 have KX : K.In s.heap := e0.mod.kin.keeps fun b o e => (e0.bs b o e).1
 have lim : s.heap.NoLimit := e0.mod.nolimit.keeps fun b o e => (e0.bs b o e).1
 have hkind : ∀ y ∈ ps.zip us, scope.names.lookup y.1 = some .local \/ (scope.names.lookup y.1 = some .cell /\ ((cellsFrom (s.heap.objs.size + 1) scope.names []).lookup y.1).isSome = true) := fun ⟨n, v⟩ hy => by
  rcases S.par n (jBl hy).1 with q | q
  ·exact .inl q
  ·exact .inr ⟨q, jBn _ _ _ (.inl q)⟩
 refine codeAny_call_function hr.depth (KX _ _ lk) rfl S.co S.gen rfl (PySem.W.codeRec_of KX hcd) (hb _ _ _ _ ?_)
 refine wpAny_newFunctionEnv_cells S.kind hkind fun env he s1 x => ?_
 subst he
 refine ⟨lim.keeps x.toInCall.keep, codeAny_func ?_⟩
 obtain ⟨t, ht, hq⟩ := hbody A outer s H vs Q E (hr.deeper _) hsp
 have I : Inv (cxOf CX P w K mg base N qual scope f cdv A outer s H E) [] (start N vs) H s1 := inv_start S hr.hd e0 hl r x
 refine wpAny_mono (ht [] s1 (start N vs) H _ I hq) (fun fl s' hs => ?_) fun e s' hs => hs
 have fin : ∀ {σ' : St} {H' : Hp} {v : V} {u : Value}, Inv (cxOf CX P w K mg base N qual scope f cdv A outer s H E) [] σ' H' s' -> RelV v u -> Q v H' -> CE outer P w H s Q u s' :=
  fun {σ' H' v u} J rv q => ⟨v, H', J.os, J.bare, J.base, J.hok, rv, q⟩
 cases fl with
 | ret u =>
  obtain ⟨v, σ', H', J, rv, q⟩ := hs
  exact fin J rv q
 | next =>
  obtain ⟨σ', H', J, q⟩ := hs
  exact fin (v := V.non) (u := Value.none) J rfl q
 | brk =>
  obtain ⟨_, _, _, q⟩ := hs
  exact False.elim q
 | cont =>
  obtain ⟨_, _, _, q⟩ := hs
  exact False.elim q
end L2
namespace L2
open PySem PySem.Spec PyProof.Rows
section
variable {X : Cx} {x : Str} {p pos : Pos} {e : Expr} {es : List Expr} {t : TA} {id T : String} {r : List V -> Hp -> VK -> Prop}
def tCB (r : List V -> Hp -> VK -> Prop) (t : TA) : TE := fun σ H Q => t σ H fun vs H1 => r vs H1 Q
theorem qDt (hc : qBy X (.builtin id) r) (hg : Gl X x) (hm : X.mg x = none) (hv : bootBuiltins x = some (.builtin id)) (ha : PA X (e :: es) t) (hn : x ≠ "__name__" := by decide) (hdb : (x == ("__debug__" : Str)) = false := by decide)
  (he : starEach (e :: es) X.env = (false, eval e X.env) :: starEach es X.env := by rfl) (hpl : (backTo pos (starEach es X.env)).any (·.1) = false := by rfl) : PE X (.Call (.Name x p) (e :: es) [] pos) (tCB r t) := by
 intro pins s σ H Q I h
 refine wpAny_Call_Name_kw (qDl I hg hm hv ?_ hn hdb)
 exact PyProof.Rows.callWith_builtin1 (thn (ha pos pins s σ H _ I h) fun us s1 ⟨vs, H1, I1, r1, q1⟩ => hc pins s1 σ H1 vs us Q I1 r1 q1) he hpl
theorem pe_callTy (hc : qBy X (.type T) r) (hg : Gl X x) (hm : X.mg x = none) (hv : bootBuiltins x = some (.type T)) (ha : PA X (e :: es) t) (hn : x ≠ "__name__" := by decide) (hdb : (x == ("__debug__" : Str)) = false := by decide)
  (he : starEach (e :: es) X.env = (false, eval e X.env) :: starEach es X.env := by rfl) (hpl : (backTo pos (starEach es X.env)).any (·.1) = false := by rfl) : PE X (.Call (.Name x p) (e :: es) [] pos) (tCB r t) := by
 intro pins s σ H Q I h
 refine wpAny_Call_Name_kw (qDl I hg hm hv ?_ hn hdb)
 exact PyProof.Rows.callWith_type1 (thn (ha pos pins s σ H _ I h) fun us s1 ⟨vs, H1, I1, r1, q1⟩ => hc pins s1 σ H1 vs us Q I1 r1 q1) he hpl
end
end L2
namespace HT
open PySem PyProof.Rows
section
variable {prog : Program} {w : World} {A : Around} {E : Value -> Shared -> Prop} {s : Shared}
def sIx (n d : Nat) : Option Int -> Nat
 | none => d
 | some v => if v < 0 then (v + (n : Int)).toNat else min v.toNat n
theorem sIx_le (n d : Nat) (hd : d <= n) (o : Option Int) : sIx n d o <= n := by
 cases o with
 | none => exact hd
 | some v =>
  show (if v < 0 then (v + (n : Int)).toNat else min v.toNat n) <= n
  by_cases hv : v < 0
  ·rw [if_pos hv]; omega
  ·rw [if_neg hv]; exact Nat.min_le_right _ _
theorem clip_eq (v : Int) (n d : Nat) : (if v < 0 then max (v + (n : Int)) 0 else min v (n : Int)) = ((sIx n d (some v) : Nat) : Int) := by
 show (if v < 0 then max (v + (n : Int)) 0 else min v (n : Int)) = (((if v < 0 then (v + (n : Int)).toNat else min v.toNat n) : Nat) : Int)
 by_cases hv : v < 0
 ·simp only [if_pos hv]; omega
 ·simp only [if_neg hv]; omega
theorem adjust_gen (lo hi : Option Int) (n : Nat) : Builtin.Slice.sliceAdjust lo hi 1 (n : Int) = (((sIx n 0 lo : Nat) : Int), ((sIx n n hi : Nat) : Int)) := by
 have h1 : ¬ ((1 : Int) < 0) := by omega
 unfold Builtin.Slice.sliceAdjust
 simp only [h1, if_false]
 refine Prod.ext ?_ ?_
 ·cases lo with
  | none => rfl
  | some v => exact clip_eq v n 0
 ·cases hi with
  | none => rfl
  | some v => exact clip_eq v n n
theorem places_gen (i j : Nat) : Builtin.Slice.slicePlaces (i : Int) (j : Int) 1 = j - i := by
 unfold Builtin.Slice.slicePlaces
 have h1 : (1 : Int) > 0 := by omega
 simp only [h1, if_true, Int.ediv_one]
 split <;> omega
theorem qE3 (p : IsPart v o) (h : Q o s) : wpAny (model prog w) A (Builtin.Slice.slicePartIndex v) Q E s := by
 cases p with
 | none => exact slicePart_none h
 | int i t => exact slicePart_int h
theorem qDp {sl : Addr} {vl vu : Value} {lo hi : Option Int} {n : Nat} {Q : Int × Int × Nat -> Shared -> Prop} (hs : s.heap.IsSliceOf sl vl vu .none) (pl : IsPart vl lo) (pu : IsPart vu hi)
  (h : Q (((sIx n 0 lo : Nat) : Int), 1, sIx n n hi - sIx n 0 lo) s) : wpAny (model prog w) A (Builtin.Slice.sliceApplied (.ref sl) (pure (n : Int))) Q E s := by
 obtain ⟨os, hos, hcs, hds⟩ := id hs
 unfold Builtin.Slice.sliceApplied Builtin.Slice.sliceFields
 refine wpAny_bind (wpAny_bind (wpAny_field hos hds (x := vl) rfl (wpAny_bind (wpAny_field hos hds (x := vu) rfl (wpAny_bind (wpAny_field hos hds (x := .none) rfl (wpAny_pure ?_)))))))
 refine wpAny_bind (slicePart_none ?_)
 show wpAny _ _ (if ((1 : Int) == 0) = true then _ else _) _ _ s
 rw [if_neg (by decide)]
 refine wpAny_bind (qE3 pl (wpAny_bind (qE3 pu (wpAny_bind (wpAny_pure ?_)))))
 show wpAny _ _ (match Builtin.Slice.sliceAdjust lo hi 1 (n : Int) with | (lo, hi) => pure (lo, (1 : Int), Builtin.Slice.slicePlaces lo hi 1)) _ _ s
 rw [adjust_gen lo hi n]
 show wpAny _ _ (pure (((sIx n 0 lo : Nat) : Int), (1 : Int), Builtin.Slice.slicePlaces ((sIx n 0 lo : Nat) : Int) ((sIx n n hi : Nat) : Int) 1)) _ _ s
 rw [places_gen]
 exact wpAny_pure h
theorem pick_gen (xs : Array Value) (i k : Nat) : ((jAg k).filterMap fun (m : Nat) => xs[((i : Int) + (m : Int) * 1).toNat]?).toArray = ((xs.toList.drop i).take k).toArray := by
 have e : (fun (m : Nat) => xs[((i : Int) + (m : Int) * 1).toNat]?) = fun m => xs[i + m]? := by
  funext m
  have : ((i : Int) + (m : Int) * 1).toNat = i + m := by omega
  rw [this]
 rw [e]
 have := pick_run xs i k
 rw [List.filterMap_map] at this
 have e2 : ((fun x => xs[x]?) ∘ fun x => i + x) = fun m => xs[i + m]? := rfl
 rw [e2] at this
 rw [this]
theorem getItem_tuple_cut {t sl : Addr} {items : Array Value} {vl vu : Value} {lo hi : Option Int} {Q : Value -> Shared -> Prop} (ht : IsTup s.heap t items) (hs : s.heap.IsSliceOf sl vl vu .none) (pl : IsPart vl lo) (pu : IsPart vu hi)
  (hw : ¬ (sIx items.size 0 lo = 0 /\ sIx items.size items.size hi = items.size))
  (h : Q (.ref s.heap.objs.size) { s with heap := s.heap.push { cls := .type "tuple", data := .seq ((items.toList.drop (sIx items.size 0 lo)).take (sIx items.size items.size hi - sIx items.size 0 lo)).toArray } })
  (hsz : items.size <= sizeLine) : wpAny (model prog w) A (getItem (.ref t) (.ref sl)) Q E s := by
 have htake : sizeOk (.seq ((items.toList.drop (sIx items.size 0 lo)).take (sIx items.size items.size hi - sIx items.size 0 lo)).toArray) := by
  show ((items.toList.drop (sIx items.size 0 lo)).take (sIx items.size items.size hi - sIx items.size 0 lo)).toArray.size <= sizeLine
  rw [jB0, jBq, List.length_drop, Array.length_toList]
  omega
 have hj : sIx items.size items.size hi <= items.size := sIx_le _ _ (jAx _) hi
 obtain ⟨os, hos, hcs, hds⟩ := id hs
 have hTs : s.TypeIs (.ref sl) "slice" := ⟨os, hos, hcs⟩
 unfold getItem
 try with_reducible refine wpAny_holding ?_
 first | refine wpAny_bind (wpAny_pure ?_) | skip
 refine wpAny_bind (wpAny_sequenceKey ht.typeIs (by decide) ?_)
 refine wpAny_bind (wpAny_callSpecial?_slot (name := Str.ofString "__getitem__") ht.typeIs PyProof.Rows.slot_tuple_getitem
  (wpAny_call_entry PyProof.Rows.slot_tuple_getitem ht.typeIs entry_tuple_getitem ?_ (args_tuple_getitem _ _)))
 show wpAny _ _ (Builtin.Tuple.tupleItemsOf (.ref t) >>= _) _ _ s
 refine wpAny_bind (tupleItemsOf_ ht ?_)
 refine wpAny_bind (wpAny_typeOf hTs ?_)
 rw [if_pos (by decide)]
 refine wpAny_bind (qDp hs pl pu ?_)
 have hno : ¬ ((((sIx items.size 0 lo : Nat) : Int) == 0 && (1 : Int) == 1 && (sIx items.size items.size hi - sIx items.size 0 lo) == items.size) = true) := by
  intro q
  rw [Bool.and_eq_true, Bool.and_eq_true] at q
  have q1 : ((sIx items.size 0 lo : Nat) : Int) = 0 := eq_of_beq q.1.1
  have q2 : sIx items.size items.size hi - sIx items.size 0 lo = items.size := eq_of_beq q.2
  exact hw ⟨by omega, by omega⟩
 show wpAny _ _ (if (((sIx items.size 0 lo : Nat) : Int) == 0 && (1 : Int) == 1 && (sIx items.size items.size hi - sIx items.size 0 lo) == items.size) = true then _ else _) _ _ s
 rw [if_neg hno, pick_gen]
 first
  | exact wpAny_bind (m := Builtin.Tuple.tupleExact _) (wpAny_newObj_type (wpAny_pure ⟨_, rfl, wpAny_pure h⟩) htake)
  | exact wpAny_bind (m := Builtin.Tuple.tupleExact _) (wpAny_newObj_type (wpAny_bind (wpAny_pure (wpAny_pure ⟨_, rfl, wpAny_pure h⟩))) htake)
  | exact wpAny_bind (wpAny_bind (m := Builtin.Tuple.tupleExact _) (wpAny_newObj_type (wpAny_pure (wpAny_pure ⟨_, rfl, wpAny_pure h⟩)) htake))
  | exact wpAny_bind (wpAny_bind (m := Builtin.Tuple.tupleExact _) (wpAny_newObj_type (wpAny_pure ⟨_, rfl, wpAny_pure h⟩) htake))
end
end HT
namespace L2
open PySem PySem.Spec PyProof.Rows
abbrev TO := St -> Hp -> (Option Int -> Hp -> Prop) -> Prop
def PO (X : Cx) (e : Option Expr) (t : TO) : Prop :=
 ∀ (pins : List (Addr × Obj)) (s : Shared) (σ : St) (H : Hp) (Q : Option Int -> Hp -> Prop), Inv X pins σ H s -> t σ H Q ->
  wpAny (model X.prog X.w) X.A (evalPart e X.env) (fun u s' => ∃ o H', Inv X pins σ H' s' /\ IsPart u o /\ Q o H') X.xe s
def tNoPart : TO := fun _ H Q => Q none H
def tPart (t : TE) : TO := fun σ H Q => t σ H fun x H1 => ∃ i, x = .int i /\ Q (some i) H1
section
variable {X : Cx} {e : Expr} {te : TE} {lo hi : Option Expr} {tl th : TO} {pos p2 : Pos}
theorem po_none : PO X none tNoPart := by
 intro pins s σ H Q I h
 rw [evalPart_none]
 exact wpAny_pure ⟨none, H, I, .none, h⟩
theorem po_some (h : PE X e te) : PO X (some e) (tPart te) := by
 intro pins s σ H Q I hw
 rw [evalPart_some]
 refine thn (h pins s σ H _ I hw) fun u s1 ⟨x, H1, I1, r1, q1⟩ => ?_
 obtain ⟨i, rfl, q⟩ := q1
 obtain ⟨t, rfl⟩ := r1
 exact ⟨some i, H1, I1, .int i t, q⟩
def SlR (X : Cx) (r : V -> Option Int -> Option Int -> Hp -> VK -> Prop) : Prop :=
 ∀ (pins : List (Addr × Obj)) (s : Shared) (σ : St) (H : Hp) (x : V) (v vl vu : Value) (lo hi : Option Int) (sl : Addr) (Q : VK), Inv X pins σ H s -> RelV x v -> s.heap.IsSliceOf sl vl vu .none -> IsPart vl lo -> IsPart vu hi -> r x lo hi H Q ->
  ∃ T id, typeLookup (.type T) "__getitem__" = pure (some (.builtin id)) /\ s.TypeIs v T /\ wpAny (model X.prog X.w) X.A (getItem v (.ref sl)) (EP X pins σ Q) X.xe s
theorem SlR.or (h : SlR X r) (h' : SlR X r') : SlR X (fun x lo hi H Q => r x lo hi H Q \/ r' x lo hi H Q) := by
 intro pins s σ H x v vl vu lo hi sl Q I rx hs pl pu q
 rcases q with q | q
 ·exact h pins s σ H x v vl vu lo hi sl Q I rx hs pl pu q
 ·exact h' pins s σ H x v vl vu lo hi sl Q I rx hs pl pu q
def tSl (r : V -> Option Int -> Option Int -> Hp -> VK -> Prop) (te : TE) (tl th : TO) : TE := fun σ H Q => te σ H fun x H1 => tl σ H1 fun l H2 => th σ H2 fun u H3 => r x l u H3 Q
theorem pe_slice (hr : SlR X r) (he : PE X e te) (hl : PO X lo tl) (hu : PO X hi th) : PE X (.Subscript e (.Slice lo hi none p2) pos) (tSl r te tl th) := by
 intro pins s σ H Q I h
 refine Subscript_ (thn (he pins s σ H _ I h) fun v s1 ⟨x, H1, I1, r1, q1⟩ => ?_)
 refine wpAny_Slice (thn (hl pins s1 σ H1 _ I1 q1) fun vl s2 ⟨l, H2, I2, pl, q2⟩ => thn (hu pins s2 σ H2 _ I2 q2) fun vu s3 ⟨u, H3, I3, pu, q3⟩ => ?_)
 rw [evalPart_none]
 refine wpAny_pure ?_
 have I4 : Inv X pins σ H3 { s3 with heap := s3.heap.push { cls := .type "slice", data := .fields #[vl, vu, .none] } } := I3.kept (t' := s3.toks) fun b ob q => jAu _ q
 obtain ⟨T, id, hT, ht, hg⟩ := hr pins { s3 with heap := s3.heap.push { cls := .type "slice", data := .fields #[vl, vu, .none] } } σ H3 x v vl vu l u s3.heap.objs.size Q I4 r1 (Heap.IsSliceOf.new ..) pl pu q3
 show wpAny (model X.prog X.w) X.A (subscriptTail e (.Slice lo hi none p2) v (.ref s3.heap.objs.size)) (EP X pins σ Q) X.xe { s3 with heap := s3.heap.push { cls := .type "slice", data := .fields #[vl, vu, .none] } }
 exact tail_any (ops := [.ref s3.heap.objs.size, v]) ht hT hg (by with_unfolding_all rfl)
def cutV (xs : List V) (lo hi : Option Int) : List V := (xs.drop (HT.sIx xs.length 0 lo)).take (HT.sIx xs.length xs.length hi - HT.sIx xs.length 0 lo)
theorem qEt (xs : List V) (lo hi : Option Int) : (cutV xs lo hi).length <= xs.length := by
 unfold cutV
 rw [jBq, List.length_drop]
 omega
def rSlT (K : PySem.W.Frag) : V -> Option Int -> Option Int -> Hp -> VK -> Prop := fun x lo hi H Q => ∃ a xs, x = .ref a /\ SqT K H a xs /\
 ¬ (HT.sIx xs.length 0 lo = 0 /\ HT.sIx xs.length xs.length hi = xs.length) /\ ∀ p, H p = none -> Q (.ref p) (upd H p (.tup (cutV xs lo hi)))
theorem sl_tup : SlR X (rSlT X.K) := by
 intro pins s σ H x v vl vu lo hi sl Q I rx hs pl pu h
 obtain ⟨a, xs, rfl, hx, hw, q⟩ := h
 cases rx
 obtain ⟨its, r, ht, hz⟩ := I.tuple hx
 have hlen : its.toArray.size = xs.length := by rw [jB0]; exact r.length.symm
 refine ⟨"tuple", _, PyProof.Rows.slot_tuple_getitem.lookup, ht.typeIs, ?_⟩
 refine HT.getItem_tuple_cut ht hs pl pu (by rw [hlen]; exact hw) ?_ (by rw [hlen]; exact hz)
 rw [hlen]
 refine ⟨.ref s.heap.objs.size, _, I.laid (t' := s.toks) (o := .tup (cutV xs lo hi)) (fun b ob q => jAu _ q) (jAx _) ?_, rfl, q _ (I.hok.fresh (jAx _))⟩
 exact ⟨jAj (qEt xs lo hi) hz, _, (r.drop (HT.sIx xs.length 0 lo)).take (HT.sIx xs.length xs.length hi - HT.sIx xs.length 0 lo), IsTup.new _ _⟩
end
end L2
namespace L2
open PySem PySem.Spec PyProof.Rows
def ixN (n : Nat) (i : Int) : Option Nat := if 0 <= i then (if i < n then some i.toNat else none) else if -(n : Int) <= i then some (i + n).toNat else none
def atI {α : Type} (xs : List α) (i : Int) : Option α := (ixN xs.length i).bind fun j => xs[j]?
theorem ixN_seq (h : ixN n i = some j) : seqIndex? i n = some j /\ j < n /\ -(n : Int) <= i /\ i < n := by
 unfold ixN at h
 by_cases h0 : 0 <= i
 ·rw [if_pos h0] at h
  by_cases h1 : i < n
  ·rw [if_pos h1] at h
   have e : i.toNat = j := Option.some.inj h
   exact ⟨by rw [seqIndex_of h0 h1, e], by omega, by omega, h1⟩
  ·rw [if_neg h1] at h; cases h
 ·rw [if_neg h0] at h
  by_cases h1 : -(n : Int) <= i
  ·rw [if_pos h1] at h
   have e : (i + n).toNat = j := Option.some.inj h
   exact ⟨by rw [seqIndex_neg (by omega) h1, e], by omega, h1, by omega⟩
  ·rw [if_neg h1] at h; cases h
theorem atI_get (h : atI xs i = some v) : ∃ j, seqIndex? i xs.length = some j /\ xs[j]? = some v /\ j < xs.length /\ -(xs.length : Int) <= i /\ i < xs.length := by
 unfold atI at h
 cases e : ixN xs.length i with
 | none => rw [e] at h; cases h
 | some j =>
  rw [e] at h
  obtain ⟨h1, h2, h3, h4⟩ := ixN_seq e
  exact ⟨j, h1, h, h2, h3, h4⟩
def PlainIx (b : Expr) : Prop := ∀ o i, subscripted b false o i = operate [o, i] (getItem o i)
def IxR (X : Cx) (r : R2) : Prop :=
 ∀ (value slice : Expr) (pins : List (Addr × Obj)) (s : Shared) (σ : St) (H : Hp) (x y : V) (v u : Value) (Q : VK), Inv X pins σ H s -> RelV x v -> RelV y u -> r x y H Q ->
  subscripted slice false v u = operate [v, u] (getItem v u) -> wpAny (model X.prog X.w) X.A (subscriptTail value slice v u) (EP X pins σ Q) X.xe s
def MtR (X : Cx) (id : String) (r : V -> List V -> Hp -> VK -> Prop) : Prop :=
 ∀ (pins : List (Addr × Obj)) (s : Shared) (σ : St) (H : Hp) (x : V) (xs : List V) (v : Value) (us : List Value) (Q : VK), Inv X pins σ H s -> RelV x v -> Vals xs us -> r x xs H Q ->
  wpAny (model X.prog X.w) X.A (call (.builtin id) (v :: us)) (EP X pins σ Q) X.xe s
section
variable {X : Cx} {a b : Expr} {ta tb : TE} {pos : Pos}
theorem IxR.or (h : IxR X r) (h' : IxR X r') : IxR X (fun x y H Q => r x y H Q \/ r' x y H Q) := by
 intro value slice pins s σ H x y v u Q I rx ry q hs
 rcases q with q | q
 ·exact h value slice pins s σ H x y v u Q I rx ry q hs
 ·exact h' value slice pins s σ H x y v u Q I rx ry q hs
theorem pe_ix (hr : IxR X r) (ha : PE X a ta) (hb : PE X b tb) (hs : PlainIx b) : PE X (.Subscript a b pos) (tOp r ta tb) := by
 intro pins s σ H Q I h
 exact Subscript_ (binT ha hb I h fun v u s2 x y H2 I2 rx ry q => hr a b pins s2 σ H2 x y v u Q I2 rx ry q (hs _ _))
def rIxL (K : PySem.W.Frag) : R2 := fun x y H Q => ∃ p xs i v, x = .ref p /\ y = .int i /\ SqL K H p xs /\ atI xs i = some v /\ Q v H
def rIxT (K : PySem.W.Frag) : R2 := fun x y H Q => ∃ p xs i v, x = .ref p /\ y = .int i /\ SqT K H p xs /\ atI xs i = some v /\ Q v H
theorem ix_list : IxR X (rIxL X.K) := by
 intro value slice pins s σ H x y v u Q I rx ry h hs
 obtain ⟨p, xs, i, z, rfl, rfl, hq, he, q⟩ := h
 cases rx
 obtain ⟨t, rfl⟩ := ry
 obtain ⟨its, r, pl, hz⟩ := I.list hq
 obtain ⟨j, h1, h2, h3, h4, h5⟩ := atI_get he
 obtain ⟨w, ew, rw'⟩ := r.get h2
 have hl := r.length
 have hn := line63
 have fin : EP X pins σ Q w s := ⟨z, H, I, rw', q⟩
 by_cases h0 : 0 <= i
 ·have hj : i.toNat = j := by
   rw [seqIndex_of h0 h5] at h1
   exact Option.some.inj h1
  exact item_listR pl.isList h0 (by omega) (by rw [hj]; simpa using ew) fin hs
 ·have hj : (i + (its.toArray.size : Int)).toNat = j := by
   rw [seqIndex_neg (by omega) h4] at h1
   rw [jB0, <- hl]
   exact Option.some.inj h1
  exact subscriptTail_builtinR (x := w) pl.isList.typeIs slot_list_getitem.lookup
   (wpAny_getItem_list_neg (Q := fun r s' => r = w /\ EP X pins σ Q r s') pl.isList (by omega) (by rw [jB0] <;> omega) (by omega) (by rw [hj]; simpa using ew) ⟨rfl, fin⟩) hs
theorem ix_tup : IxR X (rIxT X.K) := by
 intro value slice pins s σ H x y v u Q I rx ry h hs
 obtain ⟨p, xs, i, z, rfl, rfl, hq, he, q⟩ := h
 cases rx
 obtain ⟨t, rfl⟩ := ry
 obtain ⟨its, r, pl, hz⟩ := I.tuple hq
 obtain ⟨j, h1, h2, h3, h4, h5⟩ := atI_get he
 obtain ⟨w, ew, rw'⟩ := r.get h2
 have hl := r.length
 have hn := line63
 have fin : EP X pins σ Q w s := ⟨z, H, I, rw', q⟩
 exact subscriptTail_builtinR (x := w) pl.typeIs slot_tuple_getitem.lookup
  (getItem_tuple (j := j) (Q := fun r s' => r = w /\ EP X pins σ Q r s') pl (by omega) (by omega) (by rw [jB0, <- hl]; exact h1) (by simpa using ew) ⟨rfl, fin⟩) hs
theorem mapSeq_set (its : List Value) (n j : Nat) (u : Value) : Obj.mapSeq (·.setIfInBounds j u) { cls := .type "list", data := .seq its.toArray n } = { cls := .type "list", data := .seq (its.set j u).toArray n } := by
 simp [Obj.mapSeq]
theorem Inv.lst (I : Inv X pins σ H s) (h : H p = some (.lst xs)) :
  ∃ (its : List Value) (n : Nat), Vals xs its /\ s.heap.get? p = some { cls := .type "list", data := .seq its.toArray n } /\ xs.length <= sizeLine := by
 obtain ⟨z, its, n, r, e⟩ := I.hok p _ h
 exact ⟨its, n, r, e, z⟩
theorem Inv.lstUpd {pins : List (Addr × Obj)} {σ : St} {H : Hp} {s : Shared} {p : Addr} {xs ys : List V} {its its' : List Value} {n n' : Nat} {f : Obj -> Obj} (I : Inv X pins σ H s) (h : H p = some (.lst xs))
  (ho : s.heap.get? p = some { cls := .type "list", data := .seq its.toArray n }) (hf : f { cls := .type "list", data := .seq its.toArray n } = { cls := .type "list", data := .seq its'.toArray n' }) (r : Vals ys its') (hz : ys.length <= sizeLine) (t : Nat) :
  Inv X pins σ (upd H p (.lst ys)) { s with heap := s.heap.update p f, toks := t } := by
 have e : (s.heap.update p f).get? p = some { cls := .type "list", data := .seq its'.toArray n' } := by
  rw [jB1 f ho (by rw [hf] <;> rfl), hf]
 refine I.write (x := p) (e := p) (by rw [h]; trivial) (.inl rfl) (fun b u hb q => (jB2 _ _ (Ne.symm hb)).trans q) ⟨_, e⟩ ?_
 exact ⟨hz, its', n', r, e⟩
def rSetL : V -> V -> V -> Hp -> (Hp -> Prop) -> Prop := fun o i v H Q => ∃ p xs k j, o = .ref p /\ i = .int k /\ H p = some (.lst xs) /\ ixN xs.length k = some j /\ Q (upd H p (.lst (xs.set j v)))
theorem set_list : PSet X rSetL := by
 intro pins s σ H o i v ov iv u Q I ro ri rv h
 obtain ⟨p, xs, k, j, rfl, rfl, hp, hj, q⟩ := h
 cases ro
 obtain ⟨t, rfl⟩ := ri
 obtain ⟨its, n, r, ho, hz⟩ := I.lst hp
 obtain ⟨h1, h2, h3, h4⟩ := ixN_seq hj
 have hl := r.length
 have hn := line63
 have I' : Inv X pins σ (upd H p (.lst (xs.set j v))) { s with heap := s.heap.update p (Obj.mapSeq (·.setIfInBounds j u)) } :=
  I.lstUpd hp ho (mapSeq_set its n j u) (r.set rv j) (by rw [List.length_set]; exact hz) s.toks
 by_cases h0 : 0 <= k
 ·have hk : k.toNat = j := by
   rw [seqIndex_of h0 h4] at h1
   exact Option.some.inj h1
  exact PySem.W.ki_setAt ho h0 (by omega) (by rw [jB0, <- hl]; exact h4) (by rw [hk]; exact ⟨_, I', q⟩)
 ·have hk : (k + (its.toArray.size : Int)).toNat = j := by
   rw [seqIndex_neg (by omega) h3] at h1
   rw [jB0, <- hl]
   exact Option.some.inj h1
  exact PySem.W.ki_setBack ho (by omega) (by rw [jB0, <- hl]; exact h3) (by omega) (by rw [hk]; exact ⟨_, I', q⟩)
theorem slice_bounds (lo hi : Option Int) (n : Nat) : (sliceBounds lo hi none n).1 = ((HT.sIx n 0 lo : Nat) : Int) /\ (sliceBounds lo hi none n).2.1 = ((HT.sIx n n hi : Nat) : Int) /\ (sliceBounds lo hi none n).2.2 = 1 := by
 refine ⟨?_, ?_, rfl⟩
 ·cases lo with
  | none => simp [sliceBounds, HT.sIx]
  | some i =>
   simp only [sliceBounds, HT.sIx, Option.getD_none, show (1 : Int) > 0 by decide, if_true]
   by_cases h : i < 0
   ·simp only [h, if_true] <;> omega
   ·simp only [h, if_false] <;> omega
 ·cases hi with
  | none => simp [sliceBounds, HT.sIx]
  | some i =>
   simp only [sliceBounds, HT.sIx, Option.getD_none, show (1 : Int) > 0 by decide, if_true]
   by_cases h : i < 0
   ·simp only [h, if_true] <;> omega
   ·simp only [h, if_false] <;> omega
theorem qFi (its : List Value) (lo hi : Option Int) : slicePick its.toArray lo hi none = ((its.drop (HT.sIx its.length 0 lo)).take (HT.sIx its.length its.length hi - HT.sIx its.length 0 lo)).toArray := by
 obtain ⟨h1, h2, h3⟩ := slice_bounds lo hi its.toArray.size
 unfold slicePick
 rw [h1, h2, h3]
 simp only [sliceRange_one, pick_run, jB0] <;> rfl
def rSlL (K : PySem.W.Frag) : V -> Option Int -> Option Int -> Hp -> VK -> Prop := fun x lo hi H Q => ∃ a xs, x = .ref a /\ SqL K H a xs /\ ∀ p, H p = none -> Q (.ref p) (upd H p (.lst (cutV xs lo hi)))
theorem sl_list : SlR X (rSlL X.K) := by
 intro pins s σ H x v vl vu lo hi sl Q I rx hs pl pu h
 obtain ⟨a, xs, rfl, hx, q⟩ := h
 cases rx
 obtain ⟨its, r, ht, hz⟩ := I.list hx
 have hlen := r.length
 refine ⟨"list", _, slot_list_getitem.lookup, ht.isList.typeIs, ?_⟩
 refine wpAny_getItem_list_slice ht.isList hs pl pu .none (by simp) ?_ (by rw [jB0] <;> omega)
 rw [qFi, <- hlen]
 refine ⟨.ref s.heap.objs.size, _, I.laid (t' := s.toks) (o := .lst (cutV xs lo hi)) (fun b ob q => jAu _ q) (jAx _) ?_, rfl, q _ (I.hok.fresh (jAx _))⟩
 exact ⟨jAj (qEt xs lo hi) hz, _, 0, (r.drop (HT.sIx xs.length 0 lo)).take (HT.sIx xs.length xs.length hi - HT.sIx xs.length 0 lo), jAw _ rfl⟩
theorem call_len_seq : qBy X (.builtin "len") (fun xs H Q => ∃ p ys, xs = [.ref p] /\ (SqL X.K H p ys \/ SqT X.K H p ys) /\ Q (.int ys.length) H) := by
 intro pins s σ H xs us Q I r h
 obtain ⟨p, ys, rfl, hq, q⟩ := h
 obtain ⟨u, rfl, rx⟩ := vals1 r
 cases rx
 have hn := line63
 rcases hq with hq | hq
 ·obtain ⟨its, r', pl, hz⟩ := I.list hq
  have hlen := r'.length
  exact Calls.call_len_list pl.isList (by simp only [jB0] <;> omega) ⟨.int ys.length, H, I.tok _, ⟨s.toks + 1, by rw [jB0, hlen]⟩, q⟩
 ·obtain ⟨its, r', pl, hz⟩ := I.tuple hq
  have hlen := r'.length
  exact len_tuple pl (by simp only [jB0] <;> omega) ⟨.int ys.length, H, I.tok _, ⟨s.toks + 1, by rw [jB0, hlen]⟩, q⟩
theorem call_len_str : qBy X (.builtin "len") (fun xs H Q => ∃ z, xs = [.str z] /\ z.length <= sizeLine /\ Q (.int z.length) H) := by
 intro pins s σ H xs us Q I r h
 obtain ⟨z, rfl, hz, q⟩ := h
 obtain ⟨u, rfl, t, rfl⟩ := vals1 r
 have hn := line63
 exact len_str (by omega) ⟨.int z.length, H, I.tok _, ⟨_, rfl⟩, q⟩
theorem qBy.or (h : qBy X f r) (h' : qBy X f r') : qBy X f (fun xs H Q => r xs H Q \/ r' xs H Q) := by
 intro pins s σ H xs us Q I rs q
 rcases q with q | q
 ·exact h pins s σ H xs us Q I rs q
 ·exact h' pins s σ H xs us Q I rs q
theorem call_list_of : qBy X (.type "list") (fun xs H Q => ∃ p ys, xs = [.ref p] /\ (SqL X.K H p ys \/ SqT X.K H p ys) /\ ∀ l, H l = none -> Q (.ref l) (upd H l (.lst ys))) := by
 intro pins s σ H xs us Q I r h
 obtain ⟨p, ys, rfl, hq, q⟩ := h
 obtain ⟨u, rfl, rx⟩ := vals1 r
 cases rx
 have fin : ∀ (its : List Value), Vals ys its -> ys.length <= sizeLine -> ∀ (h' : Heap) (c' : Nat), (∀ b o', s.heap.get? b = some o' -> h'.get? b = some o') ->
   h'.get? s.heap.objs.size = some { cls := .type "list", dict := none, data := .seq its.toArray c', slots := #[] } -> EP X pins σ Q (.ref s.heap.objs.size) { s with heap := h' } := fun its r' hz h' c' kp e =>
  ⟨.ref s.heap.objs.size, _, I.laid (t' := s.toks) kp (jAx _) (show qBm X.prog X.w _ h' _ (.lst ys) from ⟨hz, its, c', r', e⟩), rfl, q _ (I.hok.fresh (jAx _))⟩
 rcases hq with hq | hq
 ·obtain ⟨its, r', pl, hz⟩ := I.list hq
  have hlen := r'.length
  obtain ⟨o, ho, hc, n, hd⟩ := pl.isList
  exact call_list_seq p (.inl rfl) ho hc hd (fun h' c' kp e => fin its r' hz h' c' kp e) (by simp only [jB0] <;> omega)
 ·obtain ⟨its, r', pl, hz⟩ := I.tuple hq
  have hlen := r'.length
  obtain ⟨o, ho, hc, n, hd⟩ := pl
  exact call_list_seq p (.inr rfl) ho hc hd (fun h' c' kp e => fin its r' hz h' c' kp e) (by simp only [jB0] <;> omega)
def tyV (K : PySem.W.Frag) (T : String) (x : V) (H : Hp) : Prop := match x with
 | .str _ => T = "str"
 | .int _ => T = "int"
 | .ref p => (T = "list" /\ ∃ xs, SqL K H p xs) \/ (T = "tuple" /\ ∃ o, K.lookup p = some o /\ o.cls = .type "tuple" /\ o.dict = none) \/
   (T = "dict" /\ ((∃ kvs, H p = some (.dK kvs)) \/ ∃ kvs, H p = some (.dT kvs))) \/ (T = "set" /\ ∃ S n, H p = some (.set S n))
 | _ => False
theorem tyV_is (I : Inv X pins σ H s) (r : RelV x v) (ty : tyV X.K T x H) :
  s.TypeIs v T /\ ∀ a, v = .ref a -> ∃ ob, s.heap.get? a = some ob /\ ob.dict = none := by
 cases x with
 | str z =>
  obtain ⟨t, rfl⟩ := r
  cases (show T = "str" from ty)
  exact ⟨typeIs_str s z t, fun _ e => nomatch e⟩
 | int i =>
  obtain ⟨t, rfl⟩ := r
  cases (show T = "int" from ty)
  exact ⟨typeIs_int s i t, fun _ e => nomatch e⟩
 | ref p =>
  cases r
  rcases ty with ⟨rfl, xs, hq⟩ | ⟨rfl, o, hk, hc, hd⟩ | ⟨rfl, hk⟩ | ⟨rfl, S, n, hk⟩
  ·obtain ⟨its, _, pl, _⟩ := I.list hq
   refine ⟨pl.isList.typeIs, fun a e => ?_⟩
   cases e
   obtain ⟨o, n, e, c, hd, _⟩ := pl
   exact ⟨o, e, hd⟩
  ·refine ⟨⟨o, I.kIn p o hk, hc⟩, fun a e => ?_⟩
   cases e
   exact ⟨o, I.kIn _ o hk, hd⟩
  ·have z : ∃ o, s.heap.get? p = some o /\ o.ExactDict := by
    rcases hk with ⟨kvs, hk⟩ | ⟨kvs, hk⟩
    ·obtain ⟨_, _, _, _, o, _, _, e, ex, _⟩ := I.hok p _ hk
     exact ⟨o, e, ex⟩
    ·obtain ⟨_, _, _, _, o, _, _, e, ex, _⟩ := I.hok p _ hk
     exact ⟨o, e, ex⟩
   obtain ⟨o, e, ex⟩ := z
   refine ⟨⟨o, e, ex.1⟩, fun a e2 => ?_⟩
   cases e2
   exact ⟨o, e, ex.2.1⟩
  ·obtain ⟨o, _, _, _, e, ex, _⟩ := I.hok p _ hk
   refine ⟨⟨o, e, ex.1⟩, fun a e2 => ?_⟩
   cases e2
   exact ⟨o, e, ex.2.1⟩
 | _ => exact False.elim ty
def tBM0 (K : PySem.W.Frag) (T : String) (r : V -> List V -> Hp -> VK -> Prop) (to : TE) : TE := fun σ H Q => to σ H fun x H1 => tyV K T x H1 /\ r x [] H1 Q
def tBM (K : PySem.W.Frag) (T : String) (r : V -> List V -> Hp -> VK -> Prop) (to : TE) (t : TA) : TE := fun σ H Q => to σ H fun x H1 => tyV K T x H1 /\ t σ H1 fun xs H2 => r x xs H2 Q
variable {o e : Expr} {es : List Expr} {to : TE} {t : TA} {name : Str} {apos cpos : Pos} {T id : String} {r : V -> List V -> Hp -> VK -> Prop}
theorem pe_bm0 (pa : PlainAttrs T) (slot : Slot T name id) (hty : typeOf (.builtin id) = pure (.type "method_descriptor")) (hm : MtR X id r) (ho : PE X o to)
  (hbase : attributeBase o name X.env (eval o X.env) = eval o X.env := by rfl) (hline : (apos.endLine == cpos.line) = true := by rfl) : PE X (.Call (.Attribute o name apos) [] [] cpos) (tBM0 X.K T r to) := by
 intro pins s σ H Q I h
 refine wpAny_Call_method0_late hbase hline (thn (ho pins s σ H _ I h) fun v s1 ⟨x, H1, I1, r1, ty, q1⟩ => ?_)
 obtain ⟨h1, h2⟩ := tyV_is I1 r1 ty
 exact ⟨T, id, pa, slot, hty, h1, h2, Calls.callWith_builtin rfl (PySem.evalArgs_none (hm pins s1 σ H1 x [] v [] Q I1 r1 .nil q1))⟩
theorem pe_bm (pa : PlainAttrs T) (slot : Slot T name id) (hty : typeOf (.builtin id) = pure (.type "method_descriptor")) (hm : MtR X id r) (ho : PE X o to) (ha : PA X (e :: es) t)
  (hbase : attributeBase o name X.env (eval o X.env) = eval o X.env := by rfl)
  (hfew : ((backTo cpos (starEach (e :: es) X.env)).all (fun x => !x.1) && (backToKw cpos (keywordEach [] X.env)).all (fun x => x.1.isSome)
   && decide ((e :: es).length + ([] : List Keyword).length + (if ([] : List Keyword).isEmpty then 0 else 1) < 30)) = true := by rfl)
  (hline : (apos.endLine == cpos.line) = true := by rfl) (hs : starEach (e :: es) X.env = (false, eval e X.env) :: starEach es X.env := by rfl) (hplain : (backTo cpos (starEach es X.env)).any (·.1) = false := by rfl) :
  PE X (.Call (.Attribute o name apos) (e :: es) [] cpos) (tBM X.K T r to t) := by
 intro pins s σ H Q I h
 refine wpAny_Call_method_late hbase hfew hline rfl (thn (ho pins s σ H _ I h) fun v s1 ⟨x, H1, I1, r1, ty, q1⟩ => ?_)
 obtain ⟨h1, h2⟩ := tyV_is I1 r1 ty
 refine ⟨T, id, pa, slot, hty, h1, h2, ?_⟩
 have hA := ha cpos pins s1 σ H1 _ I1 q1
 rw [hs] at hA ⊢
 refine Calls.callWith_builtin (by show (false || (backTo cpos (starEach es X.env)).any (·.1)) = false; rw [hplain] <;> rfl) (Calls.evalArgs_plain ?_)
 exact thn hA fun us s2 ⟨vs, H2, I2, r2, q2⟩ => hm pins s2 σ H2 x vs v us Q I2 r1 r2 q2
end
end L2
namespace L2
open PySem PySem.Spec PyProof.Rows
def MtM (X : Cx) (id : String) (r : V -> List V -> Hp -> VK -> Prop) : Prop :=
 ∀ (pins : List (Addr × Obj)) (s : Shared) (σ : St) (H : Hp) (x : V) (xs : List V) (v : Value) (us : List Value) (Q : VK), Inv X pins σ H s -> RelV x v -> Vals xs us -> r x xs H Q ->
  wpAny (model X.prog X.w) X.A (call (.builtin id) (v :: us)) (EP X pins σ Q) X.xe s
theorem Vals.one : ∀ {x : V} {us : List Value}, Vals [x] us -> ∃ u, us = [u] /\ RelV x u
 | _, _, .cons r .nil => ⟨_, rfl, r⟩
theorem Vals.two : ∀ {x y : V} {us : List Value}, Vals [x, y] us -> ∃ u v, us = [u, v] /\ RelV x u /\ RelV y v
 | _, _, _, .cons r (.cons q .nil) => ⟨_, _, rfl, r, q⟩
theorem Vals.zero : ∀ {us : List Value}, Vals [] us -> us = []
 | _, .nil => rfl
theorem Vals.dropLast (h : Vals xs us) : Vals xs.dropLast us.dropLast := by
 induction h with
 | nil => exact .nil
 | cons r t ih =>
  cases t with
  | nil => exact .nil
  | cons q t' => exact .cons r ih
theorem Vals.eraseIdx : ∀ {xs : List V} {us : List Value} (i : Nat), Vals xs us -> Vals (xs.eraseIdx i) (us.eraseIdx i)
 | _, _, _, .nil => .nil
 | _, _, 0, .cons _ t => t
 | _, _, i + 1, .cons r t => .cons r (Vals.eraseIdx i t)
theorem Vals.rep (h : Vals xs us) : ∀ k : Nat, Vals (jBm k xs).flatten (jBm k us).flatten
 | 0 => .nil
 | k + 1 => by
  rw [jB3, jB3, jB4, jB4]
  exact Vals.append h (Vals.rep h k)
theorem erase_last (l : List α) : l.eraseIdx (l.length - 1) = l.dropLast := by
 induction l with
 | nil => rfl
 | cons a r ih =>
  cases r with
  | nil => rfl
  | cons b r =>
   have e : (a :: b :: r).length - 1 = ((b :: r).length - 1) + 1 := by
    have h1 : (a :: b :: r).length = r.length + 2 := rfl
    have h2 : (b :: r).length = r.length + 1 := rfl
    omega
   rw [e, jB5, ih]
   all_goals rfl
theorem len_erase : ∀ (l : List α) (i : Nat), (l.eraseIdx i).length <= l.length
 | [], _ => jAx _
 | _ :: _, 0 => Nat.le_succ _
 | _ :: r, i + 1 => jB6 (len_erase r i)
theorem foldl_rep (its : List Value) : ∀ (k : Nat) (acc : List Value),
  List.foldl (fun x1 x2 => x1 ++ x2) acc.toArray (jBm k its.toArray) = (acc ++ (jBm k its).flatten).toArray
 | 0, acc => by simp
 | k + 1, acc => by
  have e : acc.toArray ++ its.toArray = (acc ++ its).toArray := by simp
  have e2 : (acc ++ its) ++ (jBm k its).flatten = acc ++ (jBm (k + 1) its).flatten := by
   rw [jB3, jB4, List.append_assoc]
  rw [<- e2, <- foldl_rep its k (acc ++ its), <- e, jB3, jB7]
section
variable {X : Cx} {pins : List (Addr × Obj)} {σ : St} {H : Hp} {s : Shared} {l b : Addr} {xs ys zs : List V}
theorem Inv.lset {its its' : List Value} {n : Nat} {f : Array Value -> Array Value} {t' : Nat} (I : Inv X pins σ H s) (hH : H l = some (.lst xs))
  (e : s.heap.get? l = some { cls := .type "list", data := .seq its.toArray n }) (hf : f its.toArray = its'.toArray) (hv : Vals ys its') (hz : ys.length <= sizeLine) :
  Inv X pins σ (upd H l (.lst ys)) { s with heap := s.heap.update l (Obj.mapSeq f), toks := t' } := by
 have q := PySem.IsL.update e f
 rw [hf] at q
 refine I.write (x := l) (e := l) (by rw [hH]; exact trivial) (.inl rfl) (fun b' u hb hu => (jB2 s.heap (Obj.mapSeq f) (Ne.symm hb)).trans hu) ⟨_, q⟩ ?_
 exact ⟨hz, its', _, hv, q⟩
theorem Inv.lnew (I : Inv X pins σ H s) (hv : Vals ys its) (hz : ys.length <= sizeLine) :
  Inv X pins σ (upd H s.heap.objs.size (.lst ys)) { s with heap := s.heap.push { cls := .type "list", data := .seq its.toArray }, toks := t' } :=
 I.laid (fun _ _ q => jAu _ q) (jAx _) ⟨hz, its, 0, hv, jAw _ rfl⟩
theorem Inv.fresh (I : Inv X pins σ H s) : H s.heap.objs.size = none := I.hok.fresh (jAx _)
theorem Inv.lstM (I : Inv X pins σ H s) (hH : H l = some (.lst xs)) : xs.length <= sizeLine /\ ∃ (its : List Value) (n : Nat), Vals xs its /\ xs.length = its.length /\ s.heap.get? l = some { cls := .type "list", data := .seq its.toArray n } := by
 obtain ⟨z, its, n, r, e⟩ := I.hok l _ hH
 exact ⟨z, its, n, r, r.length, e⟩
theorem Inv.lstR (I : Inv X pins σ H s) (hH : Rd H l (.lst xs)) : xs.length <= sizeLine /\ ∃ (its : List Value) (n : Nat), Vals xs its /\ xs.length = its.length /\ s.heap.get? l = some { cls := .type "list", data := .seq its.toArray n } := by
 obtain ⟨z, its, n, r, e⟩ := hH.ok I.hok
 exact ⟨z, its, n, r, r.length, e⟩
theorem notLongL (h : n <= sizeLine) : Builtin.List.listTooLong n = false := by
 unfold Builtin.List.listTooLong
 exact decide_eq_false (by omega)
end
section
variable {X : Cx}
def rAppend : V -> List V -> Hp -> VK -> Prop := fun x vs H Q => ∃ l xs y, x = .ref l /\ vs = [y] /\ H l = some (.lst xs) /\ xs.length < sizeLine /\ Q .non (upd H l (.lst (xs ++ [y])))
theorem mt_append : MtM X "list.append" rAppend := by
 intro pins s σ H x vs v us Q I rx rv h
 obtain ⟨l, xs, y, rfl, rfl, hH, hz, q⟩ := h
 cases rx
 obtain ⟨u, rfl, ru⟩ := rv.one
 obtain ⟨z, its, n, r, hl, e⟩ := I.lstM hH
 refine call_meets F.slot_list_append ⟨_, e, rfl⟩ F.entry_list_append (F.args_list_append_2 _ _) (PySem.list_append l its.toArray n u (by rw [jB0]; omega)) ⟨e, ?_⟩
 refine ⟨.non, _, I.lset (its' := its ++ [u]) hH e (by simp) (r.append (.cons ru .nil)) ?_, rfl, q⟩
 rw [jBw, jB8]
 omega
def rPop : V -> List V -> Hp -> VK -> Prop := fun x vs H Q => ∃ l xs y, x = .ref l /\ vs = [] /\ H l = some (.lst xs) /\ xs[xs.length - 1]? = some y /\ Q y (upd H l (.lst xs.dropLast))
theorem mt_pop : MtM X "list.pop" rPop := by
 intro pins s σ H x vs v us Q I rx rv h
 obtain ⟨l, xs, y, rfl, rfl, hH, hy, q⟩ := h
 cases rx
 have hus := rv.zero
 subst hus
 obtain ⟨z, its, n, r, hl, e⟩ := I.lstM hH
 obtain ⟨u, hu, ru⟩ := r.get hy
 have hy' : its.toArray[its.toArray.size - 1]? = some u := by
  show its.toArray[its.length - 1]? = some u
  rw [<- Array.getElem?_toList, <- hl]
  exact hu
 refine call_meets F.slot_list_pop ⟨_, e, rfl⟩ F.entry_list_pop (F.args_list_pop_1 _) (MeetsSeq.list_pop_last l its.toArray n u hy' (by rw [jB0]; omega)) ⟨e, ?_⟩
 refine ⟨y, _, I.lset (its' := its.dropLast) hH e ?_ r.dropLast ?_, ru, q⟩
 ·show its.toArray.eraseIdxIfInBounds (its.toArray.size - 1) = its.dropLast.toArray
  rw [jB0, jB9, erase_last]
 ·rw [List.length_dropLast]
  omega
def rPopAt : V -> List V -> Hp -> VK -> Prop := fun x vs H Q => ∃ l xs i k y, x = .ref l /\ vs = [.int i] /\ H l = some (.lst xs) /\ -(2 ^ 63) <= i /\ i < 2 ^ 63 /\ seqIndex? i xs.length = some k /\ xs[k]? = some y /\ Q y (upd H l (.lst (xs.eraseIdx k)))
theorem mt_popAt : MtM X "list.pop" rPopAt := by
 intro pins s σ H x vs v us Q I rx rv h
 obtain ⟨l, xs, i, k, y, rfl, rfl, hH, h1, h2, hk, hy, q⟩ := h
 cases rx
 obtain ⟨u, rfl, ru⟩ := rv.one
 obtain ⟨t, rfl⟩ := ru
 obtain ⟨z, its, n, r, hl, e⟩ := I.lstM hH
 obtain ⟨w, hw, rw'⟩ := r.get hy
 refine call_meets F.slot_list_pop ⟨_, e, rfl⟩ F.entry_list_pop (F.args_list_pop_2 _ _)
  (MeetsSeq.list_pop_at l its.toArray n i t k w (fitsIndex_both h1 h2) (by rw [jB0, <- hl]; exact hk) (by rw [<- Array.getElem?_toList]; exact hw) (by rw [jB0]; omega)) ⟨e, ?_⟩
 refine ⟨y, _, I.lset (its' := its.eraseIdx k) hH e ?_ (r.eraseIdx k) ?_, rw', q⟩
 ·show its.toArray.eraseIdxIfInBounds k = (its.eraseIdx k).toArray
  rw [jB9]
 ·have := len_erase xs k
  omega
def rCat : R2 := fun x y H Q => ∃ l b xs zs, x = .ref l /\ y = .ref b /\ Rd H l (.lst xs) /\ Rd H b (.lst zs) /\ xs.length + zs.length <= sizeLine /\ ∀ p, H p = none -> Q (.ref p) (upd H p (.lst (xs ++ zs)))
theorem op_cat : OpR X (binaryOp .Add) rCat := by
 intro pins s σ H x y v u Q I rx ry h
 obtain ⟨l, b, xs, zs, rfl, rfl, hH, hB, hz, q⟩ := h
 cases rx
 cases ry
 obtain ⟨z, its, n, r, hl, e⟩ := I.lstR hH
 obtain ⟨z2, its2, n2, r2, hl2, e2⟩ := I.lstR hB
 refine PySem.P.add_list e e2 ?_ (by rw [jB0, jB0]; omega)
 have ea : its.toArray ++ its2.toArray = (its ++ its2).toArray := by simp
 rw [ea]
 exact ⟨.ref _, _, I.lnew (t' := s.toks) (r.append r2) (by rw [jBw]; omega), rfl, q _ I.fresh⟩
def rRep : R2 := fun x y H Q => ∃ l k xs, x = .ref l /\ y = .int k /\ Rd H l (.lst xs) /\ -(2 ^ 63) <= k /\ k < 2 ^ 63 /\ xs.length * k.toNat <= sizeLine /\
 ∀ p, H p = none -> Q (.ref p) (upd H p (.lst (jBm k.toNat xs).flatten))
theorem len_rep (xs : List α) (k : Nat) : (jBm k xs).flatten.length = k * xs.length := by
 induction k with
 | zero => simp
 | succ k ih => rw [jB3, jB4, jBw, ih, Nat.succ_mul, Nat.add_comm]
theorem op_rep : OpR X (binaryOp .Mult) rRep := by
 intro pins s σ H x y v u Q I rx ry h
 obtain ⟨l, k, xs, rfl, rfl, hH, h1, h2, hz, q⟩ := h
 cases rx
 obtain ⟨t, rfl⟩ := ry
 obtain ⟨z, its, n, r, hl, e⟩ := I.lstR hH
 have hlen : its.toArray.size * k.toNat <= sizeLine := by rw [jB0, <- hl]; exact hz
 have hcap : ¬ its.toArray.size * k.toNat > (2 ^ 63 - 1) / 8 := by
  have : (sizeLine : Nat) <= (2 ^ 63 - 1) / 8 := by decide
  omega
 have hfit : ¬ (!Builtin.List.listFitsIndex k) = true := by
  rw [fitsIndex_both h1 h2]
  exact Bool.false_ne_true
 have hlong : ¬ Builtin.List.listTooLong (its.toArray.size * k.toNat) = true := by
  rw [notLongL hlen]
  exact Bool.false_ne_true
 have hnew : List.foldl (fun x1 x2 => x1 ++ x2) #[] (jBm (if its.toArray.isEmpty = true then 0 else k.toNat) its.toArray) = (jBm k.toNat its).flatten.toArray := by
  have f0 : ∀ m : Nat, List.foldl (fun x1 x2 => x1 ++ x2) #[] (jBm m its.toArray) = (jBm m its).flatten.toArray := fun m => by
   have := foldl_rep its m []
   rw [jCa] at this
   exact this
  rw [f0]
  cases its with
  | nil => simp
  | cons a r' => rw [if_neg (by simp)]
 refine wpAny_binaryOp_repeat_ref (T := "list") (U := "int") (by decide) ⟨_, e, rfl⟩ (fun s' => typeIs_int s' k t) noFill_list_mul F.fills_int_mul F.slot_int_rmul repeat_list F.slot_int_index.lookup
  (call_meets F.slot_int_rmul (typeIs_int s k t) F.entry_int_rmul (F.args_int_rmul_2 _ _) (int___rmul___int_list k t l its.toArray n)
   ⟨e, rfl, ⟨_, e, rfl⟩, call_meets F.slot_list_mul ⟨_, e, rfl⟩ F.entry_list_mul (F.args_list_mul_2 _ _) (AutoListH.list___mul___list_int_3 l its.toArray n k t hfit hcap hlong) ⟨e, ?_⟩⟩)
 rw [hnew]
 exact ⟨.ref _, _, I.lnew (t' := s.toks) (r.rep k.toNat) (by rw [len_rep, jCb]; exact hz), rfl, q _ I.fresh⟩
end
end L2
namespace Att
open PySem PySem.W PySem.Calls PyProof.Rows
theorem qEo : ∀ (ns : List Int) (vs : List Value), WellAll P h vs (ns.map WData.int) -> IntsAre vs ns := by
 intro ns
 induction ns with
 | nil =>
  intro vs w
  rw [jCc] at w
  cases w
  exact .nil
 | cons n ns ih =>
  intro vs w
  rw [jBb] at w
  cases w with
  | cons a b =>
   cases a
   exact .cons _ _ (ih _ b)
theorem script_of {l : OpenLaw} {n : Nat} (hn : l.most = some n) {P : Params} {h : Heap} {args : List WData} {vals : List Value}
  (hpre : l.row.toRowW.claim.pre args = true) (hwl : WellAll P h vals args) :
  ∃ a vs ns, vals = [Value.ref a] /\ args = [WData.list (ns.map WData.int)] /\ h.get? a = some { cls := .type "list", data := .seq vs.toArray } /\ IntsAre vs ns /\ ns.length <= n := by
 have hsh : WShape.hasAll [] args [.list .int] = true := (pre_splitW hpre).1
 have hc : l.pre.holds [] { args := args } = true := (pre_splitW hpre).2
 obtain ⟨d, r, rfl, h1, h2⟩ := hasAllW_cons hsh
 obtain rfl := hasAllW_nil h2
 obtain ⟨xs, rfl, h3⟩ := hasW_list h1
 obtain ⟨ns, rfl⟩ := items_int h3
 have hlen : ns.length <= n := by
  unfold OpenLaw.pre at hc
  have h4 : (WTm.not (.lt (.lit (.int (n : Int))) (.len (.arg 0)))).holds [] { args := [.list (ns.map .int)] } = true := by
   have h4 := (holds_andW hc).1
   rw [hn] at h4
   exact h4
  have h5 := condW_of h4 (w_not (w_lt w_lit (w_len_list (w_arg rfl))))
  rw [jBd] at h5
  refine jCd fun q => ?_
  have q' : (n : Int) < ((ns.length : Nat) : Int) := by omega
  first
   | (rw [decide_eq_true q'] at h5; exact absurd h5 (by decide))
   | (simp at h5; omega)
 cases hwl with
 | cons w1 w2 =>
  cases w2
  cases w1 with
  | list ho hall => exact ⟨_, _, ns, rfl, rfl, ho, qEo ns _ hall, hlen⟩
theorem post_true (l : OpenLaw) (args : List WData) : l.row.toRowW.claim.post args (.bool true) args = true :=
 postW_of (r := l.row.toRowW) (X := (true == true))
  (show WShape.has [] (.bool true) .bool = true by first | rfl | decide | simp [WShape.has, WShape.arms, WShape.armsAll])
  (show (WTm.eq .res (.lit (.bool true))).value [] { args := args, res := some (.bool true), after := args } = some (.bool (true == true)) from w_eq_bool (w_res rfl) w_lit) rfl
theorem attach_call {l : OpenLaw} {n : Nat} {q : Program} {loose : List Str} {XP : (Str -> Option Value) -> Heap -> Prop} {YP : World -> Heap -> Prop} {d : DefRec}
  (hn : l.most = some n) (hdf : d.params.defaults = [])
  (call : ∀ (w : World) (s₀ s₁ : Shared) (mg mb : Str -> Option Value) (fa : Addr) (o : Obj) (pm cd doc : Value) (a : Addr) (vs : List Value) (ns : List Int),
   Ground q loose [] XP w s₀ mg mb s₁.heap -> YP w s₁.heap ->
   s₁.heap.get? fa = some o -> o.data = .func (docDef d.name d.params d.body d.scope pm cd doc) -> s₁.heap.CodeRec cd d.name -> mg d.name = some (.ref fa) ->
   s₁.heap.get? a = some { cls := .type "list", data := .seq vs.toArray } -> IntsAre vs ns -> ns.length <= n -> (∀ z ∈ ns, z.natAbs.log2 < 1048577) -> s₁.gens = #[] ->
   codeAny (model l.prog w) callerA (.call (.ref fa) ⟨[.ref a], []⟩) (fun r s' => r = .ok (.ret (.bool true)) /\ OldK s₁.heap s'.heap /\ s'.os = s₁.os /\ AllBare s'.gens) s₁) :
  WalkO q loose XP YP l.row.toRowW d [] (fun f vs => PySem.call f vs) := by
 intro w s₀ s₁ mg mb G Y fa o pm cd doc dV kV ho hd hcd hD hmg hg args vals as hpre hlay hrd hwl hlo
 obtain rfl : dV = .none := Dflts.none hD hdf
 obtain rfl : kV = .none := Dflts.noKw hD
 obtain ⟨a, vs, ns, rfl, rfl, hobj, hints, hlen⟩ := script_of hn hpre hwl
 have hbits : ∀ z ∈ ns, z.natAbs.log2 < 1048577 := fun z hz => by
  have l1 := layableW_arg hlay (WData.list (ns.map WData.int)) (by simp)
  have l2 := layableW_item l1 (WData.int z) (jCe.mpr ⟨z, hz, rfl⟩)
  have l3 : (if z == 0 then 0 else z.natAbs.log2 + 1) <= 2 ^ 20 := by simpa [WData.weight] using (layableW_iff.mp l2).2.2
  by_cases h0 : z = 0
  ·subst h0; decide
  ·rw [if_neg (by simpa using h0)] at l3
   omega
 refine enter_call (codeAny_mono (call w s₀ s₁ mg mb fa o pm cd doc a vs ns G Y ho (fd_plain hd) hcd hmg hobj hints hlen hbits hg) fun r s' hq => ?_)
 obtain ⟨rfl, h2, h3, h4⟩ := hq
 exact ⟨.inl ⟨.bool true, .bool true, [], rfl, fun _ => rfl, .bool true, post_true l _, fun _ => ⟨List.Pairwise.nil, fun _ hm => (nomatch hm)⟩⟩, h2, h3, h4⟩
end Att
namespace L2
open PySem PySem.Spec PyProof.Rows
theorem vals_ints : ∀ {vs : List Value} {ns : List Int}, IntsAre vs ns -> Vals (ns.map V.int) vs
 | _, _, .nil => .nil
 | _, _, .cons n t h => .cons ⟨t, rfl⟩ (vals_ints h)
def Only (H : Hp) : Prop := ∀ b, H b = none \/ ∃ o xs, H b = some (.frz o (.lst xs))
theorem law_call {P : Program} {w : World} {K : PySem.W.Frag} {mg mb : Str -> Option Value} {CX : CXT} {k : Nat} {fa a : Addr} {fd : FuncData} {x : Str} {sp : Sp} {s₁ : Shared} {vs : List Value} {ns : List Int}
  (KX : K.In s₁.heap) (hns : s₁.heap.Ns mainGlobals mg) (hb : s₁.heap.Ns builtinsNs mb) (hbb : ∀ x : Str, x ≠ "__name__" -> mb x = bootBuiltins x) (hlim : s₁.heap.NoLimit) (hse : s₁.heap.NoSeer) (hg : s₁.gens = #[])
  (ha : s₁.heap.get? a = some { cls := .type "list", data := .seq vs.toArray }) (hi : IntsAre vs ns) (hl : ns.length <= sizeLine) (hr : Room k callerA)
  (F : ∀ base : Heap, K.In base -> base.Ns mainGlobals mg -> FnOk P w K mg base CX k fa fd [x] sp) (hbind : ∀ (s : Shared) (u : Value), BindsTo s fd ⟨[u], []⟩ [(x, u)])
  (hsp : ∀ H : Hp, Only H -> SqL K H a (ns.map V.int) -> sp [.ref a] H (fun v _ => v = .bl true) fun _ _ _ => False)
  (hCX : ∀ H e s', CX [] H s₁ (fun _ _ _ => False) e s' -> False) :
  codeAny (model P w) callerA (.call (.ref fa) ⟨[.ref a], []⟩) (fun r s' => r = .ok (.ret (.bool true)) /\ OldK s₁.heap s'.heap /\ s'.os = s₁.os /\ AllBare s'.gens) s₁ := by
 have rv := vals_ints hi
 have lenV := hi.length
 -- from an abstract heap in which nothing but the script may be tracked
 have core : ∀ H : Hp, Only H -> SqL K H a (ns.map V.int) -> HOk P w H s₁.heap -> (∀ b, H b ≠ none -> b = a) -> (H a ≠ none -> K.lookup a = none) ->
   codeAny (model P w) callerA (.call (.ref fa) ⟨[.ref a], []⟩) (fun r s' => r = .ok (.ret (.bool true)) /\ OldK s₁.heap s'.heap /\ s'.os = s₁.os /\ AllBare s'.gens) s₁ := by
  intro H hO hS hok hA hK
  have base_of : ∀ {b : Addr} {o : Obj}, s₁.heap.get? b = some o -> H b = none -> (hidT s₁.heap H).get? b = some o := fun e n => hidT_get e n
  have noA : ∀ {b : Addr} {o : Obj} {es : Array DictEntry} {ep : Nat}, s₁.heap.get? b = some o -> o.data = .dict es ep -> H b = none := fun {b o es ep} e d => by
   cases q : H b with
   | none => rfl
   | some u =>
    have e' : b = a := hA b (by rw [q]; simp)
    subst e'
    rw [ha] at e; cases e
    have d' : Data.seq vs.toArray _ = Data.dict es ep := d
    cases d'
  have nsK : ∀ {b : Addr} {m : Str -> Option Value}, s₁.heap.Ns b m -> (hidT s₁.heap H).Ns b m := fun {b m} ⟨o, es, ep, e, d, r⟩ => ⟨o, es, ep, base_of e (noA e d), d, r⟩
  have hKb : K.In (hidT s₁.heap H) := fun b o e => base_of (KX b o e) (by
   cases q : H b with
   | none => rfl
   | some u =>
    have e' : b = a := hA b (by rw [q]; simp)
    subst e'
    rw [hK (by rw [q]; simp)] at e; cases e)
  have hM : Mod K mg (hidT s₁.heap H) := ⟨hKb, nsK hns, ⟨mb, nsK hb, hbb⟩, let ⟨mc, h1, h2⟩ := hlim; ⟨mc, nsK h1, h2⟩,
   ⟨let ⟨mc, a, b⟩ := hse.statics; ⟨mc, nsK a, b⟩, let ⟨mc, a, b⟩ := hse.mods; ⟨mc, nsK a, b⟩, let ⟨mc, a, b⟩ := hse.imp; ⟨mc, nsK a, b⟩, let ⟨mg', bm, ob, a', b', c', d', e'⟩ := hse.main; ⟨mg', bm, ob, nsK a', b', base_of c' (by
    cases q : H bm with
    | none => rfl
    | some u =>
     have e2 : bm = a := hA bm (by rw [q]; simp)
     subst e2
     rw [ha] at c'; cases c'
     have d2 : Value.type "list" = Value.type "module" := d'
     exact absurd d2 (by decide +kernel)), d', e'⟩⟩⟩
  have e0 : Env0 P w K mg (hidT s₁.heap H) callerA [] s₁ H := ⟨rfl, hM, fun b o e => of_hidT e, Nat.le_of_eq (hidT_size _ _), trivial, fun b hb => absurd (show b ∈ ([] : List Addr) from hb) (by simp), hok, .of_eq hg⟩
  refine codeAny_mono ((F _ hKb (nsK hns)).run callerA [] s₁ H ⟨[.ref a], []⟩ [.ref a] [.ref a] _ _ hr e0 (hbind s₁ (.ref a)) (.cons rfl .nil) (hsp H hO hS)) fun r s' h => ?_
  cases r with
  | error e => exact (hCX H e s' h).elim
  | ok fl =>
   cases fl with
   | next => exact False.elim h
   | brk => exact False.elim h
   | cont => exact False.elim h
   | ret u =>
    obtain ⟨v, H', os, bare, un, hok', r', q⟩ := h
    have q' : v = .bl true := q
    subst q'
    obtain rfl : u = Value.bool true := r'
    refine ⟨rfl, OldK.of_keep fun b o e => ?_, os, bare⟩
    cases q : H b with
    | none => exact un.keep b o e q (by intro z; exact absurd (show b ∈ ([] : List Addr) from z) (by simp)) (by simp)
    | some u =>
     rcases hO b with z | ⟨ob, xs, z⟩
     ·rw [q] at z; cases z
     ·have z2 := un.frzs b ob _ z
      obtain ⟨e1, _⟩ := hok b _ z
      obtain ⟨e2, _⟩ := hok' b _ z2
      rw [e] at e1; cases e1
      exact e2
 cases hk : K.lookup a with
 | some o =>
  -- the script is one of the module's own objects
  have e := KX a o hk
  rw [ha] at e
  cases e
  refine core (fun _ => none) (fun _ => .inl rfl) (.inr ⟨_, vs.toArray, _, hk, rfl, rfl, rfl, by rw [jB0, lenV]; exact hl, by simpa using rv⟩) (fun b u z => by have z' : (none : Option HO) = some u := z; cases z') (fun b z => absurd rfl z) fun z => absurd rfl z
 | none =>
  refine core (fun b => if b = a then some (.frz { cls := .type "list", data := .seq vs.toArray } (.lst (ns.map V.int))) else none) (fun b => ?_) (.inl (.inr ⟨{ cls := .type "list", data := .seq vs.toArray }, if_pos rfl⟩)) (fun b u z => ?_) (fun b z => ?_) fun _ => hk
  ·by_cases hb : b = a
   ·exact .inr ⟨_, _, if_pos hb⟩
   ·exact .inl (if_neg hb)
  ·by_cases hb : b = a
   ·have z' := (if_pos hb).symm.trans z
    cases z'
    subst hb
    exact ⟨ha, by rw [jBd]; exact hl, vs, _, rv, ha⟩
   ·have z' := (if_neg hb).symm.trans z
    cases z'
  ·by_cases hb : b = a
   ·exact hb
   ·exact absurd (if_neg hb) z
end L2
namespace L2
open PySem PySem.Spec PyProof.Rows
theorem walk_of {l : PySem.W.OpenLaw} {n k : Nat} {q : Program} {loose : List Str} {XP : (Str -> Option Value) -> Heap -> Prop} {YP : World -> Heap -> Prop} {d : DefRec} {K : Params -> PySem.W.Frag} {CX : World -> CXT} {sp : World -> Sp} {x : Str}
  (hn : l.most = some n) (hn2 : n <= sizeLine) (hdf : d.params.defaults = []) (hr : Room k callerA)
  (hY : ∀ (w : World) (h : Heap), YP w h -> (K w.params).In h)
  (F : ∀ (w : World) (mg : Str -> Option Value) (fa : Addr) (h : Heap), (K w.params).In h -> h.Ns mainGlobals mg -> mg d.name = some (.ref fa) ->
   ∃ fd : FuncData, (∀ (s : Shared) (u : Value), BindsTo s fd ⟨[u], []⟩ [(x, u)]) /\
    ∀ base : Heap, (K w.params).In base -> base.Ns mainGlobals mg -> FnOk l.prog w (K w.params) mg base (CX w) k fa fd [x] (sp w))
  (hq : PyProof.Rows.importsNone q = true)
  (hsp : ∀ (w : World) (H : Hp) (a : Addr) (ns : List Int), ns.length <= n -> (∀ z ∈ ns, z.natAbs.log2 < 1048577) -> Only H -> SqL (K w.params) H a (ns.map V.int) -> sp w [.ref a] H (fun v _ => v = .bl true) fun _ _ _ => False)
  (hCX : ∀ (w : World) (H : Hp) (s : Shared) (e : Value) (s' : Shared), CX w [] H s (fun _ _ _ => False) e s' -> False) :
  PySem.W.WalkO q loose XP YP l.row.toRowW d [] (fun f vs => PySem.call f vs) := by
 refine Att.attach_call hn hdf fun w s₀ s₁ mg mb fa o pm cd doc a vs ns G Y ho hd hcd hmg hobj hints hlen hbits hg => ?_
 have KX := hY w _ Y
 obtain ⟨fd, hb, hF⟩ := F w mg fa _ KX G.T.g hmg
 exact law_call KX G.T.g G.T.b G.T.builtins G.T.nolimit (G.T.seer hq) hg hobj hints (jAj hlen hn2) hr hF hb (fun H hO hS => hsp w H a ns hlen hbits hO hS) fun H e s' => hCX w H s₁ e s'
end L2
namespace L2
open PySem PySem.Spec PyProof.Rows
def zI (s : Stmt) : Arguments := match s with
 | .FunctionDef _ a _ _ _ _ _ _ _ _ => a
 | _ => { posonlyargs := [], args := [], vararg := none, kwonlyargs := [], kw_defaults := [], kwarg := none, defaults := [] }
def zG (s : Stmt) : List Stmt := match s with
 | .FunctionDef _ _ b _ _ _ _ _ _ _ => b
 | _ => []
def zC (s : Stmt) : Scope := match s with
 | .FunctionDef _ _ _ _ _ _ sc _ _ _ => sc
 | _ => { kind := .function, names := [], isGenerator := false, isCoroutine := false }
abbrev CX0 : CXT := fun _ _ _ _ _ _ => False
abbrev E0 : XK := fun _ _ _ => False
theorem zT : qBb CX0 X E0 := fun _ _ _ _ _ _ _ h => h.elim
structure Fun (K : PySem.W.Frag) (x qual : Str) (st : Stmt) (f : Addr) (fd : FuncData) : Prop where
 ex : ∃ (oc : Value) (od : Option Addr) (kV doc pm : Value) (an : Option Addr) (cdv ct : Value) (osl : Array (Option Value)),
  fd = jBy x qual (zI st) (zG st) (zC st) .none kV doc pm an cdv ct /\ K.lookup f = some ⟨oc, od, .func fd, osl⟩ /\ jBz K cdv qual = true
 kp : jBc K (.ref f) = true
section
variable {P : Program} {w : World} {K : PySem.W.Frag} {mg : Str -> Option Value} {base : Heap}
theorem Fun.ok {x qual : Str} {st : Stmt} {f : Addr} {fd : FuncData} {N ps : List Str} {k : Nat} {sp : Sp} (F : Fun K x qual st f fd) (S : zN N ps (zC st)) (len : ∀ vs H Q E, sp vs H Q E -> vs.length = ps.length)
  (hbody : ∀ (cdv : Value) (A : Around) (outer : List Env) (s : Shared) (H : Hp) (vs : List V) (Q : VK) (E : XK), Room k (A.deeper (envOfC qual (zC st) s.heap.objs.size f cdv)) -> sp vs H Q E ->
   ∃ t, PSs (cxOf CX0 P w K mg base N qual (zC st) f cdv A outer s H E).nox (zG st) t /\ t { nx := fun _ H' => Q .non H', rt := Q } (start N vs) H) : FnOk P w K mg base CX0 (k + 1) f fd ps sp := by
 obtain ⟨oc, od, kV, doc, pm, an, cdv, ct, osl, rfl, lk, hcd⟩ := F.ex
 refine fn_of lk hcd S len fun A outer s H vs Q E hr hsp => ?_
 obtain ⟨t, h, q⟩ := hbody cdv A outer s H vs Q E hr hsp
 exact ⟨t, h.nox, q⟩
theorem Fun.binds {x qual : Str} {st : Stmt} {f : Addr} {fd : FuncData} {ps : List Str} (F : Fun K x qual st f fd)
  (h : ∀ (kV doc pm : Value) (an : Option Addr) (cdv ct : Value) (us : List Value), us.length = ps.length -> bindArgs (jBy x qual (zI st) (zG st) (zC st) .none kV doc pm an cdv ct) ⟨us, []⟩ = pure (ps.zip us)) : zV K fd ps [] := by
 obtain ⟨oc, od, kV, doc, pm, an, cdv, ct, osl, rfl, lk, hcd⟩ := F.ex
 exact .all (h kV doc pm an cdv ct)
theorem yC {x qual : Str} {st : Stmt} {f : Addr} {oc : Value} {od an : Option Addr} {osl : Array (Option Value)} {kV doc pm cdv ct : Value} (l : K.lookup f = some ⟨oc, od, .func (jBy x qual (zI st) (zG st) (zC st) .none kV doc pm an cdv ct), osl⟩)
  (c : jBz K cdv qual = true) (k : jBc K (.ref f) = true) : Fun K x qual st f (jBy x qual (zI st) (zG st) (zC st) .none kV doc pm an cdv ct) := ⟨⟨oc, od, kV, doc, pm, an, cdv, ct, osl, rfl, l, c⟩, k⟩
end
def Same (H H' : Hp) : Prop := ∀ b o, H b = some o -> H' b = some o
theorem Same.trans (a : Same H H1) (b : Same H1 H2) : Same H H2 := fun c o h => b c o (a c o h)
theorem Same.free (e : Same H H') (h : H' l = Option.none) : H l = Option.none := by
 cases q : H l with
 | none => rfl
 | some o =>
  rw [e l o q] at h
  cases h
end L2
end
section
namespace Np
open PySem
inductive D where
 | non | bl (b : Bool) | int (i : Int) | str (x : Str) | tup (xs : List D) | ref (a : Nat) | exc (c : Str) | scr (xs : List D)
 deriving Inhabited
inductive O where
 | lst (xs : List D) | dct (kvs : List (D × D)) | ins (c : Str) (fs : List (Str × D))
 deriving Inhabited
abbrev Sto := List O
inductive Rs (α : Type) where
 | ok (a : α) (S : Sto)
 | er (c : Str) (S : Sto)
abbrev R (α : Type) := Option (Rs α)
@[reducible] def ok {α : Type} (a : α) (S : Sto) : R α := some (.ok a S)
@[reducible] def er {α : Type} (c : Str) (S : Sto) : R α := some (.er c S)
def bnd {α β : Type} (m : R α) (k : α -> Sto -> R β) : R β := match m with
 | some (.ok a S) => k a S
 | some (.er c S) => some (.er c S)
 | none => none
@[simp] theorem bnd_ok (a : α) (S : Sto) (k : α -> Sto -> R β) : bnd (some (Rs.ok a S)) k = k a S := rfl
theorem qAm (h : bnd m k = some r) : (∃ a S, m = ok a S /\ k a S = some r) \/ ∃ c S, m = er c S /\ r = .er c S := by
 cases m with
 | none => cases h
 | some m =>
  cases m with
  | ok a S => exact .inl ⟨a, S, rfl, h⟩
  | er c S => cases h; exact .inr ⟨c, S, rfl, rfl⟩
abbrev DS := List (Option D)
inductive Fl where
 | nx (δ : DS) | rt (d : D) | bk (δ : DS) | ct (δ : DS)
abbrev DE := DS -> Sto -> R D
abbrev DT := DS -> Sto -> R Bool
abbrev DA := DS -> Sto -> R (List D)
abbrev DSt := DS -> Sto -> R Fl
abbrev DG := D -> DS -> Sto -> R DS
def vr (i : Nat) (δ : DS) (S : Sto) : R D := match δ[i]? with
 | some (some d) => ok d S
 | _ => none
def cst (d : D) (_ : DS) (S : Sto) : R D := ok d S
def op1 (f : D -> Sto -> R D) (a : DE) (δ : DS) (S : Sto) : R D := bnd (a δ S) f
def op2K (f : D -> D -> Sto -> R D) (b : DE) (δ : DS) (x : D) (S : Sto) : R D := bnd (b δ S) (f x)
def op2 (f : D -> D -> Sto -> R D) (a b : DE) (δ : DS) (S : Sto) : R D := bnd (a δ S) (op2K f b δ)
def aNil (_ : DS) (S : Sto) : R (List D) := ok [] S
def consK (x : D) (xs : List D) (S : Sto) : R (List D) := ok (x :: xs) S
def aConsK (r : DA) (δ : DS) (x : D) (S : Sto) : R (List D) := bnd (r δ S) (consK x)
def yF (e : DE) (r : DA) (δ : DS) (S : Sto) : R (List D) := bnd (e δ S) (aConsK r δ)
def fnE (f : List D -> Sto -> R D) (as : DA) (δ : DS) (S : Sto) : R D := bnd (as δ S) f
def fnD (f : List D -> Sto -> R D) (ds : List D) (as : List D) (S : Sto) : R D := f (as ++ ds) S
def ifEK (a b : DE) (δ : DS) : Bool -> Sto -> R D
 | true, S => a δ S
 | false, S => b δ S
def ifE (t : DT) (a b : DE) (δ : DS) (S : Sto) : R D := bnd (t δ S) (ifEK a b δ)
def zH (S : Sto) (a : Nat) : Option (List D) := match S[a]? with
 | some (.lst xs) => some xs
 | _ => none
def truV : D -> Sto -> R Bool
 | .bl b, S => ok b S
 | _, _ => none
def tv (e : DE) (δ : DS) (S : Sto) : R Bool := bnd (e δ S) truV
def andTK (b : DT) (δ : DS) : Bool -> Sto -> R Bool
 | true, S => b δ S
 | false, S => ok false S
def andT (a b : DT) (δ : DS) (S : Sto) : R Bool := bnd (a δ S) (andTK b δ)
def orTK (b : DT) (δ : DS) : Bool -> Sto -> R Bool
 | true, S => ok true S
 | false, S => b δ S
def orT (a b : DT) (δ : DS) (S : Sto) : R Bool := bnd (a δ S) (orTK b δ)
def notK (c : Bool) (S : Sto) : R Bool := ok (!c) S
def notT (a : DT) (δ : DS) (S : Sto) : R Bool := bnd (a δ S) notK
def andVB (b : DE) (δ : DS) : Bool -> Sto -> R D
 | true, S => b δ S
 | false, S => ok (.bl false) S
def andVK (b : DE) (δ : DS) (x : D) (S : Sto) : R D := bnd (truV x S) (andVB b δ)
def andV (a b : DE) (δ : DS) (S : Sto) : R D := bnd (a δ S) (andVK b δ)
def orVB (b : DE) (δ : DS) : Bool -> Sto -> R D
 | true, S => ok (.bl true) S
 | false, S => b δ S
def orVK (b : DE) (δ : DS) (x : D) (S : Sto) : R D := bnd (truV x S) (orVB b δ)
def orV (a b : DE) (δ : DS) (S : Sto) : R D := bnd (a δ S) (orVK b δ)
def notVB (c : Bool) (S : Sto) : R D := ok (.bl (!c)) S
def notVK (x : D) (S : Sto) : R D := bnd (truV x S) notVB
def notV (a : DE) (δ : DS) (S : Sto) : R D := bnd (a δ S) notVK
def nxS (δ : DS) (S : Sto) : R Fl := ok (.nx δ) S
def seqK (b : DSt) : Fl -> Sto -> R Fl
 | .nx δ, S => b δ S
 | .rt d, S => ok (.rt d) S
 | .bk δ, S => ok (.bk δ) S
 | .ct δ, S => ok (.ct δ) S
def seqS (a b : DSt) (δ : DS) (S : Sto) : R Fl := bnd (a δ S) (seqK b)
def dropK (δ : DS) (_ : D) (S : Sto) : R Fl := ok (.nx δ) S
def dropS (e : DE) (δ : DS) (S : Sto) : R Fl := bnd (e δ S) (dropK δ)
def retK (d : D) (S : Sto) : R Fl := ok (.rt d) S
def retS (e : DE) (δ : DS) (S : Sto) : R Fl := bnd (e δ S) retK
def ifK (a b : DSt) (δ : DS) : Bool -> Sto -> R Fl
 | true, S => a δ S
 | false, S => b δ S
def ifS (t : DT) (a b : DSt) (δ : DS) (S : Sto) : R Fl := bnd (t δ S) (ifK a b δ)
def brkS (δ : DS) (S : Sto) : R Fl := ok (.bk δ) S
def cntS (δ : DS) (S : Sto) : R Fl := ok (.ct δ) S
def setG (i : Nat) (d : D) (δ : DS) (S : Sto) : R DS := ok (δ.set i (some d)) S
def asgK (g : DG) (δ : DS) (d : D) (S : Sto) : R Fl := bnd (g d δ S) nxS
def asgS (e : DE) (g : DG) (δ : DS) (S : Sto) : R Fl := bnd (e δ S) (asgK g δ)
abbrev setS (i : Nat) (e : DE) : DSt := asgS e (setG i)
def parK2 (i j : Nat) (δ : DS) (x y : D) (S : Sto) : R Fl := ok (.nx ((δ.set i (some x)).set j (some y))) S
def parK (i j : Nat) (b : DE) (δ : DS) (x : D) (S : Sto) : R Fl := bnd (b δ S) (parK2 i j δ x)
def parS (i j : Nat) (a b : DE) (δ : DS) (S : Sto) : R Fl := bnd (a δ S) (parK i j b δ)
def tupGs : List DG -> List D -> DS -> Sto -> R DS
 | [], [], δ, S => ok δ S
 | g :: gs, d :: ds, δ, S => bnd (g d δ S) (tupGs gs ds)
 | _, _, _, _ => none
def tupG (gs : List DG) (d : D) (δ : DS) (S : Sto) : R DS := match d with
 | .tup ds => if ds.length = gs.length then tupGs gs ds δ S else none
 | _ => none
inductive Src where
 | fix (xs : List D) | one (a : Nat) | two (a b : Nat) | enm (a : Nat) | rev (a n : Nat)
def enm1 (i : Nat) : Option D -> Option D
 | some x => some (.tup [.int i, x])
 | none => none
def two1 : Option D -> Option D -> Option D
 | some x, some y => some (.tup [x, y])
 | _, _ => none
def Src.get : Src -> Sto -> Nat -> Option (Option D)
 | .fix xs, _, i => some xs[i]?
 | .one a, S, i => match zH S a with
  | some xs => some xs[i]?
  | none => none
 | .two a b, S, i => match zH S a, zH S b with
  | some xs, some ys => some (two1 xs[i]? ys[i]?)
  | _, _ => none
 | .enm a, S, i => match zH S a with
  | some xs => some (enm1 i xs[i]?)
  | none => none
 | .rev a n, S, i => match zH S a with
  | some xs => if i < n then (match xs[n - 1 - i]? with
    | some x => some (some x)
    | none => none) else some none
  | none => none
def Src.len : Src -> Sto -> Nat
 | .fix xs, _ => xs.length
 | .one a, S => match zH S a with
  | some xs => xs.length
  | none => 0
 | .two a _, S => match zH S a with
  | some xs => xs.length
  | none => 0
 | .enm a, S => match zH S a with
  | some xs => xs.length
  | none => 0
 | .rev _ n, _ => n
abbrev DI := DS -> Sto -> R Src
def loopK (k : DSt) : Fl -> Sto -> R Fl
 | .nx δ, S => k δ S
 | .ct δ, S => k δ S
 | .bk δ, S => ok (.nx δ) S
 | .rt d, S => ok (.rt d) S
def turnK (b k : DSt) (δ : DS) (S : Sto) : R Fl := bnd (b δ S) (loopK k)
def forD (src : Src) (g : DG) (b : DSt) : Nat -> Nat -> DSt
 | 0, i, δ, S => match src.get S i with
  | some none => ok (.nx δ) S
  | _ => none
 | n + 1, i, δ, S => match src.get S i with
  | some none => ok (.nx δ) S
  | some (some x) => bnd (g x δ S) (turnK b (forD src g b n (i + 1)))
  | none => none
def forK (g : DG) (b : DSt) (δ : DS) (src : Src) (S : Sto) : R Fl := forD src g b (src.len S) 0 δ S
def forS (it : DI) (g : DG) (b : DSt) (δ : DS) (S : Sto) : R Fl := bnd (it δ S) (forK g b δ)
def whK (b k : DSt) (δ : DS) : Bool -> Sto -> R Fl
 | true, S => turnK b k δ S
 | false, S => ok (.nx δ) S
def qA4 (t : DT) (b : DSt) : Nat -> DSt
 | 0, _, _ => none
 | n + 1, δ, S => bnd (t δ S) (whK b (qA4 t b n) δ)
theorem qCo (t : DT) (b : DSt) : ∀ (n : Nat) (δ : DS) (S : Sto) (r : Rs Fl), qA4 t b n δ S = some r -> qA4 t b (n + 1) δ S = some r
 | 0, _, _, _, h => by cases h
 | n + 1, δ, S, r, h => by
  have h : bnd (t δ S) (whK b (qA4 t b n) δ) = some r := h
  show bnd (t δ S) (whK b (qA4 t b (n + 1)) δ) = some r
  rcases qAm h with ⟨c, S1, e, q⟩ | ⟨c, S1, e, q⟩
  ·rw [e]
   cases c with
   | false => exact q
   | true =>
    show bnd (b δ S1) (loopK (qA4 t b (n + 1))) = some r
    rcases qAm (show bnd (b δ S1) (loopK (qA4 t b n)) = some r from q) with ⟨f, S2, e2, q2⟩ | ⟨c, S2, e2, q2⟩
    ·rw [e2]
     cases f with
     | nx δ' => exact qCo t b n δ' S2 r q2
     | ct δ' => exact qCo t b n δ' S2 r q2
     | bk δ' => exact q2
     | rt d => exact q2
    ·rw [e2, q2]
     rfl
  ·rw [e, q]
   rfl
theorem whileD_le (h : qA4 t b n δ S = some r) (hm : n <= m) : qA4 t b m δ S = some r := by
 obtain ⟨k, rfl⟩ := Nat.exists_eq_add_of_le hm
 induction k with
 | zero => exact h
 | succ k ih => exact qCo t b (n + k) δ S r (ih (Nat.le_add_right _ _))
noncomputable def qCu (t : DT) (b : DSt) (δ : DS) (S : Sto) : R Fl := open Classical in if h : ∃ n r, qA4 t b n δ S = some r then qA4 t b (Classical.choose h) δ S else none
theorem whileS_of (h : qA4 t b n δ S = some r) : qCu t b δ S = some r := by
 have hx : ∃ n r, qA4 t b n δ S = some r := ⟨n, r, h⟩
 unfold qCu
 rw [dif_pos hx]
 obtain ⟨r', hr'⟩ := Classical.choose_spec hx
 have h1 := whileD_le hr' (Nat.le_max_left _ n)
 have h2 := whileD_le h (Nat.le_max_right (Classical.choose hx) n)
 rw [hr', <- h1, h2]
theorem whileS_some (h : qCu t b δ S = some r) : ∃ n, qA4 t b n δ S = some r := by
 unfold qCu at h
 split at h
 ·exact ⟨_, h⟩
 ·cases h
def nevS (_ : DS) (_ : Sto) : R Fl := none
def raiseS (c : Str) (_ : DS) (S : Sto) : R Fl := er c S
def itL : D -> Sto -> R Src
 | .ref a, S => match zH S a with
  | some _ => ok (.one a) S
  | none => none
 | .scr xs, S => ok (.fix xs) S
 | _, _ => none
def qB2 (lo : Int) : Nat -> List D
 | 0 => []
 | n + 1 => .int lo :: qB2 (lo + 1) n
theorem limEx : ∃ v : Int, v = 1000000 := ⟨_, rfl⟩
noncomputable def lim : Int := Classical.choose limEx
theorem lim_eq : lim = 1000000 := Classical.choose_spec limEx
noncomputable def qC9 : List D -> Sto -> R Src
 | [.int n], S => if n < lim /\ -lim < n then ok (.fix (qB2 0 n.toNat)) S else none
 | _, _ => none
noncomputable def rng2D : List D -> Sto -> R Src
 | [.int a, .int b], S => if (a < lim /\ -lim < a) /\ b < lim /\ -lim < b then ok (.fix (qB2 a (b - a).toNat)) S else none
 | _, _ => none
def qC6 : List D -> Sto -> R Src
 | [.ref a, .ref b], S => match zH S a, zH S b with
  | some _, some _ => ok (.two a b) S
  | _, _ => none
 | _, _ => none
def enumD : List D -> Sto -> R Src
 | [.ref a], S => match zH S a with
  | some _ => ok (.enm a) S
  | none => none
 | _, _ => none
def itE (f : D -> Sto -> R Src) (e : DE) (δ : DS) (S : Sto) : R Src := bnd (e δ S) f
def itA (f : List D -> Sto -> R Src) (as : DA) (δ : DS) (S : Sto) : R Src := bnd (as δ S) f
def newO (o : O) (S : Sto) : R D := ok (.ref S.length) (S ++ [o])
def qC0 (k : DA) (δ : DS) (d : D) (S : Sto) : R (List D) := bnd (k δ S) (consK d)
def compK (e : DE) (k : DA) (δ : DS) (S : Sto) : R (List D) := bnd (e δ S) (qC0 k δ)
def qC2 (src : Src) (g : DG) (e : DE) : Nat -> Nat -> DA
 | 0, i, δ, S => match src.get S i with
  | some none => ok [] S
  | _ => none
 | n + 1, i, δ, S => match src.get S i with
  | some none => ok [] S
  | some (some x) => bnd (g x δ S) (compK e (qC2 src g e n (i + 1)))
  | none => none
def compIB (e : DE) (k : DA) (δ : DS) : Bool -> Sto -> R (List D)
 | true, S => bnd (e δ S) (qC0 k δ)
 | false, S => k δ S
def qFd (t : DT) (e : DE) (k : DA) (δ : DS) (S : Sto) : R (List D) := bnd (t δ S) (compIB e k δ)
def qAt (src : Src) (g : DG) (t : DT) (e : DE) : Nat -> Nat -> DA
 | 0, i, δ, S => match src.get S i with
  | some none => ok [] S
  | _ => none
 | n + 1, i, δ, S => match src.get S i with
  | some none => ok [] S
  | some (some x) => bnd (g x δ S) (qFd t e (qAt src g t e n (i + 1)))
  | none => none
def lstK (ds : List D) (S : Sto) : R D := newO (.lst ds) S
def noer {α : Type} : R α -> R α
 | some (.ok a S) => ok a S
 | some (.er _ _) => none
 | none => none
def compL (g : DG) (e : DE) (δ : DS) (src : Src) (S : Sto) : R D := if src.len S <= 1000000 then bnd (noer (qC2 src g e (src.len S) 0 δ S)) lstK else none
def qAj (it : DI) (k : Nat) (g : DG) (e : DE) (δ : DS) (S : Sto) : R D := bnd (it δ S) (compL g e (δ ++ jBm k none))
def compIL (g : DG) (t : DT) (e : DE) (δ : DS) (src : Src) (S : Sto) : R D := if src.len S <= 1000000 then bnd (noer (qAt src g t e (src.len S) 0 δ S)) lstK else none
def qC1 (it : DI) (k : Nat) (g : DG) (t : DT) (e : DE) (δ : DS) (S : Sto) : R D := bnd (it δ S) (compIL g t e (δ ++ jBm k none))
def outF : R Fl -> R D
 | some (.ok (.nx _) S) => ok .non S
 | some (.ok (.rt d) S) => ok d S
 | some (.ok (.bk _) _) => none
 | some (.ok (.ct _) _) => none
 | some (.er c S) => er c S
 | none => none
def startD (n : Nat) (ds : List D) : DS := ds.map some ++ jBm (n - ds.length) none
def fnF (n k : Nat) (g : DSt) (ds : List D) (S : Sto) : R D := if ds.length = k then noer (outF (g (startD n ds) S)) else none
def noerS (g : DSt) (δ : DS) (S : Sto) : R Fl := noer (g δ S)
def fnX (n k : Nat) (g : DSt) (ds : List D) (S : Sto) : R D := if ds.length = k then outF (g (startD n ds) S) else none
def op3K2 (f : D -> D -> D -> Sto -> R D) (x y : D) (z : D) (S : Sto) : R D := f x y z S
def op3K (f : D -> D -> D -> Sto -> R D) (c : DE) (δ : DS) (x y : D) (S : Sto) : R D := bnd (c δ S) (op3K2 f x y)
def op3J (f : D -> D -> D -> Sto -> R D) (b c : DE) (δ : DS) (x : D) (S : Sto) : R D := bnd (b δ S) (op3K f c δ x)
def op3 (f : D -> D -> D -> Sto -> R D) (a b c : DE) (δ : DS) (S : Sto) : R D := bnd (a δ S) (op3J f b c δ)
def chnB (g : D -> D -> Sto -> R D) (c : DE) (δ : DS) (y : D) : Bool -> Sto -> R D
 | true, S => bnd (c δ S) (g y)
 | false, S => ok (.bl false) S
def chnT (g : D -> D -> Sto -> R D) (c : DE) (δ : DS) (y : D) (t : D) (S : Sto) : R D := bnd (truV t S) (chnB g c δ y)
def chnK2 (f g : D -> D -> Sto -> R D) (c : DE) (δ : DS) (x y : D) (S : Sto) : R D := bnd (f x y S) (chnT g c δ y)
def chnK (f g : D -> D -> Sto -> R D) (b c : DE) (δ : DS) (x : D) (S : Sto) : R D := bnd (b δ S) (chnK2 f g c δ x)
def chn (f g : D -> D -> Sto -> R D) (a b c : DE) (δ : DS) (S : Sto) : R D := bnd (a δ S) (chnK f g b c δ)
@[simp] theorem truV_bl (b : Bool) (S : Sto) : truV (.bl b) S = ok b S := rfl
@[simp] theorem seqK_nx (b : DSt) (δ : DS) (S : Sto) : seqK b (.nx δ) S = b δ S := rfl
@[simp] theorem seqK_rt (b : DSt) (d : D) (S : Sto) : seqK b (.rt d) S = ok (.rt d) S := rfl
@[simp] theorem ifK_t (a b : DSt) (δ : DS) (S : Sto) : ifK a b δ true S = a δ S := rfl
@[simp] theorem ifK_f (a b : DSt) (δ : DS) (S : Sto) : ifK a b δ false S = b δ S := rfl
def tupD (ds : List D) (S : Sto) : R D := if ds.length <= 1000 then ok (.tup ds) S else none
def lstD (ds : List D) (S : Sto) : R D := if ds.length <= 1000 then newO (.lst ds) S else none
def catD (a b : Option (List D)) (S : Sto) : R D := match a, b with
 | some xs, some ys => if xs.length + ys.length <= 1000000 then newO (.lst (xs ++ ys)) S else none
 | _, _ => none
def addD : D -> D -> Sto -> R D
 | .int i, .int j, S => ok (.int (i + j)) S
 | .str x, .str y, S => if x.length + y.length <= 1000000 then ok (.str (x ++ y)) S else none
 | .ref a, .ref b, S => catD (zH S a) (zH S b) S
 | _, _, _ => none
def subD : D -> D -> Sto -> R D
 | .int i, .int j, S => ok (.int (i - j)) S
 | _, _, _ => none
def repD (a : Option (List D)) (k : Int) (S : Sto) : R D := match a with
 | some xs => if xs.length * k.toNat <= 1000000 /\ -1000000000 < k /\ k < 1000000000 then newO (.lst (jBm k.toNat xs).flatten) S else none
 | none => none
def mulD : D -> D -> Sto -> R D
 | .int i, .int j, S => if i.natAbs.log2 + j.natAbs.log2 <= 100000000 then ok (.int (i * j)) S else none
 | .ref a, .int k, S => repD (zH S a) k S
 | _, _, _ => none
def qCm : D -> D -> Sto -> R D
 | .int i, .int j, S => if j = 0 then none else ok (.int (i.fdiv j)) S
 | _, _, _ => none
def modD : D -> D -> Sto -> R D
 | .int i, .int j, S => if j = 0 then none else ok (.int (i.fmod j)) S
 | _, _, _ => none
def negD : D -> Sto -> R D
 | .int i, S => ok (.int (-i)) S
 | _, _ => none
def absD : List D -> Sto -> R D
 | [.int i], S => ok (.int (if i < 0 then -i else i)) S
 | _, _ => none
inductive T where
 | non | bl (b : Bool) | int (i : Int) | str (x : Str) | tup (xs : List T) | lst (xs : List T)
mutual
def eqT : T -> T -> Bool
 | .non, .non => true
 | .bl a, .bl b => a == b
 | .bl a, .int j => (if a then 1 else 0) == j
 | .int i, .bl b => i == (if b then 1 else 0)
 | .int i, .int j => i == j
 | .str x, .str y => x == y
 | .lst xs, .lst ys => eqTs xs ys
 | .tup xs, .tup ys => eqTs xs ys
 | _, _ => false
def eqTs : List T -> List T -> Bool
 | [], [] => true
 | x :: xs, y :: ys => eqT x y && eqTs xs ys
 | _, _ => false
end
def rdl (f : D -> Option T) : List D -> Option (List T)
 | [] => some []
 | d :: ds => match f d, rdl f ds with
  | some t, some ts => some (t :: ts)
  | _, _ => none
def rd : Nat -> Sto -> D -> Option T
 | _, _, .non => some .non
 | _, _, .bl b => some (.bl b)
 | _, _, .int i => some (.int i)
 | _, _, .str x => if x.cps.all (· < 0x110000) = true then some (.str x) else none
 | n + 1, S, .tup ds => (rdl (rd n S) ds).map .tup
 | n + 1, S, .ref a => match zH S a with
  | some ds => (rdl (rd n S) ds).map .lst
  | none => none
 | _, _, _ => none
def eqK (neg : Bool) (S : Sto) : Option T -> Option T -> R D
 | some t, some u => ok (.bl (if neg = true then !eqT t u else eqT t u)) S
 | _, _ => none
def eqD (x y : D) (S : Sto) : R D := eqK false S (rd 9 S x) (rd 9 S y)
def neD (x y : D) (S : Sto) : R D := eqK true S (rd 9 S x) (rd 9 S y)
def ltD : D -> D -> Sto -> R D
 | .int i, .int j, S => ok (.bl (decide (i < j))) S
 | _, _, _ => none
def leD : D -> D -> Sto -> R D
 | .int i, .int j, S => ok (.bl (decide (i <= j))) S
 | _, _, _ => none
def gtD : D -> D -> Sto -> R D
 | .int i, .int j, S => ok (.bl (decide (j < i))) S
 | _, _, _ => none
def geD : D -> D -> Sto -> R D
 | .int i, .int j, S => ok (.bl (decide (j <= i))) S
 | _, _, _ => none
def qBr : D -> Bool
 | .non => true
 | _ => false
def isND (x y : D) (S : Sto) : R D := match y with
 | .non => ok (.bl (qBr x)) S
 | _ => none
def isNND (x y : D) (S : Sto) : R D := match y with
 | .non => ok (.bl (!qBr x)) S
 | _ => none
def ixA (n : Nat) (i : Int) : Option Nat := if 0 <= i then (if i < n then some i.toNat else none) else if -(n : Int) <= i then some (i + n).toNat else none
def ixK (xs : Option (List D)) (i : Int) (S : Sto) : R D := match xs with
 | some xs => match (ixA xs.length i).bind (fun j => xs[j]?) with
  | some d => ok d S
  | none => none
 | none => none
def ixD : D -> D -> Sto -> R D
 | .tup xs, .int i, S => ixK (some xs) i S
 | .ref a, .int i, S => ixK (zH S a) i S
 | .scr xs, .int i, S => ixK (some xs) i S
 | _, _, _ => none
def lenK (xs : Option (List D)) (S : Sto) : R D := match xs with
 | some xs => ok (.int xs.length) S
 | none => none
def lenD : List D -> Sto -> R D
 | [.scr xs], S => lenK (some xs) S
 | [.tup xs], S => lenK (some xs) S
 | [.ref a], S => lenK (zH S a) S
 | [.str x], S => if x.length <= 1000000 then ok (.int x.length) S else none
 | _, _ => none
inductive Kd where
 | int | bool | str | lst | tup
 deriving DecidableEq
def isK : Kd -> D -> Sto -> Option Bool
 | _, .exc _, _ => none
 | _, .scr _, _ => none
 | .lst, .ref a, S => match S[a]? with
  | some (.lst _) => some true
  | some (.dct _) => some false
  | _ => none
 | _, .ref a, S => match S[a]? with
  | some (.lst _) => some false
  | some (.dct _) => some false
  | _ => none
 | .int, .int _, _ => some true
 | .int, .bl _, _ => some true
 | .bool, .bl _, _ => some true
 | .str, .str _, _ => some true
 | .tup, .tup _, _ => some true
 | _, _, _ => some false
def isiD (k : Kd) (x : D) (S : Sto) : R D := match isK k x S with
 | some b => ok (.bl b) S
 | none => none
def sIxD (n d : Nat) : Option Int -> Nat
 | none => d
 | some v => if v < 0 then (v + (n : Int)).toNat else min v.toNat n
def cutD (xs : List D) (lo hi : Option Int) : List D := (xs.drop (sIxD xs.length 0 lo)).take (sIxD xs.length xs.length hi - sIxD xs.length 0 lo)
abbrev DO := DS -> Sto -> R (Option Int)
def noP (_ : DS) (S : Sto) : R (Option Int) := ok none S
def atPK : D -> Sto -> R (Option Int)
 | .int i, S => ok (some i) S
 | _, _ => none
def atP (e : DE) (δ : DS) (S : Sto) : R (Option Int) := bnd (e δ S) atPK
def slD (x : D) (lo hi : Option Int) (S : Sto) : R D := match x with
 | .ref a => match zH S a with
  | some xs => newO (.lst (cutD xs lo hi)) S
  | none => none
 | .scr xs => newO (.lst (cutD xs lo hi)) S
 | .tup xs => if sIxD xs.length 0 lo = 0 /\ sIxD xs.length xs.length hi = xs.length then none else ok (.tup (cutD xs lo hi)) S
 | _ => none
def slK2 (x : D) (lo : Option Int) (hi : Option Int) (S : Sto) : R D := slD x lo hi S
def slK1 (h : DO) (δ : DS) (x : D) (lo : Option Int) (S : Sto) : R D := bnd (h δ S) (slK2 x lo)
def slK (l h : DO) (δ : DS) (x : D) (S : Sto) : R D := bnd (l δ S) (slK1 h δ x)
def slE (e : DE) (l h : DO) (δ : DS) (S : Sto) : R D := bnd (e δ S) (slK l h δ)
def lofD : List D -> Sto -> R D
 | [.ref a], S => match zH S a with
  | some xs => newO (.lst xs) S
  | none => none
 | [.scr xs], S => newO (.lst xs) S
 | [.tup xs], S => newO (.lst xs) S
 | _, _ => none
def appD (x : D) (y : D) (S : Sto) : R D := match x with
 | .ref a => match zH S a with
  | some xs => if xs.length < 1000000 then ok .non (S.set a (.lst (xs ++ [y]))) else none
  | none => none
 | _ => none
def setXA (v : D) (δ : DS) (x y : D) (S : Sto) : R DS := match x, y with
 | .ref a, .int j => match zH S a with
  | some xs => match ixA xs.length j with
   | some k => ok δ (S.set a (.lst (xs.set k v)))
   | none => none
  | none => none
 | _, _ => none
def setXK (i : DE) (v : D) (δ : DS) (x : D) (S : Sto) : R DS := bnd (i δ S) (setXA v δ x)
def qEv (o i : DE) (v : D) (δ : DS) (S : Sto) : R DS := bnd (o δ S) (setXK i v δ)
def isL (x : D) (S : Sto) : Bool := match x with
 | .ref a => (zH S a).isSome
 | _ => false
def opMK (f : D -> D -> Sto -> R D) (b : DE) (δ : DS) (x : D) (S : Sto) : R D := if isL x S = true then bnd (b δ S) (f x) else none
def opM (f : D -> D -> Sto -> R D) (a b : DE) (δ : DS) (S : Sto) : R D := bnd (a δ S) (opMK f b δ)
def opM3K (f : D -> D -> D -> Sto -> R D) (b c : DE) (δ : DS) (x : D) (S : Sto) : R D := if isL x S = true then op3J f b c δ x S else none
def opM3 (f : D -> D -> D -> Sto -> R D) (a b c : DE) (δ : DS) (S : Sto) : R D := bnd (a δ S) (opM3K f b c δ)
def popD (x : D) (S : Sto) : R D := match x with
 | .ref a => match zH S a with
  | some xs => match xs[xs.length - 1]? with
   | some d => ok d (S.set a (.lst xs.dropLast))
   | none => none
  | none => none
 | _ => none
def allB : List D -> Option Bool
 | [] => some true
 | .bl b :: r => match allB r with
  | some c => some (b && c)
  | none => none
 | _ :: _ => none
def allD : List D -> Sto -> R D
 | [.ref a], S => match zH S a with
  | some xs => match allB xs with
   | some b => ok (.bl b) S
   | none => none
  | none => none
 | _, _ => none
def dvmD : List D -> Sto -> R D
 | [.int i, .int j], S => if j = 0 then none else ok (.tup [.int (i.fdiv j), .int (i.fmod j)]) S
 | _, _ => none
def intD : List D -> Sto -> R D
 | [.int i], S => ok (.int i) S
 | [.bl b], S => ok (.int (if b = true then 1 else 0)) S
 | _, _ => none
def memT (t : T) : List T -> Bool
 | [] => false
 | u :: us => eqT t u || memT t us
def inA (neg : Bool) (x y : D) (S : Sto) : R D := match y with
 | .ref a => match zH S a with
  | some ys => match rd 8 S x, rdl (rd 8 S) ys with
   | some t, some ts => ok (.bl (if neg = true then !memT t ts else memT t ts)) S
   | _, _ => none
  | none => none
 | _ => none
def notinD (x y : D) (S : Sto) : R D := inA true x y S
end Np
end
section
namespace Np
open PySem
mutual
def flat : Nat -> D -> Bool
 | _, .non => true
 | _, .bl _ => true
 | _, .int _ => true
 | _, .str _ => true
 | n + 1, .tup ds => flats n ds
 | _, .ref _ => true
 | _, _ => false
def flats : Nat -> List D -> Bool
 | _, [] => true
 | n, d :: ds => flat n d && flats n ds
end
end Np
end
section
namespace Np
open PySem
def qAo (S : Sto) (a : Nat) : Option (Str × List (Str × D)) := match S[a]? with
 | some (.ins c fs) => some (c, fs)
 | _ => none
def fldD (c f : Str) (x : D) (S : Sto) : R D := match x with
 | .ref a => match qAo S a with
  | some (c', fs) => if c' = c then (match fs.lookup f with
   | some d => ok d S
   | none => none) else none
  | none => none
 | _ => none
def putD (f : Str) (v : D) : List (Str × D) -> List (Str × D)
 | [] => [(f, v)]
 | (g, x) :: r => if g = f then (g, v) :: r else (g, x) :: putD f v r
def qFl (c f : Str) (v : D) (δ : DS) (x : D) (S : Sto) : R Fl := match x with
 | .ref a => match qAo S a with
  | some (c', fs) => if c' = c /\ fs.length < 900 then ok (.nx δ) (S.set a (.ins c (putD f v fs))) else none
  | none => none
 | _ => none
def qFk (c f : Str) (o : DE) (δ : DS) (v : D) (S : Sto) : R Fl := bnd (o δ S) (qFl c f v δ)
def qBp (c f : Str) (o e : DE) (δ : DS) (S : Sto) : R Fl := bnd (e δ S) (qFk c f o δ)
def qAr (F : List D -> Sto -> R D) (x : D) (ds : List D) (S : Sto) : R D := F (x :: ds) S
def qEx (c m : Str) (F : List D -> Sto -> R D) (as : DA) (δ : DS) (x : D) (S : Sto) : R D := match x with
 | .ref a => match qAo S a with
  | some (c', fs) => if c' = c /\ fs.lookup m = none then bnd (as δ S) (qAr F x) else none
  | none => none
 | _ => none
def qAa (c m : Str) (F : List D -> Sto -> R D) (o : DE) (as : DA) (δ : DS) (S : Sto) : R D := bnd (o δ S) (qEx c m F as δ)
def mkR (a : Nat) : R D -> R D
 | some (.ok .non S) => ok (.ref a) S
 | some (.er c S) => er c S
 | _ => none
def mkA (c : Str) (F : List D -> Sto -> R D) (ds : List D) (S : Sto) : R D := mkR S.length (F (.ref S.length :: ds) (S ++ [.ins c []]))
def mkE (c : Str) (F : List D -> Sto -> R D) (as : DA) (δ : DS) (S : Sto) : R D := bnd (as δ S) (mkA c F)
def qDh (x y : D) (S : Sto) : R D := match x, y with
 | .ref a, .int i => match zH S a with
  | some xs => if 0 <= i /\ i < 1000000 then (match xs[i.toNat]? with
   | some d => ok d (S.set a (.lst (xs.eraseIdx i.toNat)))
   | none => none) else none
  | none => none
 | _, _ => none
def minD : List D -> Sto -> R D
 | [.int i, .int j], S => ok (.int (if j < i then j else i)) S
 | _, _ => none
theorem qDc (h : qAo S a = some (c, fs)) : S[a]? = some (.ins c fs) := by
 unfold qAo at h
 split at h
 ·rename_i c' fs' e
  cases h
  exact e
 ·cases h
def qA5 : List D -> List D -> List D
 | x :: xs, y :: ys => .tup [x, y] :: qA5 xs ys
 | _, _ => []
def zipLD : List D -> Sto -> R Src
 | [.tup xs, .tup ys], S => ok (.fix (qA5 xs ys)) S
 | ds, S => qC6 ds S
def orE (g h : DE) (δ : DS) (S : Sto) : R D := match g δ S with
 | some r => some r
 | none => h δ S
def isoD (c : Str) (x : D) (S : Sto) : R D := match x with
 | .ref a => match qAo S a with
  | some (c', _) => if c' = c then ok (.bl true) S else none
  | none => none
 | _ => none
end Np
end
section
namespace Np
open PySem PySem.Spec PyProof.Rows L2
structure Gx where
 K : PySem.W.Frag
 mg : Str -> Option Value
structure Wd where
 μ : Nat -> Addr
 S : Sto
def excAt (a C : Addr) : Heap -> Prop := fun h => ∃ o, h.get? a = some o /\ o.cls = .ref C
def Sc (K : PySem.W.Frag) (H : Hp) (a : Addr) (xs : List V) : Prop := (∃ o, H a = some (.frz o (.lst xs))) \/ SqL K (fun _ => none) a xs
theorem Sc.sq {K : PySem.W.Frag} {H : Hp} {a : Addr} {xs : List V} (h : Sc K H a xs) : SqL K H a xs := by
 rcases h with ⟨o, h⟩ | (h | h)
 ·exact .inl (.inr ⟨o, h⟩)
 ·rcases h with h | ⟨o, h⟩ <;> cases h
 ·exact .inr h
mutual
def Rep (G : Gx) (H : Hp) (W : Wd) : D -> V -> Prop
 | .non, v => v = .non
 | .bl b, v => v = .bl b
 | .int i, v => v = .int i
 | .str x, v => v = .str x
 | .tup ds, v => ∃ a xs, v = .ref a /\ SqT G.K H a xs /\ RepL G H W ds xs
 | .ref i, v => i < W.S.length /\ v = .ref (W.μ i)
 | .exc c, v => ∃ a C, v = .ref a /\ G.mg c = some (.ref C) /\ H a = some (.ext (excAt a C))
 | .scr ds, v => ∃ a xs, v = .ref a /\ Sc G.K H a xs /\ RepL G H W ds xs
def RepL (G : Gx) (H : Hp) (W : Wd) : List D -> List V -> Prop
 | [], vs => vs = []
 | d :: ds, vs => ∃ v r, vs = v :: r /\ Rep G H W d v /\ RepL G H W ds r
end
def RepO (G : Gx) (H : Hp) (W : Wd) (a : Addr) : O -> Prop
 | .lst ds => ∃ xs, H a = some (.lst xs) /\ RepL G H W ds xs
 | .dct kvs => kvs = [] /\ H a = some (.dK [])
 | .ins c fs => ∃ C dx ps, G.mg c = some (.ref C) /\ H a = some (.ins C dx ps) /\ ps.map (·.1) = fs.map (·.1) /\ RepL G H W (fs.map (·.2)) (ps.map (·.2))
structure StOk (G : Gx) (H : Hp) (W : Wd) : Prop where
 inj : ∀ i j, i < W.S.length -> j < W.S.length -> W.μ i = W.μ j -> i = j
 get : ∀ i o, W.S[i]? = some o -> RepO G H W (W.μ i) o
def stB : HO -> Bool
 | .lst _ => true
 | .dK _ => true
 | .ins _ _ _ => true
 | _ => false
theorem StOk.at (h : StOk G H W) (hi : i < W.S.length) : ∃ o, H (W.μ i) = some o /\ stB o = true := by
 have := h.get i W.S[i] (by simp [hi])
 cases q : W.S[i] with
 | lst ds => rw [q] at this; obtain ⟨xs, e, _⟩ := this; exact ⟨_, e, rfl⟩
 | dct kvs => rw [q] at this; obtain ⟨_, e⟩ := this; exact ⟨_, e, rfl⟩
 | ins c fs => rw [q] at this; obtain ⟨_, _, _, _, e, _⟩ := this; exact ⟨_, e, rfl⟩
theorem StOk.apart (h : StOk G H W) (e : H b = some o) (ho : stB o = false) : ∀ i, i < W.S.length -> W.μ i ≠ b := fun i hi z => by
 obtain ⟨u, eu, hu⟩ := h.at hi
 rw [z, e] at eu
 cases eu
 rw [ho] at hu
 cases hu
theorem StOk.new (h : StOk G H W) (e : H b = none) : ∀ i, i < W.S.length -> W.μ i ≠ b := fun i hi z => by
 obtain ⟨u, eu, hu⟩ := h.at hi
 rw [z, e] at eu
 cases eu
structure Mv (H : Hp) (W : Wd) (H' : Hp) (W' : Wd) : Prop where
 len : W.S.length <= W'.S.length
 old : ∀ i, i < W.S.length -> W'.μ i = W.μ i
 frm : ∀ b o, H b = some o -> stB o = false -> H' b = some o
theorem Mv.sqT {K : PySem.W.Frag} {H H' : Hp} {W W' : Wd} {a : Addr} {xs : List V} (e : Mv H W H' W') (h : SqT K H a xs) : SqT K H' a xs := by
 rcases h with (h | ⟨o, h⟩) | h
 ·exact .inl (.inl (e.frm _ _ h rfl))
 ·exact .inl (.inr ⟨o, e.frm _ _ h rfl⟩)
 ·exact .inr h
theorem Mv.sc {K : PySem.W.Frag} {H H' : Hp} {W W' : Wd} {a : Addr} {xs : List V} (e : Mv H W H' W') (h : Sc K H a xs) : Sc K H' a xs := by
 rcases h with ⟨o, h⟩ | h
 ·exact .inl ⟨o, e.frm _ _ h rfl⟩
 ·exact .inr h
mutual
theorem Rep.mv (s : Mv H W H' W') : ∀ {d : D} {v : V}, Rep G H W d v -> Rep G H' W' d v
 | .non, _, h => h
 | .bl _, _, h => h
 | .int _, _, h => h
 | .str _, _, h => h
 | .tup ds, _, h => by
  obtain ⟨a, xs, e, q, r⟩ := h
  exact ⟨a, xs, e, s.sqT q, RepL.mv s r⟩
 | .ref i, _, h => by
  obtain ⟨l, e⟩ := h
  exact ⟨jAd l s.len, by rw [e, s.old i l]⟩
 | .exc c, _, h => by
  obtain ⟨a, C, e, m, q⟩ := h
  exact ⟨a, C, e, m, s.frm _ _ q rfl⟩
 | .scr ds, _, h => by
  obtain ⟨a, xs, e, q, r⟩ := h
  exact ⟨a, xs, e, s.sc q, RepL.mv s r⟩
theorem RepL.mv (s : Mv H W H' W') : ∀ {ds : List D} {vs : List V}, RepL G H W ds vs -> RepL G H' W' ds vs
 | [], _, h => h
 | d :: ds, _, h => by
  obtain ⟨v, r, e, q, t⟩ := h
  exact ⟨v, r, e, Rep.mv s q, RepL.mv s t⟩
end
theorem RepL.length : ∀ {ds : List D} {vs : List V}, RepL G H W ds vs -> ds.length = vs.length
 | [], _, h => by cases h; rfl
 | d :: ds, _, h => by
  obtain ⟨v, r, e, q, t⟩ := h
  subst e
  simp [RepL.length t]
theorem RepL.get : ∀ {ds : List D} {vs : List V} {i : Nat} {d : D}, RepL G H W ds vs -> ds[i]? = some d -> ∃ v, vs[i]? = some v /\ Rep G H W d v
 | [], _, _, _, _, e => by simp at e
 | d :: ds, _, 0, _, h, e => by
  obtain ⟨v, r, rfl, q, t⟩ := h
  simp at e; subst e
  exact ⟨v, rfl, q⟩
 | d :: ds, _, i + 1, _, h, e => by
  obtain ⟨v, r, rfl, q, t⟩ := h
  obtain ⟨u, h1, h2⟩ := RepL.get (i := i) t (by simpa using e)
  exact ⟨u, by simpa using h1, h2⟩
theorem RepL.append : ∀ {ds es : List D} {vs us : List V}, RepL G H W ds vs -> RepL G H W es us -> RepL G H W (ds ++ es) (vs ++ us)
 | [], _, _, _, h, k => by cases h; exact k
 | d :: ds, _, _, _, h, k => by
  obtain ⟨v, r, rfl, q, t⟩ := h
  exact ⟨v, _, rfl, q, RepL.append t k⟩
theorem RepL.take : ∀ {ds : List D} {vs : List V} (n : Nat), RepL G H W ds vs -> RepL G H W (ds.take n) (vs.take n)
 | _, _, 0, _ => by simp [RepL]
 | [], _, n + 1, h => by cases h; simp [RepL]
 | d :: ds, _, n + 1, h => by
  obtain ⟨v, r, rfl, q, t⟩ := h
  exact ⟨v, _, rfl, q, RepL.take n t⟩
theorem RepL.drop : ∀ {ds : List D} {vs : List V} (n : Nat), RepL G H W ds vs -> RepL G H W (ds.drop n) (vs.drop n)
 | _, _, 0, h => h
 | [], _, n + 1, h => by cases h; simp [RepL]
 | d :: ds, _, n + 1, h => by
  obtain ⟨v, r, rfl, q, t⟩ := h
  exact RepL.drop n t
theorem RepL.set (q' : Rep G H W d' v') : ∀ {ds : List D} {vs : List V} (n : Nat), RepL G H W ds vs -> RepL G H W (ds.set n d') (vs.set n v')
 | [], _, n, h => by cases h; simp [RepL]
 | d :: ds, _, 0, h => by
  obtain ⟨v, r, rfl, q, t⟩ := h
  exact ⟨v', _, rfl, q', t⟩
 | d :: ds, _, n + 1, h => by
  obtain ⟨v, r, rfl, q, t⟩ := h
  exact ⟨v, _, rfl, q, RepL.set q' n t⟩
theorem RepL.one (h : Rep G H W d v) : RepL G H W [d] [v] := ⟨v, [], rfl, h, rfl⟩
theorem RepO.mv (s : Mv H W H' W') (e : H' a = H a) (h : RepO G H W a o) : RepO G H' W' a o := by
 cases o with
 | lst ds => obtain ⟨xs, q, r⟩ := h; exact ⟨xs, by rw [e]; exact q, r.mv s⟩
 | dct kvs => obtain ⟨q, r⟩ := h; exact ⟨q, by rw [e]; exact r⟩
 | ins c fs => obtain ⟨C, dx, ps, m, q, n, r⟩ := h; exact ⟨C, dx, ps, m, by rw [e]; exact q, n, r.mv s⟩
theorem lstAt_some (h : zH S a = some xs) : S[a]? = some (.lst xs) := by
 unfold zH at h
 split at h
 ·rename_i ys e
  cases h
  exact e
 ·cases h
theorem StOk.lst (h : StOk G H W) (r : Rep G H W (.ref a) v) (e : zH W.S a = some ds) : ∃ xs, v = .ref (W.μ a) /\ H (W.μ a) = some (.lst xs) /\ RepL G H W ds xs := by
 obtain ⟨xs, q, rl⟩ := h.get a _ (lstAt_some e)
 exact ⟨xs, r.2, q, rl⟩
structure Nxt (G : Gx) (H : Hp) (W : Wd) (H' : Hp) (W' : Wd) : Prop where
 ok : StOk G H' W'
 len : W.S.length <= W'.S.length
 old : ∀ i, i < W.S.length -> W'.μ i = W.μ i
 new : ∀ i, W.S.length <= i -> i < W'.S.length -> H (W'.μ i) = none
 frm : ∀ b o, H b = some o -> (∀ i, i < W.S.length -> W.μ i ≠ b) -> H' b = some o
theorem Nxt.mv (h : Nxt G H W H' W') (s : StOk G H W) : Mv H W H' W' := ⟨h.len, h.old, fun b o e q => h.frm b o e (s.apart e q)⟩
theorem Nxt.rfl (s : StOk G H W) : Nxt G H W H W := ⟨s, jAx _, fun _ _ => by rfl, fun i h h' => absurd h' (Nat.not_lt.mpr h), fun _ _ e _ => e⟩
theorem Nxt.trans (a : Nxt G H W H' W') (b : Nxt G H' W' H'' W'') : Nxt G H W H'' W'' := by
 refine ⟨b.ok, jAj a.len b.len, fun i hi => (b.old i (jAd hi a.len)).trans (a.old i hi), fun i h1 h2 => ?_, fun c o e q => ?_⟩
 ·by_cases hi : i < W'.S.length
  ·rw [b.old i hi]
   exact a.new i h1 hi
  ·have hn := b.new i (jCd hi) h2
   cases q : H (W''.μ i) with
   | none => rfl
   | some o =>
    by_cases hz : ∃ j, j < W.S.length /\ W.μ j = W''.μ i
    ·obtain ⟨j, hj, ej⟩ := hz
     obtain ⟨o', e', _⟩ := a.ok.at (jAd hj a.len)
     rw [a.old j hj, ej, hn] at e'
     cases e'
    ·have := a.frm _ o q fun j hj ej => hz ⟨j, hj, ej⟩
     rw [hn] at this
     cases this
 ·refine b.frm c o (a.frm c o e q) fun i hi => ?_
  by_cases hl : i < W.S.length
  ·rw [a.old i hl]
   exact q i hl
  ·intro z
   have := a.new i (jCd hl) hi
   rw [z, e] at this
   cases this
def Wd.push (W : Wd) (p : Addr) (o : O) : Wd := ⟨fun i => if i = W.S.length then p else W.μ i, W.S ++ [o]⟩
theorem Mv.push {G : Gx} {H : Hp} {W : Wd} {p : Addr} (hp : H p = none) (u : HO) (o : O) : Mv H W (upd H p u) (W.push p o) :=
 ⟨by simp [Wd.push], fun i hi => if_neg (jAf hi), fun b v e _ => by rw [zO (qAl e hp)]; exact e⟩
theorem Nxt.alloc {G : Gx} {H : Hp} {W : Wd} {p : Addr} {u : HO} {o : O} (h : StOk G H W) (hp : H p = none) (hr : RepO G (upd H p u) (W.push p o) p o) : Nxt G H W (upd H p u) (W.push p o) := by
 have m := Mv.push (G := G) (W := W) hp u o
 have hμ : ∀ i, i < W.S.length -> (W.push p o).μ i = W.μ i := fun i hi => if_neg (jAf hi)
 have hl : (W.push p o).S.length = W.S.length + 1 := by simp [Wd.push]
 have hn : (W.push p o).μ W.S.length = p := if_pos _root_.rfl
 refine ⟨⟨fun i j hi hj e => ?_, fun i o' e => ?_⟩, m.len, hμ, fun i h1 h2 => ?_, fun b v e _ => by rw [zO (qAl e hp)]; exact e⟩
 ·rw [hl] at hi hj
  by_cases h1 : i < W.S.length
  ·by_cases h2 : j < W.S.length
   ·rw [hμ i h1, hμ j h2] at e
    exact h.inj i j h1 h2 e
   ·have : j = W.S.length := by omega
    subst this
    rw [hμ i h1, hn] at e
    exact absurd e (h.new hp i h1)
  ·have : i = W.S.length := by omega
   subst this
   by_cases h2 : j < W.S.length
   ·rw [hμ j h2, hn] at e
    exact absurd e.symm (h.new hp j h2)
   ·omega
 ·have e' : (W.S ++ [o])[i]? = some o' := e
  by_cases h1 : i < W.S.length
  ·rw [jBt h1] at e'
   rw [hμ i h1]
   exact (h.get i o' e').mv m (zO (h.new hp i h1))
  ·have h2 : i < (W.S ++ [o]).length := (jAr.mp e').1
   have : i = W.S.length := by simp at h2; omega
   subst this
   simp at e'
   subst e'
   rw [hn]
   exact hr
 ·rw [hl] at h2
  have : i = W.S.length := by omega
  subst this
  rw [hn]
  exact hp
def Wd.put (W : Wd) (i : Nat) (o : O) : Wd := ⟨W.μ, W.S.set i o⟩
theorem Mv.put (h : StOk G H W) (hi : i < W.S.length) (u : HO) (o : O) : Mv H W (upd H (W.μ i) u) (W.put i o) :=
 ⟨by simp [Wd.put], fun _ _ => by rfl, fun b v e q => by rw [zO fun z => h.apart e q i hi z.symm]; exact e⟩
theorem Nxt.write (h : StOk G H W) (hi : i < W.S.length) (hr : RepO G (upd H (W.μ i) u) (W.put i o) (W.μ i) o) : Nxt G H W (upd H (W.μ i) u) (W.put i o) := by
 have m := Mv.put h hi u o
 have hl : (W.put i o).S.length = W.S.length := by simp [Wd.put]
 refine ⟨⟨fun a b ha hb e => h.inj a b (by rw [<- hl]; exact ha) (by rw [<- hl]; exact hb) e, fun j o' e => ?_⟩, m.len, m.old, fun j h1 h2 => by omega, fun b v e q => by rw [zO fun z => q i hi z.symm]; exact e⟩
 have e' : (W.S.set i o)[j]? = some o' := e
 by_cases hj : i = j
 ·subst hj
  rw [jAs hi] at e'
  cases e'
  exact hr
 ·rw [jAt hj] at e'
  have hjl : j < W.S.length := (jAr.mp e').1
  exact (h.get j o' e').mv m (zO fun z => hj (h.inj i j hi hjl z.symm))
theorem Nxt.heap (h : StOk G H W) (hp : H p = none) (u : HO) : Nxt G H W (upd H p u) W := by
 have m : Mv H W (upd H p u) W := ⟨jAx _, fun _ _ => _root_.rfl, fun b v e _ => by rw [zO (qAl e hp)]; exact e⟩
 exact ⟨⟨h.inj, fun i o e => (h.get i o e).mv m (zO (h.new hp i (jAr.mp e).1))⟩, jAx _, fun _ _ => _root_.rfl, fun i h1 h2 => by omega, fun b v e _ => by rw [zO (qAl e hp)]; exact e⟩
def RepS (G : Gx) (H : Hp) (W : Wd) (δ : DS) (σ : L2.St) : Prop := δ.length = σ.length /\ ∀ (i : Nat) (d : D), δ[i]? = some (some d) -> ∃ v, σ[i]? = some (some v) /\ Rep G H W d v
theorem RepS.mv (h : RepS G H W δ σ) (s : Mv H W H' W') : RepS G H' W' δ σ :=
 ⟨h.1, fun i d e => let ⟨v, e1, r⟩ := h.2 i d e; ⟨v, e1, r.mv s⟩⟩
theorem RepS.set (i : Nat) (h : RepS G H W δ σ) (r : Rep G H W d v) : RepS G H W (δ.set i (some d)) (σ.set i (some v)) := by
 refine ⟨by simpa using h.1, fun j e hj => ?_⟩
 by_cases ij : i = j
 ·subst ij
  have hl : i < δ.length := by
   have := (jAr.mp hj).1
   simpa using this
  rw [jAs hl] at hj
  cases hj
  exact ⟨v, jAs (h.1 ▸ hl), r⟩
 ·rw [jAt ij] at hj
  obtain ⟨u, e1, q⟩ := h.2 j e hj
  exact ⟨u, by rw [jAt ij]; exact e1, q⟩
theorem RepS.start (N : List Str) (h : RepL G H W ds vs) : RepS G H W (startD N.length ds) (start N vs) := by
 have hl := h.length
 refine ⟨by simp [startD, L2.start, hl], fun i d e => ?_⟩
 unfold startD at e
 by_cases hi : i < ds.length
 ·rw [jBt (by simpa using hi), jBu] at e
  cases q : ds[i]? with
  | none => rw [q] at e; cases e
  | some d' =>
   rw [q] at e; cases e
   obtain ⟨v, e1, r⟩ := h.get q
   refine ⟨v, ?_, r⟩
   unfold L2.start
   rw [jBt (by rw [jBd]; omega), jBu, e1] <;> rfl
 ·rw [jBr (by simpa using hi), jBs] at e
  split at e <;> cases e
def qBn {α : Type} (G : Gx) (E : XK) (H : Hp) (W : Wd) (r : Rs α) (P : α -> Hp -> Wd -> Prop) : Prop := match r with
 | .ok a S' => ∀ H' W', W'.S = S' -> Nxt G H W H' W' -> P a H' W'
 | .er c S' => ∃ C, G.mg c = some (.ref C) /\ ∀ H' W', W'.S = S' -> Nxt G H W H' W' -> E (.ref C) none H'
theorem qBn.nxt (h : qBn G E H W r P) (s : Nxt G H W H1 W1) : qBn G E H1 W1 r P := by
 cases r with
 | ok a S' => exact fun H' W' e s' => h H' W' e (s.trans s')
 | er c S' =>
  obtain ⟨C, m, q⟩ := h
  exact ⟨C, m, fun H' W' e s' => q H' W' e (s.trans s')⟩
theorem qBn.now (h : qBn G E H W (.ok a W.S) P) (s : StOk G H W) : P a H W := h H W rfl (.rfl s)
abbrev VP (G : Gx) (Q : VK) : D -> Hp -> Wd -> Prop := fun d H' W' => ∀ v, Rep G H' W' d v -> Q v H'
abbrev AV (G : Gx) (Q : List V -> Hp -> Prop) : List D -> Hp -> Wd -> Prop := fun ds H' W' => ∀ vs, RepL G H' W' ds vs -> Q vs H'
abbrev BV (Q : Bool -> Hp -> Prop) : Bool -> Hp -> Wd -> Prop := fun b H' _ => Q b H'
def SV (G : Gx) (D : Ends) : Fl -> Hp -> Wd -> Prop := fun f H' W' => match f with
 | .nx δ => ∀ σ, RepS G H' W' δ σ -> D.nx σ H'
 | .rt d => ∀ v, Rep G H' W' d v -> D.rt v H'
 | .bk δ => ∀ σ, RepS G H' W' δ σ -> D.bk σ H'
 | .ct δ => ∀ σ, RepS G H' W' δ σ -> D.ct σ H'
def Go {α : Type} (G : Gx) (E : XK) (g : DS -> Sto -> R α) (P : α -> Hp -> Wd -> Prop) (σ : L2.St) (H : Hp) : Prop := ∃ W δ r, StOk G H W /\ RepS G H W δ σ /\ g δ W.S = some r /\ qBn G E H W r P
def tF (G : Gx) (E : XK) (g : DE) : TE := fun σ H Q => Go G E g (VP G Q) σ H
def tFT (G : Gx) (E : XK) (g : DT) : TT := fun σ H Q => Go G E g (BV Q) σ H
def tFA (G : Gx) (E : XK) (g : DA) : TA := fun σ H Q => Go G E g (AV G Q) σ H
def tFS (G : Gx) (E : XK) (g : DSt) : TS := fun D σ H => Go G E g (SV G D) σ H
def tFG (G : Gx) (E : XK) (g : DG) : TG := fun v σ H Q => ∃ W δ d r, StOk G H W /\ RepS G H W δ σ /\ Rep G H W d v /\ g d δ W.S = some r /\ qBn G E H W r (fun δ' H' W' => ∀ σ', RepS G H' W' δ' σ' -> Q σ' H')
abbrev gx (X : Cx) : Gx := ⟨X.K, X.mg⟩
@[irreducible] def PDE (X : Cx) (E : XK) (e : Expr) (g : DE) : Prop := PE X e (tF (gx X) E g)
@[irreducible] def PDT (X : Cx) (E : XK) (e : Expr) (g : DT) : Prop := PT X e (tFT (gx X) E g)
@[irreducible] def PDW (X : Cx) (E : XK) (e : Expr) (g : DT) : Prop := PW X e (tFT (gx X) E g)
@[irreducible] def PDA (X : Cx) (E : XK) (es : List Expr) (g : DA) : Prop := PA X es (tFA (gx X) E g)
@[irreducible] def PDS (X : Cx) (E : XK) (st : Stmt) (g : DSt) : Prop := PS X st (tFS (gx X) E g)
@[irreducible] def PDSs (X : Cx) (E : XK) (sts : List Stmt) (g : DSt) : Prop := PSs X sts (tFS (gx X) E g)
@[irreducible] def PDG (X : Cx) (E : XK) (tg : Expr) (g : DG) : Prop := PG X tg (tFG (gx X) E g)
theorem PDA.o (h : PDA X E es g) : PA X es (tFA (gx X) E g) := by
 unfold PDA at h
 exact h
theorem PDE.o (h : PDE X E e g) : PE X e (tF (gx X) E g) := by
 unfold PDE at h
 exact h
theorem PE.imp (h : PE X e t) (hi : ∀ σ H Q, t' σ H Q -> t σ H Q) : PE X e t' := fun pins s σ H Q I q => h pins s σ H Q I (hi σ H Q q)
theorem PT.imp (h : PT X e t) (hi : ∀ σ H Q, t' σ H Q -> t σ H Q) : PT X e t' := fun pins s σ H Q I q => h pins s σ H Q I (hi σ H Q q)
theorem PW.imp (h : PW X e t) (hi : ∀ σ H Q, t' σ H Q -> t σ H Q) : PW X e t' := fun wh pins s σ H Q I q => h wh pins s σ H Q I (hi σ H Q q)
theorem PA.imp (h : PA X es t) (hi : ∀ σ H Q, t' σ H Q -> t σ H Q) : PA X es t' := fun p pins s σ H Q I q => h p pins s σ H Q I (hi σ H Q q)
theorem PS.imp {X : Cx} {st : Stmt} {t t' : TS} (h : PS X st t) (hi : ∀ D σ H, t' D σ H -> t D σ H) : PS X st t' := fun pins s σ H D I q => h pins s σ H D I (hi D σ H q)
theorem PSs.imp {X : Cx} {st : List Stmt} {t t' : TS} (h : PSs X st t) (hi : ∀ D σ H, t' D σ H -> t D σ H) : PSs X st t' := fun pins s σ H D I q => h pins s σ H D I (hi D σ H q)
section
variable {G : Gx} {E : XK} {σ : L2.St} {H : Hp} {δ : DS} {W : Wd}
theorem Go.thn (hS : StOk G H W) (hδ : RepS G H W δ σ) (h : bnd (ga δ W.S) k = some r) (hA : qBn G E H W r P)
  (next : ∀ a H1 W1, Nxt G H W H1 W1 -> RepS G H1 W1 δ σ -> k a W1.S = some r -> qBn G E H1 W1 r P -> P1 a H1 W1) : Go G E ga P1 σ H := by
 rcases qAm h with ⟨a, S, e, q⟩ | ⟨c, S, e, q⟩
 ·exact ⟨W, δ, .ok a S, hS, hδ, e, fun H1 W1 e1 s => next a H1 W1 s (hδ.mv (s.mv hS)) (by rw [e1]; exact q) (hA.nxt s)⟩
 ·subst q
  exact ⟨W, δ, .er c S, hS, hδ, e, hA⟩
end
section
variable {X : Cx} {E : XK} {a b c e : Expr} {pos : Pos} {ga gb : DE}
theorem zA (i : Nat) (hN : X.N[i]? = some x := by rfl) (hv : Vis X.env.scope x := by first | exact Or.inl rfl | exact Or.inr (Or.inl rfl) | exact Or.inr (Or.inr rfl)) (hd : (x == ("__debug__" : Str)) = false := by decide +kernel)
  (hcd : (x == ("__classdict__" : Str)) = false := by decide +kernel) : PDE X E (.Name x pos) (vr i) := by
 try unfold PDE at *
 refine PE.imp (pe_var hN hv hd hcd) fun σ H Q ⟨W, δ, r, hS, hδ, hg, hA⟩ => ?_
 unfold vr at hg
 cases q : δ[i]? with
 | none => rw [q] at hg; cases hg
 | some o =>
  cases o with
  | none => rw [q] at hg; cases hg
  | some d =>
   rw [q] at hg
   obtain rfl : Rs.ok d W.S = r := Option.some.inj hg
   obtain ⟨v, e1, rv⟩ := hδ.2 i d q
   exact ⟨v, e1, hA.now hS v rv⟩
theorem qDi (h : PE X e t) (ht : ∀ σ H Q, Q v H -> t σ H Q) (hr : ∀ H W, Rep (gx X) H W d v) : PDE X E e (cst d) := by
 try unfold PDE at *
 refine PE.imp h fun σ H Q ⟨W, δ, r, hS, hδ, hg, hA⟩ => ?_
 obtain rfl : Rs.ok d W.S = r := Option.some.inj hg
 exact ht σ H Q (hA.now hS v (hr H W))
theorem zF {j} : PDE X E (.Constant (.int i) j pos) (cst (.int i)) := by
 first
 | exact (
  qDi pe_int (fun _ _ _ q => q) fun _ _ => rfl)
 | ((try unfold PDE at *); exact (
  qDi pe_int (fun _ _ _ q => q) fun _ _ => rfl))
theorem pd_bl {j} : PDE X E (.Constant (.bool i) j pos) (cst (.bl i)) := by
 first
 | exact (
  qDi pe_bl (fun _ _ _ q => q) fun _ _ => rfl)
 | ((try unfold PDE at *); exact (
  qDi pe_bl (fun _ _ _ q => q) fun _ _ => rfl))
theorem pd_non {j} : PDE X E (.Constant .none j pos) (cst .non) := by
 first
 | exact (
  qDi pe_non (fun _ _ _ q => q) fun _ _ => rfl)
 | ((try unfold PDE at *); exact (
  qDi pe_non (fun _ _ _ q => q) fun _ _ => rfl))
theorem pd_glob (hg : Gl X x) (hm : X.mg x = some u) (r : RelV v u) (hr : ∀ H W, Rep (gx X) H W d v) (hd : (x == ("__debug__" : Str)) = false := by decide +kernel) : PDE X E (.Name x pos) (cst d) := by
 first
 | exact (
  qDi (pe_glob hg hm r hd) (fun _ _ _ q => q) hr)
 | ((try unfold PDE at *); exact (
  qDi (pe_glob hg hm r hd) (fun _ _ _ q => q) hr))
def CstAt (K : PySem.W.Frag) (mg : Str -> Option Value) (x : Str) (d : D) : Prop := ∃ u v, mg x = some u /\ RelV v u /\ ∀ H W, Rep ⟨K, mg⟩ H W d v
theorem pd_C (hg : Gl X x) (h : CstAt X.K X.mg x d) (hd : (x == ("__debug__" : Str)) = false := by decide +kernel) : PDE X E (.Name x pos) (cst d) := by
 obtain ⟨u, v, hm, r, hr⟩ := h
 exact pd_glob hg hm r hr hd
def OpD (G : Gx) (r : R2) (f : D -> D -> Sto -> R D) : Prop :=
 ∀ (E : XK) (H : Hp) (W : Wd) (x y : V) (dx dy : D) (Q : VK) (rr : Rs D), StOk G H W -> Rep G H W dx x -> Rep G H W dy y -> f dx dy W.S = some rr -> qBn G E H W rr (VP G Q) -> r x y H Q
theorem qDg (hf : OpD (gx X) r f) : ∀ σ H Q, tF (gx X) E (op2 f ga gb) σ H Q -> tOp r (tF (gx X) E ga) (tF (gx X) E gb) σ H Q := by
 intro σ H Q ⟨W, δ, rr, hS, hδ, hg, hA⟩
 refine Go.thn hS hδ hg hA fun dx H1 W1 s1 hδ1 hg1 hA1 x rx => ?_
 refine Go.thn s1.ok hδ1 hg1 hA1 fun dy H2 W2 s2 hδ2 hg2 hA2 y ry => ?_
 exact hf E H2 W2 x y dx dy Q rr s2.ok (rx.mv (s2.mv s1.ok)) ry hg2 hA2
theorem pd_op (ho : OpR X (binaryOp op) r) (hf : OpD (gx X) r f) (ha : PDE X E a ga) (hb : PDE X E b gb) : PDE X E (.BinOp a op b pos) (op2 f ga gb) := by
 first
 | exact (
  PE.imp (pe_op ho ha hb) (qDg hf))
 | ((try unfold PDE at *); exact (
  PE.imp (pe_op ho ha hb) (qDg hf)))
theorem pd_cmp (ho : OpR X (compareOp op) r) (hf : OpD (gx X) r f) (ha : PDE X E a ga) (hb : PDE X E b gb) (hm : behindInMarks op b = false) : PDE X E (.Compare a [op] [b] pos) (op2 f ga gb) := by
 first
 | exact (
  PE.imp (pe_cmpR ho ha hb hm) (qDg hf))
 | ((try unfold PDE at *); exact (
  PE.imp (pe_cmpR ho ha hb hm) (qDg hf)))
theorem tB_tF {t : TE} (ht : ∀ σ H Q, tF (gx X) E ga σ H Q -> t σ H Q) : ∀ σ H Q, tFT (gx X) E (tv ga) σ H Q -> t σ H fun x H1 => ∃ k, x = .bl k /\ Q k H1 := by
 intro σ H Q ⟨W, δ, rr, hS, hδ, hg, hA⟩
 refine ht σ H _ (Go.thn hS hδ hg hA fun d H1 W1 s1 hδ1 hg1 hA1 v rv => ?_)
 cases d with
 | bl k =>
  obtain rfl : Rs.ok k W1.S = rr := Option.some.inj hg1
  exact ⟨k, rv, hA1.now s1.ok⟩
 | _ => cases hg1
theorem zY {op : CmpOp} {r : R2} {f : D -> D -> Sto -> R D} (ho : OpR X (compareOp op) r) (hf : OpD (gx X) r f) (ha : PDE X E a ga) (hb : PDE X E b gb) (hm : behindInMarks op b = false) : PDT X E (.Compare a [op] [b] pos) (tv (op2 f ga gb)) := by
 first
 | exact (
  PT.imp (pt_cmpR ho ha hb hm) (tB_tF (qDg hf)))
 | ((try unfold PDE at *); (try unfold PDT at *); exact (
  PT.imp (pt_cmpR ho ha hb hm) (tB_tF (qDg hf))))
theorem pt_valD (ha : PDE X E a ga) (he : ∀ whole, isTrue a X.env whole = (do let v <- whole; standAt a.pos; holding [v] (truthy v)) := by intro _; rfl) : PDT X E a (tv ga) := by
 first
 | exact (
  PT.imp (pt_val ha he) (tB_tF fun _ _ _ q => q))
 | ((try unfold PDE at *); (try unfold PDT at *); exact (
  PT.imp (pt_val ha he) (tB_tF fun _ _ _ q => q)))
def UnD (G : Gx) (r : V -> Hp -> VK -> Prop) (f : D -> Sto -> R D) : Prop :=
 ∀ (E : XK) (H : Hp) (W : Wd) (x : V) (dx : D) (Q : VK) (rr : Rs D), StOk G H W -> Rep G H W dx x -> f dx W.S = some rr -> qBn G E H W rr (VP G Q) -> r x H Q
theorem pd_un (ho : UnR X (unaryOp op) r) (hf : UnD (gx X) r f) (ha : PDE X E a ga) : PDE X E (.UnaryOp op a pos) (op1 f ga) := by
 try unfold PDE at *
 refine PE.imp (pe_un ho ha) fun σ H Q ⟨W, δ, rr, hS, hδ, hg, hA⟩ => ?_
 exact Go.thn hS hδ hg hA fun dx H1 W1 s1 hδ1 hg1 hA1 x rx => hf E H1 W1 x dx Q rr s1.ok rx hg1 hA1
variable {ta tb : DT} {rest : List Expr}
theorem pd_and1 (ha : PDT X E a ta) : PDW X E (.BoolOp .And [a] pos) ta := by
 first
 | exact (
  pw_and1 ha)
 | ((try unfold PDT at *); (try unfold PDW at *); exact (
  pw_and1 ha))
theorem pd_or1 (ha : PDT X E a ta) : PDW X E (.BoolOp .Or [a] pos) ta := by
 first
 | exact (
  pw_or1 ha)
 | ((try unfold PDT at *); (try unfold PDW at *); exact (
  pw_or1 ha))
theorem pd_and (ha : PDT X E a ta) (hb : PDW X E (.BoolOp .And (b :: rest) pos) tb) : PDW X E (.BoolOp .And (a :: b :: rest) pos) (andT ta tb) := by
 try unfold PDT at *
 try unfold PDW at *
 refine PW.imp (pw_and ha hb) fun σ H Q ⟨W, δ, rr, hS, hδ, hg, hA⟩ => ?_
 refine Go.thn hS hδ hg hA fun c H1 W1 s1 hδ1 hg1 hA1 => ?_
 cases c with
 | true => exact ⟨W1, δ, rr, s1.ok, hδ1, hg1, hA1⟩
 | false =>
  obtain rfl : Rs.ok false W1.S = rr := Option.some.inj hg1
  exact hA1.now s1.ok
theorem pd_or (ha : PDT X E a ta) (hb : PDW X E (.BoolOp .Or (b :: rest) pos) tb) : PDW X E (.BoolOp .Or (a :: b :: rest) pos) (orT ta tb) := by
 try unfold PDT at *
 try unfold PDW at *
 refine PW.imp (pw_or ha hb) fun σ H Q ⟨W, δ, rr, hS, hδ, hg, hA⟩ => ?_
 refine Go.thn hS hδ hg hA fun c H1 W1 s1 hδ1 hg1 hA1 => ?_
 cases c with
 | true =>
  obtain rfl : Rs.ok true W1.S = rr := Option.some.inj hg1
  exact hA1.now s1.ok
 | false => exact ⟨W1, δ, rr, s1.ok, hδ1, hg1, hA1⟩
theorem pd_wt (h : PDW X E a ta) : PDT X E a ta := by
 first
 | exact (
  PW.pt h)
 | ((try unfold PDT at *); (try unfold PDW at *); exact (
  PW.pt h))
theorem pd_not (ha : PDT X E a ta) : PDT X E (.UnaryOp .Not a pos) (notT ta) := by
 try unfold PDT at *
 refine PT.imp (pt_not ha) fun σ H Q ⟨W, δ, rr, hS, hδ, hg, hA⟩ => ?_
 refine Go.thn hS hδ hg hA fun c H1 W1 s1 hδ1 hg1 hA1 => ?_
 obtain rfl : Rs.ok (!c) W1.S = rr := Option.some.inj hg1
 exact hA1.now s1.ok
theorem pd_oneV {op} (ha : PDE X E a ga) : PDE X E (.BoolOp op [a] pos) ga := by
 first
 | exact (
  pe_one ha)
 | ((try unfold PDE at *); exact (
  pe_one ha))
theorem pd_andV (ha : PDE X E a ga) (hb : PDE X E (.BoolOp .And (b :: rest) pos) gb) : PDE X E (.BoolOp .And (a :: b :: rest) pos) (andV ga gb) := by
 try unfold PDE at *
 refine PE.imp (pe_and ha hb) fun σ H Q ⟨W, δ, rr, hS, hδ, hg, hA⟩ => ?_
 refine Go.thn hS hδ hg hA fun d H1 W1 s1 hδ1 hg1 hA1 v rv => ?_
 cases d with
 | bl k =>
  refine ⟨k, rv, ?_⟩
  cases k with
  | true => exact ⟨W1, δ, rr, s1.ok, hδ1, hg1, hA1⟩
  | false =>
   obtain rfl : Rs.ok (D.bl false) W1.S = rr := Option.some.inj hg1
   exact hA1.now s1.ok _ rfl
 | _ => cases hg1
theorem pd_notV (ha : PDE X E a ga) : PDE X E (.UnaryOp .Not a pos) (notV ga) := by
 try unfold PDE at *
 refine PE.imp (pe_not ha) fun σ H Q ⟨W, δ, rr, hS, hδ, hg, hA⟩ => ?_
 refine Go.thn hS hδ hg hA fun d H1 W1 s1 hδ1 hg1 hA1 v rv => ?_
 cases d with
 | bl k =>
  refine ⟨k, rv, ?_⟩
  obtain rfl : Rs.ok (D.bl (!k)) W1.S = rr := Option.some.inj hg1
  exact hA1.now s1.ok _ rfl
 | _ => cases hg1
theorem pd_ifE (hc : PDT X E c ta) (ha : PDE X E a ga) (hb : PDE X E b gb) : PDE X E (.IfExp c a b pos) (ifE ta ga gb) := by
 try unfold PDE at *
 try unfold PDT at *
 refine PE.imp (pe_ifExp hc ha hb) fun σ H Q ⟨W, δ, rr, hS, hδ, hg, hA⟩ => ?_
 refine Go.thn hS hδ hg hA fun k H1 W1 s1 hδ1 hg1 hA1 => ?_
 cases k with
 | true => exact ⟨W1, δ, rr, s1.ok, hδ1, hg1, hA1⟩
 | false => exact ⟨W1, δ, rr, s1.ok, hδ1, hg1, hA1⟩
variable {es : List Expr} {gs : DA}
theorem zE : PDA X E [] aNil := by
 try unfold PDA at *
 refine PA.imp pa_nil fun σ H Q ⟨W, δ, rr, hS, hδ, hg, hA⟩ => ?_
 obtain rfl : Rs.ok [] W.S = rr := Option.some.inj hg
 exact hA.now hS [] rfl
theorem zB (ha : PDE X E e ga) (hr : PDA X E es gs) (hs : starEach (e :: es) X.env = (false, eval e X.env) :: starEach es X.env := by rfl) : PDA X E (e :: es) (yF ga gs) := by
 try unfold PDE at *
 try unfold PDA at *
 refine PA.imp (qCq ha hr hs) fun σ H Q ⟨W, δ, rr, hS, hδ, hg, hA⟩ => ?_
 refine Go.thn hS hδ hg hA fun d H1 W1 s1 hδ1 hg1 hA1 v rv => ?_
 refine Go.thn s1.ok hδ1 hg1 hA1 fun ds H2 W2 s2 hδ2 hg2 hA2 vs rvs => ?_
 obtain rfl : Rs.ok (d :: ds) W2.S = rr := Option.some.inj hg2
 exact hA2.now s2.ok _ ⟨v, vs, rfl, rv.mv (s2.mv s1.ok), rvs⟩
theorem sz (h : n <= 1000000) : n <= sizeLine := jAj h (by decide)
theorem Mv.heap (hp : H p = none) (u : HO) : Mv H W (upd H p u) W := ⟨jAx _, fun _ _ => rfl, fun b v e _ => by rw [zO (qAl e hp)]; exact e⟩
theorem pd_tup {x1} (h : PDA X E es gs) : PDE X E (.Tuple es x1 pos) (fnE tupD gs) := by
 try unfold PDE at *
 try unfold PDA at *
 refine PE.imp (pe_tup h) fun σ H Q ⟨W, δ, rr, hS, hδ, hg, hA⟩ => ?_
 refine Go.thn hS hδ hg hA fun ds H1 W1 s1 hδ1 hg1 hA1 vs rvs => ?_
 unfold tupD at hg1
 split at hg1
 ·rename_i hl
  obtain rfl : Rs.ok (D.tup ds) W1.S = rr := Option.some.inj hg1
  refine ⟨by rw [<- rvs.length]; exact sz (by omega), fun p hp => hA1 _ W1 rfl (Nxt.heap s1.ok hp _) _ ?_⟩
  exact ⟨p, vs, rfl, SqT.of zW, rvs.mv (Mv.heap hp _)⟩
 ·cases hg1
theorem qBq {G : Gx} {H : Hp} {W : Wd} {E : XK} {rr : Rs D} {Q : VK} {ds : List D} {vs : List V} {p : Addr} (hS : StOk G H W) (hg : newO (.lst ds) W.S = some rr) (hA : qBn G E H W rr (VP G Q)) (rl : RepL G H W ds vs) (hp : H p = none) : Q (.ref p) (upd H p (.lst vs)) := by
 obtain rfl : Rs.ok (D.ref W.S.length) (W.S ++ [O.lst ds]) = rr := Option.some.inj hg
 refine hA _ (W.push p (.lst ds)) rfl (Nxt.alloc hS hp ⟨vs, zW, rl.mv (Mv.push (G := G) hp _ _)⟩) _ ⟨?_, ?_⟩
 ·simp [Wd.push]
 ·show V.ref p = .ref (if W.S.length = W.S.length then p else _)
  rw [if_pos rfl]
theorem pd_lst (h : PDA X E es gs) : PDE X E (.List es pos) (fnE lstD gs) := by
 try unfold PDE at *
 try unfold PDA at *
 refine PE.imp (pe_lst h) fun σ H Q ⟨W, δ, rr, hS, hδ, hg, hA⟩ => ?_
 refine Go.thn hS hδ hg hA fun ds H1 W1 s1 hδ1 hg1 hA1 vs rvs => ?_
 unfold lstD at hg1
 split at hg1
 ·rename_i hl
  exact ⟨by rw [<- rvs.length]; exact sz (by omega), fun p hp => qBq s1.ok hg1 hA1 rvs hp⟩
 ·cases hg1
def qEz (G : Gx) (r : List V -> Hp -> VK -> Prop) (f : List D -> Sto -> R D) : Prop :=
 ∀ (E : XK) (H : Hp) (W : Wd) (vs : List V) (ds : List D) (Q : VK) (rr : Rs D), StOk G H W -> RepL G H W ds vs -> f ds W.S = some rr -> qBn G E H W rr (VP G Q) -> r vs H Q
theorem qFh (hf : qEz (gx X) r f) : ∀ σ H Q, tF (gx X) E (fnE f gs) σ H Q -> tCB r (tFA (gx X) E gs) σ H Q := by
 intro σ H Q ⟨W, δ, rr, hS, hδ, hg, hA⟩
 exact Go.thn hS hδ hg hA fun ds H1 W1 s1 hδ1 hg1 hA1 vs rvs => hf E H1 W1 vs ds Q rr s1.ok rvs hg1 hA1
theorem yA {x : Str} {id : String} {p : Pos} {r : List V -> Hp -> VK -> Prop} {f : List D -> Sto -> R D} (hc : qBy X (.builtin id) r) (hf : qEz (gx X) r f) (hg : Gl X x) (hm : X.mg x = none) (hv : bootBuiltins x = some (.builtin id)) (ha : PDA X E (e :: es) gs) (hn : x ≠ "__name__" := by decide +kernel)
  (hdb : (x == ("__debug__" : Str)) = false := by decide +kernel) (he : starEach (e :: es) X.env = (false, eval e X.env) :: starEach es X.env := by rfl) (hpl : (backTo pos (starEach es X.env)).any (·.1) = false := by rfl) : PDE X E (.Call (.Name x p) (e :: es) [] pos) (fnE f gs) := by
 first
 | exact (
  PE.imp (qDt hc hg hm hv ha hn hdb he hpl) (qFh hf))
 | ((try unfold PDE at *); (try unfold PDA at *); exact (
  PE.imp (qDt hc hg hm hv ha hn hdb he hpl) (qFh hf)))
theorem pd_callTy {x : Str} {T : String} {p : Pos} {r : List V -> Hp -> VK -> Prop} {f : List D -> Sto -> R D} (hc : qBy X (.type T) r) (hf : qEz (gx X) r f) (hg : Gl X x) (hm : X.mg x = none) (hv : bootBuiltins x = some (.type T)) (ha : PDA X E (e :: es) gs) (hn : x ≠ "__name__" := by decide +kernel)
  (hdb : (x == ("__debug__" : Str)) = false := by decide +kernel) (he : starEach (e :: es) X.env = (false, eval e X.env) :: starEach es X.env := by rfl) (hpl : (backTo pos (starEach es X.env)).any (·.1) = false := by rfl) : PDE X E (.Call (.Name x p) (e :: es) [] pos) (fnE f gs) := by
 first
 | exact (
  PE.imp (pe_callTy hc hg hm hv ha hn hdb he hpl) (qFh hf))
 | ((try unfold PDE at *); (try unfold PDA at *); exact (
  PE.imp (pe_callTy hc hg hm hv ha hn hdb he hpl) (qFh hf)))
def spF (G : Gx) (f : List D -> Sto -> R D) : Sp := fun vs H Q E => ∃ W ds rr, StOk G H W /\ RepL G H W ds vs /\ f ds W.S = some rr /\ qBn G E H W rr (VP G Q)
theorem pd_fn (F : FnOk X.prog X.w X.K X.mg X.base CX k fa fd ps (spF (gx X) f)) (hr : Room k X.A) (hg : Gl X x) (hm : X.mg x = some (.ref fa)) (hk : jBc X.K (.ref fa) = true)
  (hb : zV X.K fd ps []) (hx : qBb CX X E) (ha : PDA X E (e :: es) gs) (hdb : (x == ("__debug__" : Str)) = false := by decide +kernel) (he : starEach (e :: es) X.env = (false, eval e X.env) :: starEach es X.env := by rfl)
  (hpl : (backTo pos (starEach es X.env)).any (·.1) = false := by rfl) : PDE X E (.Call (.Name x p) (e :: es) [] pos) (fnE f gs) := by
 try unfold PDE at *
 try unfold PDA at *
 refine PE.imp (pe_call F hr hg hm hk hb .nil hx ha hdb he hpl) fun σ H Q ⟨W, δ, rr, hS, hδ, hg, hA⟩ => ?_
 exact Go.thn hS hδ hg hA fun as H1 W1 s1 hδ1 hg1 hA1 vs rvs => ⟨W1, as, rr, s1.ok, by rw [jBh]; exact rvs, hg1, hA1⟩
theorem pd_ix (hr : IxR X r) (hf : OpD (gx X) r f) (ha : PDE X E a ga) (hb : PDE X E b gb) (hs : PlainIx b) : PDE X E (.Subscript a b pos) (op2 f ga gb) := by
 first
 | exact (
  PE.imp (pe_ix hr ha hb hs) (qDg hf))
 | ((try unfold PDE at *); exact (
  PE.imp (pe_ix hr ha hb hs) (qDg hf)))
end
section
variable {X : Cx} {E : XK} {st : Stmt} {rest : List Stmt} {e : Expr} {pos : Pos} {ge : DE} {gs gr : DSt} {t : DT}
theorem pds_nil : PDSs X E [] nxS := by
 try unfold PDSs at *
 refine PSs.imp pss_nil fun D σ H ⟨W, δ, rr, hS, hδ, hg, hA⟩ => ?_
 obtain rfl : Rs.ok (Fl.nx δ) W.S = rr := Option.some.inj hg
 exact hA.now hS σ hδ
theorem zJ (h : PDS X E st gs) : PDSs X E [st] gs := by
 first
 | exact (
  pss_one h)
 | ((try unfold PDS at *); (try unfold PDSs at *); exact (
  pss_one h))
theorem zD (h : PDS X E st gs) (hr : PDSs X E rest gr) : PDSs X E (st :: rest) (seqS gs gr) := by
 try unfold PDS at *
 try unfold PDSs at *
 refine PSs.imp (pss_cons h hr) fun D σ H ⟨W, δ, rr, hS, hδ, hg, hA⟩ => ?_
 refine Go.thn hS hδ hg hA fun f H1 W1 s1 hδ1 hg1 hA1 => ?_
 cases f with
 | nx δ' => exact fun σ' hδ' => ⟨W1, δ', rr, s1.ok, hδ', hg1, hA1⟩
 | rt d =>
  obtain rfl : Rs.ok (Fl.rt d) W1.S = rr := Option.some.inj hg1
  exact hA1.now s1.ok
 | bk δ' =>
  obtain rfl : Rs.ok (Fl.bk δ') W1.S = rr := Option.some.inj hg1
  exact hA1.now s1.ok
 | ct δ' =>
  obtain rfl : Rs.ok (Fl.ct δ') W1.S = rr := Option.some.inj hg1
  exact hA1.now s1.ok
theorem zP (he : PDE X E e ge) : PDS X E (.Return (some e) pos) (retS ge) := by
 try unfold PDE at *
 try unfold PDS at *
 refine PS.imp (ps_ret he) fun D σ H ⟨W, δ, rr, hS, hδ, hg, hA⟩ => ?_
 refine Go.thn hS hδ hg hA fun d H1 W1 s1 hδ1 hg1 hA1 v rv => ?_
 obtain rfl : Rs.ok (Fl.rt d) W1.S = rr := Option.some.inj hg1
 exact hA1.now s1.ok v rv
theorem pd_expr (he : PDE X E e ge) (hs : swapsWith e none pos.line X.env = pure false := by rfl) : PDS X E (.Expr e pos) (dropS ge) := by
 try unfold PDE at *
 try unfold PDS at *
 refine PS.imp (ps_expr he hs) fun D σ H ⟨W, δ, rr, hS, hδ, hg, hA⟩ => ?_
 refine Go.thn hS hδ hg hA fun d H1 W1 s1 hδ1 hg1 hA1 v rv => ?_
 obtain rfl : Rs.ok (Fl.nx δ) W1.S = rr := Option.some.inj hg1
 exact hA1.now s1.ok σ hδ1
theorem pd_if {c : Expr} {a b : List Stmt} {gb : DSt} (hc : PDT X E c t) (ha : PDSs X E a gs) (hb : PDSs X E b gb) : PDS X E (.If c a b pos) (ifS t gs gb) := by
 try unfold PDT at *
 try unfold PDS at *
 try unfold PDSs at *
 refine PS.imp (ps_if hc ha hb) fun D σ H ⟨W, δ, rr, hS, hδ, hg, hA⟩ => ?_
 refine Go.thn hS hδ hg hA fun k H1 W1 s1 hδ1 hg1 hA1 => ?_
 cases k with
 | true => exact ⟨W1, δ, rr, s1.ok, hδ1, hg1, hA1⟩
 | false => exact ⟨W1, δ, rr, s1.ok, hδ1, hg1, hA1⟩
theorem pd_never : PDS X E st nevS := by
 first
 | exact (
  PS.imp ps_never fun D σ H ⟨W, δ, rr, hS, hδ, hg, hA⟩ => by cases hg)
 | ((try unfold PDS at *); exact (
  PS.imp ps_never fun D σ H ⟨W, δ, rr, hS, hδ, hg, hA⟩ => by cases hg))
theorem pds_never {sts : List Stmt} : PDSs X E sts nevS := by
 first
 | exact (
  PSs.imp pss_never fun D σ H ⟨W, δ, rr, hS, hδ, hg, hA⟩ => by cases hg)
 | ((try unfold PDSs at *); exact (
  PSs.imp pss_never fun D σ H ⟨W, δ, rr, hS, hδ, hg, hA⟩ => by cases hg))
theorem zS (i : Nat) {x : Str} {pos' : Pos} (hN : X.N.Nodup) (he : PDE X E e ge) (hi : X.N[i]? = some x := by rfl) (hx : Loc X.env.scope x := by first | exact Or.inl rfl | exact Or.inr rfl) (hs : swapsWith e (some (.Name x pos')) pos.line X.env = pure false := by rfl)
  (hf : X.fn x = true \/ X.env.scope.names.lookup x = some .local := by first | exact .inl rfl | exact .inr rfl | assumption) : PDS X E (.Assign [.Name x pos'] e pos) (setS i ge) := by
 try unfold PDE at *
 try unfold PDS at *
 refine PS.imp (ps_set hN hi hx he hs hf) fun D σ H ⟨W, δ, rr, hS, hδ, hg, hA⟩ => ?_
 refine Go.thn hS hδ hg hA fun d H1 W1 s1 hδ1 hg1 hA1 v rv => ?_
 obtain rfl : Rs.ok (Fl.nx (δ.set i (some d))) W1.S = rr := Option.some.inj hg1
 exact hA1.now s1.ok _ (hδ1.set i rv)
theorem pd_par (i j : Nat) {x y : Str} {a b : Expr} {ga gb : DE} {px py pt : Pos} {kt k2 pt2} (hc : X.calm = true) (hN : X.N.Nodup) (ha : PDE X E a ga) (hb : PDE X E b gb) (hi : X.N[i]? = some x := by rfl) (hj : X.N[j]? = some y := by rfl) (hij : i ≠ j := by decide)
  (hx : X.env.scope.names.lookup x = some .local := by rfl) (hy : X.env.scope.names.lookup y = some .local := by rfl)
  (hst : starEach (a :: [b]) X.env = (false, eval a X.env) :: starEach [b] X.env := by rfl) (hst2 : starEach (b :: []) X.env = (false, eval b X.env) :: starEach [] X.env := by rfl)
  (hw : swappedStores [.Tuple [.Name x px, .Name y py] kt pt] (.Tuple [a, b] k2 pt2) X.env = pure (some [x, y]) := by rfl)
  (hs : swapsWithSole [.Tuple [.Name x px, .Name y py] kt pt] (.Tuple [a, b] k2 pt2) pos.line X.env = pure false := by rfl) :
  PDS X E (.Assign [.Tuple [.Name x px, .Name y py] kt pt] (.Tuple [a, b] k2 pt2) pos) (parS i j ga gb) := by
 try unfold PDE at *
 try unfold PDS at *
 refine PS.imp (ps_par hc hN hi hj hij hx hy (qCq ha (qCq hb pa_nil hst2) hst) hw hs) fun D σ H ⟨W, δ, rr, hS, hδ, hg, hA⟩ => ?_
 refine Go.thn hS hδ hg hA fun d1 H1 W1 s1 hδ1 hg1 hA1 v1 rv1 => ?_
 refine Go.thn s1.ok hδ1 hg1 hA1 fun d2 H2 W2 s2 hδ2 hg2 hA2 v2 rv2 => ?_
 obtain rfl : Rs.ok (Fl.nx ((δ.set i (some d1)).set j (some d2))) W2.S = rr := Option.some.inj hg2
 exact ⟨v1, v2, rfl, hA2.now s2.ok _ ((hδ2.set i (rv1.mv (s2.mv s1.ok))).set j rv2)⟩
theorem zL (i : Nat) (hN : X.N.Nodup) (hi : X.N[i]? = some x := by rfl) (hx : Loc X.env.scope x := by first | exact Or.inl rfl | exact Or.inr rfl) (hf : X.fn x = true \/ X.env.scope.names.lookup x = some .local := by first | exact .inl rfl | exact .inr rfl | assumption) :
  PDG X E (.Name x pos) (setG i) := by
 try unfold PDG at *
 intro pins s σ H v u Q I rv h
 obtain ⟨W, δ, d, rr, hS, hδ, hd, hg, hA⟩ := h
 obtain rfl : Rs.ok (δ.set i (some d)) W.S = rr := Option.some.inj hg
 exact pg_name hN hi hx hf pins s σ H v u Q I rv (hA.now hS _ (hδ.set i hd))
def tFGs (G : Gx) (E : XK) (gs : List DG) : TGs := fun vs σ H Q => ∃ W δ ds r, StOk G H W /\ RepS G H W δ σ /\ RepL G H W ds vs /\ tupGs gs ds δ W.S = some r /\ qBn G E H W r (fun δ' H' W' => ∀ σ', RepS G H' W' δ' σ' -> Q σ' H')
@[irreducible] def PDGs (X : Cx) (E : XK) (ts : List Expr) (gs : List DG) : Prop := PGs X ts (tFGs (gx X) E gs)
theorem pdgs_nil : PDGs X E [] [] := by
 try unfold PDGs at *
 intro pins s σ H vs us Q I rv h
 obtain ⟨W, δ, ds, rr, hS, hδ, hd, hg, hA⟩ := h
 cases ds with
 | nil =>
  obtain rfl : Rs.ok δ W.S = rr := Option.some.inj hg
  have e : vs = [] := hd
  exact pgs_nil pins s σ H vs us Q I rv ⟨e, hA.now hS σ hδ⟩
 | cons d ds => cases hg
theorem zX {tg : Expr} {ts : List Expr} {g : DG} {gs : List DG} (h : PDG X E tg g) (hr : PDGs X E ts gs) (hs : (assignEach (tg :: ts) X.env).map (·.2) = assign tg X.env :: (assignEach ts X.env).map (·.2) := by rfl) : PDGs X E (tg :: ts) (g :: gs) := by
 try unfold PDGs at *
 try unfold PDG at *
 intro pins s σ H vs us Q I rv h'
 obtain ⟨W, δ, ds, rr, hS, hδ, hd, hg, hA⟩ := h'
 cases ds with
 | nil => cases hg
 | cons d ds =>
  obtain ⟨v, r, rfl, q, tl⟩ := hd
  refine pgs_cons h hr hs pins s σ H _ us Q I rv ⟨v, r, rfl, ?_⟩
  rcases qAm (show bnd (g d δ W.S) (tupGs gs ds) = some rr from hg) with ⟨δ1, S1, e1, q1⟩ | ⟨c, S1, e1, q1⟩
  ·exact ⟨W, δ, d, .ok δ1 S1, hS, hδ, q, e1, fun H1 W1 e s1 σ1 hδ1 => ⟨W1, δ1, ds, rr, s1.ok, hδ1, tl.mv (s1.mv hS), by rw [e]; exact q1, hA.nxt s1⟩⟩
  ·subst q1
   exact ⟨W, δ, d, .er c S1, hS, hδ, q, e1, hA⟩
theorem pdg_tup {ts : List Expr} {k : Nat} {gs : List DG} (hc : X.calm = true) (h : PDGs X E ts gs) (hn : (assignEach ts X.env).length = gs.length := by rfl) (hst : (assignEach ts X.env).findIdx? (·.1) = none := by rfl) : PDG X E (.Tuple ts k pos) (tupG gs) := by
 try unfold PDGs at *
 try unfold PDG at *
 intro pins s σ H v u Q I rv h'
 obtain ⟨W, δ, d, rr, hS, hδ, hd, hg, hA⟩ := h'
 cases d with
 | tup ds =>
  obtain ⟨a, xs, e, q, r⟩ := hd
  have hg' : (if ds.length = gs.length then tupGs gs ds δ W.S else none) = some rr := hg
  split at hg'
  ·rename_i l
   exact pg_tup (n := gs.length) hc h hn hst pins s σ H v u Q I rv ⟨a, xs, e, q, by rw [<- r.length]; exact l, W, δ, ds, rr, hS, hδ, r, hg', hA⟩
  ·cases hg'
 | _ => cases hg
theorem pd_asg {tg : Expr} {g : DG} (he : PDE X E e ge) (hg : PDG X E tg g) (hs : swapsWithSole [tg] e pos.line X.env = pure false := by rfl) (hw : swappedStores [tg] e X.env = pure none := by rfl)
  (h1 : (assignEach [tg] X.env).map (·.2) = [assign tg X.env] := by rfl) : PDS X E (.Assign [tg] e pos) (asgS ge g) := by
 try unfold PDE at *
 try unfold PDS at *
 try unfold PDG at *
 refine PS.imp (ps_asg he hg hs hw h1) fun D σ H ⟨W, δ, rr, hS, hδ, hg, hA⟩ => ?_
 refine Go.thn hS hδ hg hA fun d H1 W1 s1 hδ1 hg1 hA1 v rv => ?_
 rcases qAm (show bnd (g d δ W1.S) nxS = some rr from hg1) with ⟨δ', S', e1, q⟩ | ⟨c, S', e1, q⟩
 ·obtain rfl : Rs.ok (Fl.nx δ') S' = rr := Option.some.inj q
  exact ⟨W1, δ, d, .ok δ' S', s1.ok, hδ1, rv, e1, fun H2 W2 e s2 σ2 hδ2 => hA1 H2 W2 e s2 σ2 hδ2⟩
 ·subst q
  exact ⟨W1, δ, d, .er c S', s1.ok, hδ1, rv, e1, hA1⟩
theorem pd_while {c : Expr} {body : List Stmt} (hp : PassesOwn (model X.prog X.w) X.A X.env X.xe) (hc : PDT X E c t) (hb : PDSs X E body gs) : PDS X E (.While c body [] pos) (qCu t gs) := by
 try unfold PDT at *
 try unfold PDS at *
 try unfold PDSs at *
 refine PS.imp (ps_while hp hc hb) fun D σ H ⟨W, δ, rr, hS, hδ, hg, hA⟩ => ?_
 obtain ⟨n, hg⟩ := whileS_some hg
 refine ⟨fun m σ1 H1 => ∃ W1 δ1, StOk (gx X) H1 W1 /\ RepS (gx X) H1 W1 δ1 σ1 /\ qA4 t gs m δ1 W1.S = some rr /\ qBn (gx X) E H1 W1 rr (SV (gx X) D), ⟨n, W, δ, hS, hδ, hg, hA⟩, ?_⟩
 rintro m σ1 H1 ⟨W1, δ1, hS1, hδ1, hg1, hA1⟩
 cases m with
 | zero => cases hg1
 | succ m =>
  refine Go.thn hS1 hδ1 hg1 hA1 fun k H2 W2 s2 hδ2 hg2 hA2 => ?_
  cases k with
  | false =>
   obtain rfl : Rs.ok (Fl.nx δ1) W2.S = rr := Option.some.inj hg2
   exact hA2.now s2.ok σ1 hδ2
  | true =>
   refine ⟨fun σ3 H3 => ∃ W3 δ3, StOk (gx X) H3 W3 /\ RepS (gx X) H3 W3 δ3 σ3 /\ qA4 t gs m δ3 W3.S = some rr /\ qBn (gx X) E H3 W3 rr (SV (gx X) D), fun σ3 H3 h3 => ⟨m, jBf m, h3⟩, ?_⟩
   refine Go.thn s2.ok hδ2 hg2 hA2 fun f H3 W3 s3 hδ3 q hA3 => ?_
   cases f with
   | nx δ3 => exact fun σ3 h3 => ⟨W3, δ3, s3.ok, h3, q, hA3⟩
   | ct δ3 => exact fun σ3 h3 => ⟨W3, δ3, s3.ok, h3, q, hA3⟩
   | bk δ3 =>
    obtain rfl : Rs.ok (Fl.nx δ3) W3.S = rr := Option.some.inj q
    exact fun σ3 h3 => hA3.now s3.ok σ3 h3
   | rt d =>
    obtain rfl : Rs.ok (Fl.rt d) W3.S = rr := Option.some.inj q
    exact fun v rv => hA3.now s3.ok v rv
def Walks (G : Gx) (J : It) (H : Hp) (W : Wd) (src : Src) : Prop :=
 ∀ (i : Nat) (H1 : Hp) (W1 : Wd), Nxt G H W H1 W1 -> (src.get W1.S i = some none -> J.stop i H1) /\ ∀ d, src.get W1.S i = some (some d) -> J.go i H1 /\ ∀ x H2, J.yld i H1 x H2 -> ∃ W2, W2.S = W1.S /\ Nxt G H1 W1 H2 W2 /\ Rep G H2 W2 d x
def tFI (G : Gx) (E : XK) (g : DI) : TI := fun σ H R => Go G E g (fun src H' W' => ∀ J, Walks G J H' W' src -> R J H') σ H
@[irreducible] def PDI (X : Cx) (E : XK) (tg iter : Expr) (g : DI) : Prop := PI X tg iter (tFI (gx X) E g)
theorem forD_cases (h : forD src g b n i δ S = some r) :
  (src.get S i = some none /\ r = .ok (.nx δ) S) \/ ∃ x m, n = m + 1 /\ src.get S i = some (some x) /\ bnd (g x δ S) (turnK b (forD src g b m (i + 1))) = some r := by
 cases n with
 | zero =>
  unfold forD at h
  split at h
  ·rename_i e
   exact .inl ⟨e, (Option.some.inj h).symm⟩
  ·cases h
 | succ n =>
  unfold forD at h
  split at h
  ·rename_i e
   exact .inl ⟨e, (Option.some.inj h).symm⟩
  ·rename_i x e
   exact .inr ⟨x, n, rfl, e, h⟩
  ·cases h
theorem pd_for {tg iter : Expr} {body : List Stmt} {gi : DI} {g : DG} (hp : PassesOwn (model X.prog X.w) X.A X.env X.xe) (hc : X.calm = true) (hi : PDI X E tg iter gi) (hg : PDG X E tg g) (hb : PDSs X E body gs)
  (hs : ∀ x, foldedSetIterable iter X.env x = pure x := by intro _; rfl) : PDS X E (.For tg iter body [] pos) (forS gi g gs) := by
 try unfold PDS at *
 try unfold PDSs at *
 try unfold PDG at *
 try unfold PDI at *
 refine PS.imp (ps_for hp hc hi hg hb hs) fun D σ H ⟨W, δ, rr, hS, hδ, hg, hA⟩ => ?_
 refine Go.thn hS hδ hg hA fun src H1 W1 s1 hδ1 q hA1 J hJ => ?_
 refine ⟨fun i m σ2 H2 => ∃ W2, Nxt (gx X) H1 W1 H2 W2 /\ ∃ δ2, RepS (gx X) H2 W2 δ2 σ2 /\ forD src g gs m i δ2 W2.S = some rr /\ qBn (gx X) E H2 W2 rr (SV (gx X) D), ⟨src.len W1.S, W1, .rfl s1.ok, δ, hδ1, q, hA1⟩, ?_⟩
 rintro i m σ2 H2 ⟨W2, s2, δ2, hδ2, hg2, hA2⟩
 obtain ⟨w1, w2⟩ := hJ i H2 W2 s2
 rcases forD_cases hg2 with ⟨e, rfl⟩ | ⟨d, m, rfl, e, hg2⟩
 ·exact .inl ⟨w1 e, hA2.now s2.ok σ2 hδ2⟩
 ·obtain ⟨wg, wy⟩ := w2 d e
  refine .inr ⟨wg, fun σ' H' => ∃ W', Nxt (gx X) H1 W1 H' W' /\ ∃ δ', RepS (gx X) H' W' δ' σ' /\ forD src g gs m (i + 1) δ' W'.S = some rr /\ qBn (gx X) E H' W' rr (SV (gx X) D), fun σ' H' h' => ⟨m, jBf m, h'⟩, fun x H3 y => ?_⟩
  obtain ⟨W3, e3, s3, rx⟩ := wy x H3 y
  rcases qAm hg2 with ⟨δ4, S4, e4, q4⟩ | ⟨c, S4, e4, q4⟩
  ·refine ⟨W3, δ2, d, .ok δ4 S4, s3.ok, hδ2.mv (s3.mv s2.ok), rx, by rw [e3]; exact e4, fun H4 W4 eS4 s4 σ4 hδ4 => ?_⟩
   refine Go.thn s4.ok hδ4 (by rw [eS4]; exact q4) ((hA2.nxt s3).nxt s4) fun f H5 W5 s5 hδ5 q5 hA5 => ?_
   have s15 := (s2.trans s3).trans (s4.trans s5)
   cases f with
   | nx δ5 => exact fun σ5 h5 => ⟨W5, s15, δ5, h5, q5, hA5⟩
   | ct δ5 => exact fun σ5 h5 => ⟨W5, s15, δ5, h5, q5, hA5⟩
   | bk δ5 =>
    obtain rfl : Rs.ok (Fl.nx δ5) W5.S = rr := Option.some.inj q5
    exact fun σ5 h5 => hA5.now s5.ok σ5 h5
   | rt d =>
    obtain rfl : Rs.ok (Fl.rt d) W5.S = rr := Option.some.inj q5
    exact fun v rv => hA5.now s5.ok v rv
  ·subst q4
   exact ⟨W3, δ2, d, .er c S4, s3.ok, hδ2.mv (s3.mv s2.ok), rx, by rw [e3]; exact e4, hA2.nxt s3⟩
theorem Src.one_some (h : (Src.one a).get S i = some o) : ∃ ds, zH S a = some ds /\ ds[i]? = o := by
 have h' : (match zH S a with | some xs => some xs[i]? | none => none) = some o := h
 cases q : zH S a with
 | none => rw [q] at h'; cases h'
 | some ds => rw [q] at h'; exact ⟨ds, rfl, Option.some.inj h'⟩
theorem walks_list (ha : a < W.S.length) : Walks G (Itl G.K (W.μ a)) H W (.one a) := fun i H1 W1 s1 => by
 refine ⟨fun h => ?_, fun d hd => ?_⟩
 ·obtain ⟨ds, e, hn⟩ := Src.one_some h
  obtain ⟨xs, ex, q, rl⟩ := s1.ok.lst (v := .ref (W1.μ a)) ⟨jAd ha s1.len, rfl⟩ e
  rw [s1.old a ha] at q
  exact ⟨xs, .inl (.inl q), by rw [<- rl.length]; exact jCf.mp hn⟩
 ·obtain ⟨ds, e, hn⟩ := Src.one_some hd
  obtain ⟨xs, ex, q, rl⟩ := s1.ok.lst (v := .ref (W1.μ a)) ⟨jAd ha s1.len, rfl⟩ e
  rw [s1.old a ha] at q
  obtain ⟨x, hx, rx⟩ := rl.get hn
  refine ⟨⟨xs, x, .inl (.inl q), hx⟩, fun y H3 hy => ?_⟩
  obtain ⟨e3, hy⟩ := hy
  subst e3
  have := hy xs (.inl (.inl q))
  rw [hx] at this
  cases this
  exact ⟨W1, rfl, .rfl s1.ok, rx⟩
theorem walks_scr (hS : StOk G H W) (q : Sc G.K H a xs) (rl : RepL G H W ds xs) : Walks G (Itl G.K a) H W (.fix ds) := fun i H1 W1 s1 => by
 have q1 : Sc G.K H1 a xs := (s1.mv hS).sc q
 have rl1 := rl.mv (s1.mv hS)
 refine ⟨fun h => ?_, fun d hd => ?_⟩
 ·have h : ds[i]? = none := Option.some.inj h
  exact ⟨xs, q1.sq, by rw [<- rl.length]; exact jCf.mp h⟩
 ·have hd : ds[i]? = some d := Option.some.inj hd
  obtain ⟨x, hx, rx⟩ := rl1.get hd
  refine ⟨⟨xs, x, q1.sq, hx⟩, fun y H3 hy => ?_⟩
  obtain ⟨e3, hy⟩ := hy
  subst e3
  have := hy xs q1.sq
  rw [hx] at this
  cases this
  exact ⟨W1, rfl, .rfl s1.ok, rx⟩
theorem pdi_list (hl : PDE X E l gl) : PDI X E tg l (itE itL gl) := by
 try unfold PDE at *
 try unfold PDI at *
 intro pins s σ H R I ⟨W, δ, rr, hS, hδ, hg, hA⟩
 refine pi_list hl pins s σ H R I (Go.thn hS hδ hg hA fun d H1 W1 s1 hδ1 hg1 hA1 v rv => ?_)
 cases d with
 | ref a =>
  have hg1 : (match zH W1.S a with | some _ => ok (.one a) W1.S | none => none) = some rr := hg1
  cases q : zH W1.S a with
  | none => rw [q] at hg1; cases hg1
  | some ds =>
   rw [q] at hg1
   obtain rfl : Rs.ok (Src.one a) W1.S = rr := Option.some.inj hg1
   obtain ⟨xs, ex, qx, rl⟩ := s1.ok.lst rv q
   exact ⟨W1.μ a, ex, ⟨xs, .inl (.inl qx)⟩, hA1.now s1.ok _ (walks_list rv.1)⟩
 | scr ds =>
  obtain rfl : Rs.ok (Src.fix ds) W1.S = rr := Option.some.inj hg1
  obtain ⟨a, xs, e, q, rl⟩ := rv
  exact ⟨a, e, ⟨xs, q.sq⟩, hA1.now s1.ok _ (walks_scr s1.ok q rl)⟩
 | _ => cases hg1
theorem intsD_get : ∀ (n : Nat) (lo : Int) (i : Nat) (d : D), (qB2 lo n)[i]? = some d -> i < n /\ d = .int (lo + i)
 | 0, _, _, _, h => by simp [qB2] at h
 | n + 1, lo, 0, d, h => by
  simp [qB2] at h
  exact ⟨Nat.succ_pos n, by rw [<- h]; simp⟩
 | n + 1, lo, i + 1, d, h => by
  simp only [qB2, jCg] at h
  obtain ⟨h1, h2⟩ := intsD_get n (lo + 1) i d h
  refine ⟨Nat.succ_lt_succ h1, ?_⟩
  rw [h2]
  congr 1
  omega
theorem qDm : ∀ (n : Nat) (lo : Int), (qB2 lo n).length = n
 | 0, _ => rfl
 | n + 1, lo => by simp [qB2, qDm n]
theorem qE0 (lo : Int) (n : Nat) : Walks G (Itr lo n) H W (.fix (qB2 lo n)) := fun i H1 W1 s1 =>
 ⟨fun h => by
  have h : (qB2 lo n)[i]? = none := Option.some.inj h
  have := jCf.mp h
  rw [qDm] at this
  exact this, fun d hd => by
  obtain ⟨h1, h2⟩ := intsD_get n lo i d (Option.some.inj hd)
  refine ⟨h1, fun x H2 hy => ?_⟩
  obtain ⟨e, hx⟩ := hy
  subst e
  subst h2
  exact ⟨W1, rfl, .rfl s1.ok, hx⟩⟩
theorem pdi_range1 (hg : Gl X "range") (hm : X.mg "range" = none) (ha : PDE X E a ga) (hs : starEach [a] X.env = [(false, eval a X.env)] := by rfl) (hst : starEach (a :: []) X.env = (false, eval a X.env) :: starEach [] X.env := by rfl) :
  PDI X E tg (.Call (.Name "range" p) [a] [] pos) (itA qC9 (yF ga aNil)) := by
 try unfold PDI at *
 intro pins s σ H R I ⟨W, δ, rr, hS, hδ, hg', hA⟩
 refine pi_range1 hg hm (zB ha zE hst).o hs pins s σ H R I (Go.thn hS hδ hg' hA fun ds H1 W1 s1 hδ1 hg1 hA1 vs rv => ?_)
 have hlim := lim_eq
 unfold qC9 at hg1
 split at hg1
 ·rename_i n
  split at hg1
  ·obtain ⟨v, r, e, q, t⟩ := rv
   have q : v = .int n := q
   have t : r = [] := t
   subst e q t
   obtain rfl : Rs.ok (Src.fix (qB2 0 n.toNat)) W1.S = rr := Option.some.inj hg1
   exact ⟨n, rfl, by omega, by omega, hA1.now s1.ok _ (qE0 0 n.toNat)⟩
  ·cases hg1
 ·cases hg1
theorem pdi_range2 (hg : Gl X "range") (hm : X.mg "range" = none) (ha : PDE X E a ga) (hb : PDE X E b gb) (hs : starEach [a, b] X.env = [(false, eval a X.env), (false, eval b X.env)] := by rfl) (hs2 : starEach [b] X.env = [(false, eval b X.env)] := by rfl)
  (hst : starEach (a :: [b]) X.env = (false, eval a X.env) :: starEach [b] X.env := by rfl) (hst2 : starEach (b :: []) X.env = (false, eval b X.env) :: starEach [] X.env := by rfl) :
  PDI X E tg (.Call (.Name "range" p) [a, b] [] pos) (itA rng2D (yF ga (yF gb aNil))) := by
 try unfold PDI at *
 intro pins s σ H R I ⟨W, δ, rr, hS, hδ, hg', hA⟩
 refine pi_range2 hg hm (zB ha (zB hb zE hst2) hst).o hs hs2 pins s σ H R I (Go.thn hS hδ hg' hA fun ds H1 W1 s1 hδ1 hg1 hA1 vs rv => ?_)
 have hlim := lim_eq
 unfold rng2D at hg1
 split at hg1
 ·rename_i i j
  split at hg1
  ·rename_i hb
   obtain ⟨v, r, e, q, t⟩ := rv
   obtain ⟨v2, r2, e2, q2, t2⟩ := t
   have q : v = .int i := q
   have q2 : v2 = .int j := q2
   have t2 : r2 = [] := t2
   subst e e2 q q2 t2
   obtain rfl : Rs.ok (Src.fix (qB2 i (j - i).toNat)) W1.S = rr := Option.some.inj hg1
   exact ⟨i, j, rfl, ⟨by omega, by omega, by omega, by omega⟩, hA1.now s1.ok _ (qE0 i _)⟩
  ·cases hg1
 ·cases hg1
end
mutual
def Bd (n : Nat) : D -> Prop
 | .ref i => i < n
 | .tup ds => BdL n ds
 | .scr ds => BdL n ds
 | _ => True
def BdL (n : Nat) : List D -> Prop
 | [] => True
 | d :: ds => Bd n d /\ BdL n ds
end
mutual
def mapD (ρ : Nat -> Nat) : D -> D
 | .ref i => .ref (ρ i)
 | .tup ds => .tup (mapL ρ ds)
 | .scr ds => .scr (mapL ρ ds)
 | .non => .non
 | .bl b => .bl b
 | .int i => .int i
 | .str x => .str x
 | .exc c => .exc c
def mapL (ρ : Nat -> Nat) : List D -> List D
 | [] => []
 | d :: ds => mapD ρ d :: mapL ρ ds
end
def BdO (n : Nat) : O -> Prop
 | .lst ds => BdL n ds
 | .dct kvs => kvs = []
 | .ins _ fs => BdL n (fs.map (·.2))
def mapO (ρ : Nat -> Nat) : O -> O
 | .lst ds => .lst (mapL ρ ds)
 | .dct kvs => .dct kvs
 | .ins c fs => .ins c (fs.map fun p => (p.1, mapD ρ p.2))
mutual
theorem Rep.bd : ∀ {d : D} {v : V}, Rep G H W d v -> Bd W.S.length d
 | .ref i, _, h => h.1
 | .tup ds, _, h => by obtain ⟨a, xs, _, _, r⟩ := h; exact RepL.bd r
 | .scr ds, _, h => by obtain ⟨a, xs, _, _, r⟩ := h; exact RepL.bd r
 | .non, _, _ => trivial
 | .bl _, _, _ => trivial
 | .int _, _, _ => trivial
 | .str _, _, _ => trivial
 | .exc _, _, _ => trivial
theorem RepL.bd : ∀ {ds : List D} {vs : List V}, RepL G H W ds vs -> BdL W.S.length ds
 | [], _, _ => trivial
 | d :: ds, _, h => by obtain ⟨v, r, _, q, t⟩ := h; exact ⟨Rep.bd q, RepL.bd t⟩
end
theorem RepO.bd (h : RepO G H W a o) : BdO W.S.length o := by
 cases o with
 | lst ds => obtain ⟨xs, _, r⟩ := h; exact r.bd
 | dct kvs => exact h.1
 | ins c fs => obtain ⟨_, _, _, _, _, _, r⟩ := h; exact r.bd
mutual
theorem Rep.back (ρ : Nat -> Nat) : ∀ {d : D} {v : V}, Bd S'.length d -> Rep G H W (mapD ρ d) v -> Rep G H ⟨fun i => W.μ (ρ i), S'⟩ d v
 | .ref i, _, b, h => ⟨b, h.2⟩
 | .tup ds, _, b, h => by obtain ⟨a, xs, e, q, r⟩ := h; exact ⟨a, xs, e, q, RepL.back ρ b r⟩
 | .scr ds, _, b, h => by obtain ⟨a, xs, e, q, r⟩ := h; exact ⟨a, xs, e, q, RepL.back ρ b r⟩
 | .non, _, _, h => h
 | .bl _, _, _, h => h
 | .int _, _, _, h => h
 | .str _, _, _, h => h
 | .exc _, _, _, h => h
theorem RepL.back (ρ : Nat -> Nat) : ∀ {ds : List D} {vs : List V}, BdL S'.length ds -> RepL G H W (mapL ρ ds) vs -> RepL G H ⟨fun i => W.μ (ρ i), S'⟩ ds vs
 | [], _, _, h => h
 | d :: ds, _, b, h => by obtain ⟨v, r, e, q, t⟩ := h; exact ⟨v, r, e, Rep.back ρ b.1 q, RepL.back ρ b.2 t⟩
end
theorem mapL_map (ρ : Nat -> Nat) : ∀ ds : List D, mapL ρ ds = ds.map (mapD ρ)
 | [] => by simp [mapL]
 | d :: ds => by simp [mapL, mapL_map ρ ds]
theorem RepO.back (ρ : Nat -> Nat) (b : BdO S'.length o) (h : RepO G H W a (mapO ρ o)) : RepO G H ⟨fun i => W.μ (ρ i), S'⟩ a o := by
 cases o with
 | lst ds => obtain ⟨xs, e, r⟩ := h; exact ⟨xs, e, r.back ρ b⟩
 | dct kvs => exact h
 | ins c fs =>
  obtain ⟨C, dx, ps, m, e, n, r⟩ := h
  refine ⟨C, dx, ps, m, e, by rw [n, jCh]; rfl, RepL.back ρ b ?_⟩
  rw [mapL_map]
  rw [jCh] at r ⊢
  exact r
structure Emb (n : Nat) (ρ : Nat -> Nat) (S' S1 : Sto) : Prop where
 len : n <= S'.length
 fix : ∀ i, i < n -> ρ i = i
 inj : ∀ i j, i < S'.length -> j < S'.length -> ρ i = ρ j -> i = j
 get : ∀ i o, S'[i]? = some o -> S1[ρ i]? = some (mapO ρ o) /\ BdO S'.length o
def Em (n : Nat) : Rs D -> Rs D -> Prop
 | .ok d S', .ok d1 S1 => ∃ ρ, Emb n ρ S' S1 /\ Bd S'.length d /\ d1 = mapD ρ d
 | .er c S', .er c1 S1 => c1 = c /\ ∃ ρ, Emb n ρ S' S1
 | _, _ => False
theorem Emb.nxt (e : Emb W.S.length ρ S' W1.S) (s : Nxt G H W H1 W1) : Nxt G H W H1 ⟨fun i => W1.μ (ρ i), S'⟩ := by
 have hlt : ∀ i, i < S'.length -> ρ i < W1.S.length := fun i hi => by
  have := (e.get i S'[i] (by simp [hi])).1
  exact (jAr.mp this).1
 refine ⟨⟨fun i j hi hj h => e.inj i j hi hj (s.ok.inj _ _ (hlt i hi) (hlt j hj) h), fun i o h => ?_⟩, e.len, fun i hi => ?_, fun i h1 h2 => ?_, s.frm⟩
 ·obtain ⟨g1, g2⟩ := e.get i o h
  exact (s.ok.get _ _ g1).back ρ g2
 ·show W1.μ (ρ i) = _
  rw [e.fix i hi]
  exact s.old i hi
 ·show H (W1.μ (ρ i)) = none
  refine s.new _ ?_ (hlt i h2)
  by_cases hz : ρ i < W.S.length
  ·have h3 := e.fix _ hz
   have := e.inj (ρ i) i (jAd hz e.len) h2 h3
   omega
  ·exact jCd hz
def Wf (S : Sto) (ds : List D) : Prop := (∀ (i : Nat) (o : O), S[i]? = some o -> BdO S.length o) /\ BdL S.length ds
structure FunG (K : PySem.W.Frag) (x qual : Str) (st : Stmt) (f : Addr) (fd : FuncData) : Prop where
 ex : ∃ (dV oc : Value) (od : Option Addr) (kV doc pm : Value) (an : Option Addr) (cdv ct : Value) (osl : Array (Option Value)),
  fd = jBy x qual (zI st) (zG st) (zC st) dV kV doc pm an cdv ct /\ K.lookup f = some ⟨oc, od, .func fd, osl⟩ /\ jBz K cdv qual = true
theorem FunG.ok {P : Program} {w : World} {K : PySem.W.Frag} {mg : Str -> Option Value} {base : Heap} {x qual : Str} {st : Stmt} {f : Addr} {fd : FuncData} {N ps : List Str} {k : Nat} {sp : Sp} (F : FunG K x qual st f fd) (S : zN N ps (zC st)) (len : ∀ vs H Q E, sp vs H Q E -> vs.length = ps.length)
  (hbody : ∀ (cdv : Value) (A : Around) (outer : List Env) (s : Shared) (H : Hp) (vs : List V) (Q : VK) (E : XK), Room k (A.deeper (envOfC qual (zC st) s.heap.objs.size f cdv)) -> sp vs H Q E ->
   ∃ t, PSs (cxOf CX0 P w K mg base N qual (zC st) f cdv A outer s H E).nox (zG st) t /\ t { nx := fun _ H' => Q .non H', rt := Q } (start N vs) H) : FnOk P w K mg base CX0 (k + 1) f fd ps sp := by
 obtain ⟨dV, oc, od, kV, doc, pm, an, cdv, ct, osl, rfl, lk, hcd⟩ := F.ex
 refine fn_of lk hcd S len fun A outer s H vs Q E hr hsp => ?_
 obtain ⟨t, h, q⟩ := hbody cdv A outer s H vs Q E hr hsp
 exact ⟨t, h.nox, q⟩
theorem _root_.L2.Fun.g {K : PySem.W.Frag} {x qual : Str} {st : Stmt} {f : Addr} {fd : FuncData} (F : Fun K x qual st f fd) : FunG K x qual st f fd :=
 ⟨let ⟨oc, od, kV, doc, pm, an, cdv, ct, osl, h1, h2, h3⟩ := F.ex; ⟨.none, oc, od, kV, doc, pm, an, cdv, ct, osl, h1, h2, h3⟩⟩
structure FunD (K : PySem.W.Frag) (x qual : Str) (st : Stmt) (f : Addr) (fd : FuncData) (T : Addr) (items : Array Value) : Prop where
 ex : ∃ (oc : Value) (od : Option Addr) (kV doc pm : Value) (an : Option Addr) (cdv ct : Value) (osl : Array (Option Value)),
  fd = jBy x qual (zI st) (zG st) (zC st) (.ref T) kV doc pm an cdv ct /\ K.lookup f = some ⟨oc, od, .func fd, osl⟩ /\ jBz K cdv qual = true
 tup : ∃ o n, K.lookup T = some o /\ o.data = .seq items n
theorem FunD.g {K : PySem.W.Frag} {x qual : Str} {st : Stmt} {f : Addr} {fd : FuncData} {T : Addr} {items : Array Value} (F : FunD K x qual st f fd T items) : FunG K x qual st f fd :=
 ⟨let ⟨oc, od, kV, doc, pm, an, cdv, ct, osl, h1, h2, h3⟩ := F.ex; ⟨.ref T, oc, od, kV, doc, pm, an, cdv, ct, osl, h1, h2, h3⟩⟩
theorem funD_mk {K : PySem.W.Frag} {x qual : Str} {st : Stmt} {f T : Addr} {oc : Value} {od an : Option Addr} {osl : Array (Option Value)} {kV doc pm cdv ct : Value} {items : Array Value} {o : Obj} {n : Nat} (l : K.lookup f = some ⟨oc, od, .func (jBy x qual (zI st) (zG st) (zC st) (.ref T) kV doc pm an cdv ct), osl⟩)
  (c : jBz K cdv qual = true) (lT : K.lookup T = some o) (hT : o.data = .seq items n) : FunD K x qual st f (jBy x qual (zI st) (zG st) (zC st) (.ref T) kV doc pm an cdv ct) T items := ⟨⟨oc, od, kV, doc, pm, an, cdv, ct, osl, rfl, l, c⟩, ⟨o, n, lT, hT⟩⟩
theorem FunD.bindsTo {K : PySem.W.Frag} {x qual : Str} {st : Stmt} {f : Addr} {fd : FuncData} {T : Addr} {items : Array Value} (F : FunD K x qual st f fd T items) {s : Shared} {args : Args} {binds : List (Str × Value)} (KX : K.In s.heap)
  (h : ∀ (kV doc pm : Value) (an : Option Addr) (cdv ct : Value), ∃ k : Option (Array Value) -> Sem (List (Str × Value)), bindArgs (jBy x qual (zI st) (zG st) (zC st) (.ref T) kV doc pm an cdv ct) args = seqItems? (.ref T) >>= k /\ k (some items) = pure binds) : BindsTo s fd args binds := by
 obtain ⟨oc, od, kV, doc, pm, an, cdv, ct, osl, rfl, lk, hcd⟩ := F.ex
 obtain ⟨o, n, lT, hT⟩ := F.tup
 obtain ⟨k, h1, h2⟩ := h kV doc pm an cdv ct
 exact BindsTo.of_defaults rfl (KX _ _ lT) hT h1 h2
theorem fn_den {P : Program} {w : World} {K : PySem.W.Frag} {mg : Str -> Option Value} {base : Heap} {x qual : Str} {st : Stmt} {fa : Addr} {fd : FuncData} {N ps : List Str} {k : Nat} {f : List D -> Sto -> R D} {g : DSt} (F : FunG K x qual st fa fd) (S : zN N ps (zC st))
  (hlen : ∀ ds S rr, f ds S = some rr -> ds.length = ps.length)
  (hg : ∀ ds S r, Wf S ds -> f ds S = some r -> ∃ r1, outF (g (startD N.length ds) S) = some r1 /\ (r1 = r \/ Em S.length r r1)) (hno : ∀ ds S c S', f ds S ≠ er c S')
  (hbody : ∀ (cdv : Value) (A : Around) (outer : List Env) (s : Shared) (H : Hp), Room k (A.deeper (envOfC qual (zC st) s.heap.objs.size fa cdv)) ->
   PDSs (cxOf CX0 P w K mg base N qual (zC st) fa cdv A outer s H E0).nox E0 (zG st) g) : FnOk P w K mg base CX0 (k + 1) fa fd ps (spF ⟨K, mg⟩ f) := by
 try unfold PDSs at *
 refine F.ok S (fun vs H Q E h => ?_) (fun cdv A outer s H vs Q E hr h => ?_)
 ·obtain ⟨W, ds, rr, _, rl, e, _⟩ := h
  rw [<- rl.length]
  exact hlen ds _ rr e
 ·obtain ⟨W, ds, rr, hS, rl, e, hA⟩ := h
  refine ⟨_, hbody cdv A outer s H hr, ?_⟩
  cases rr with
  | er c S' => exact absurd e (hno ds _ c S')
  | ok d S' =>
   obtain ⟨r1, q, hem⟩ := hg ds W.S _ ⟨fun i o h => (hS.get i o h).bd, rl.bd⟩ e
   have fin : ∀ d1 S1, r1 = .ok d1 S1 -> ∀ H1 W1, W1.S = S1 -> Nxt ⟨K, mg⟩ H W H1 W1 -> ∀ v, Rep ⟨K, mg⟩ H1 W1 d1 v -> Q v H1 := by
    intro d1 S1 e1 H1 W1 eS s1 v rv
    subst e1
    rcases hem with hem | hem
    ·cases hem
     exact hA H1 W1 eS s1 v rv
    ·obtain ⟨ρ, em, bd, rfl⟩ := hem
     subst eS
     exact hA H1 ⟨fun i => W1.μ (ρ i), S'⟩ rfl (em.nxt s1) v (rv.back ρ bd)
   cases z : g (startD N.length ds) W.S with
   | none => rw [z] at q; cases q
   | some r =>
    refine ⟨W, startD N.length ds, r, hS, RepS.start N rl, z, ?_⟩
    rw [z] at q
    cases r with
    | er c S1 =>
     cases q
     rcases hem with hem | hem
     ·cases hem
     ·exact hem.elim
    | ok fl S1 =>
     cases fl with
     | nx δ =>
      obtain rfl : Rs.ok D.non S1 = r1 := Option.some.inj q
      exact fun H1 W1 eS s1 σ1 hδ1 => fin _ _ rfl H1 W1 eS s1 .non rfl
     | rt d' =>
      obtain rfl : Rs.ok d' S1 = r1 := Option.some.inj q
      exact fun H1 W1 eS s1 v rv => fin _ _ rfl H1 W1 eS s1 v rv
     | bk δ => cases q
     | ct δ => cases q
theorem qBu (h : noer m = some r) : ∃ a S, m = ok a S /\ r = .ok a S := by
 cases m with
 | none => cases h
 | some m =>
  cases m with
  | ok a S => cases h; exact ⟨a, S, rfl, rfl⟩
  | er c S => cases h
theorem fn_F {P : Program} {w : World} {K : PySem.W.Frag} {mg : Str -> Option Value} {base : Heap} {x qual : Str} {st : Stmt} {fa : Addr} {fd : FuncData} {N ps : List Str} {k : Nat} {g : DSt} (F : FunG K x qual st fa fd) (S : zN N ps (zC st))
  (hbody : ∀ (cdv : Value) (A : Around) (outer : List Env) (s : Shared) (H : Hp), Room k (A.deeper (envOfC qual (zC st) s.heap.objs.size fa cdv)) ->
   PDSs (cxOf CX0 P w K mg base N qual (zC st) fa cdv A outer s H E0).nox E0 (zG st) g) : FnOk P w K mg base CX0 (k + 1) fa fd ps (spF ⟨K, mg⟩ (fnF N.length ps.length g)) := by
 refine fn_den (g := g) F S (fun ds S rr e => ?_) (fun ds S r _ e => ?_) (fun ds S c S' e => ?_) hbody
 ·unfold fnF at e
  split at e
  ·assumption
  ·cases e
 ·unfold fnF at e
  split at e
  ·obtain ⟨a, S1, e1, e2⟩ := qBu e
   exact ⟨_, e1, .inl e2.symm⟩
  ·cases e
 ·unfold fnF at e
  split at e
  ·obtain ⟨a, S1, e1, e2⟩ := qBu e
   cases e2
  ·cases e
theorem fn_N {P : Program} {w : World} {K : PySem.W.Frag} {mg : Str -> Option Value} {base : Heap} {x qual : Str} {st : Stmt} {fa : Addr} {fd : FuncData} {N ps : List Str} {k : Nat} (n m : Nat) (g : DSt) {f : List D -> Sto -> R D} (hf : f = fnF n m g) (F : FunG K x qual st fa fd) (S : zN N ps (zC st)) (hn : N.length = n) (hm : ps.length = m)
  (hbody : ∀ (cdv : Value) (A : Around) (outer : List Env) (s : Shared) (H : Hp), Room k (A.deeper (envOfC qual (zC st) s.heap.objs.size fa cdv)) ->
   PDSs (cxOf CX0 P w K mg base N qual (zC st) fa cdv A outer s H E0).nox E0 (zG st) g) : FnOk P w K mg base CX0 (k + 1) fa fd ps (spF ⟨K, mg⟩ f) := by
 subst hf hn hm
 exact fn_F F S hbody
end Np
end
section
namespace Np
open PySem PySem.Spec PyProof.Rows L2
section
variable {X : Cx} {E : XK} {G : Gx}
theorem opD_int {C : Int -> Int -> Prop} {g : Int -> Int -> Int} {f : D -> D -> Sto -> R D} (hf : ∀ dx dy S rr, f dx dy S = some rr -> ∃ i j, dx = .int i /\ dy = .int j /\ C i j /\ rr = .ok (.int (g i j)) S) : OpD G (rI C fun i j => .int (g i j)) f := by
 intro E H W x y dx dy Q rr hS rx ry e hA
 obtain ⟨i, j, rfl, rfl, c, rfl⟩ := hf dx dy _ rr e
 exact ⟨i, j, rx, ry, c, hA.now hS _ rfl⟩
theorem qFo {g : Int -> Int -> Bool} {f : D -> D -> Sto -> R D} (hf : ∀ dx dy S rr, f dx dy S = some rr -> ∃ i j, dx = .int i /\ dy = .int j /\ rr = .ok (.bl (g i j)) S) : OpD G (rI0 fun i j => .bl (g i j)) f := by
 intro E H W x y dx dy Q rr hS rx ry e hA
 obtain ⟨i, j, rfl, rfl, rfl⟩ := hf dx dy _ rr e
 exact ⟨i, j, rx, ry, hA.now hS _ rfl⟩
def rAddD : R2 := fun x y H Q => rI0 (fun i j => .int (i + j)) x y H Q \/ (∃ i j, x = .str i /\ y = .str j /\ i.length + j.length <= sizeLine /\ Q (.str (i ++ j)) H) \/ rCat x y H Q
theorem op_addX : OpR X (binaryOp .Add) rAddD := OpR.or op_add (OpR.or op_add_str op_cat)
theorem od_add : OpD G rAddD addD := by
 intro E H W x y dx dy Q rr hS rx ry e hA
 unfold addD at e
 split at e
 ·rename_i i j
  obtain rfl : Rs.ok (D.int (i + j)) W.S = rr := Option.some.inj e
  exact .inl ⟨i, j, rx, ry, hA.now hS _ rfl⟩
 ·rename_i i j
  split at e
  ·rename_i hl
   obtain rfl : Rs.ok (D.str (i ++ j)) W.S = rr := Option.some.inj e
   exact .inr (.inl ⟨i, j, rx, ry, sz hl, hA.now hS _ rfl⟩)
  ·cases e
 ·rename_i a b
  unfold catD at e
  split at e
  ·rename_i xs ys hx hy
   split at e
   ·rename_i hl
    obtain ⟨us, ea, qa, ra⟩ := hS.lst rx hx
    obtain ⟨ws, eb, qb, rb⟩ := hS.lst ry hy
    exact .inr (.inr ⟨_, _, us, ws, ea, eb, .inl qa, .inl qb, by rw [<- ra.length, <- rb.length]; exact sz hl, fun p hp => qBq hS e hA (ra.append rb) hp⟩)
   ·cases e
  ·cases e
 ·cases e
theorem od_sub : OpD G (rI0 fun i j => .int (i - j)) subD := by
 intro E H W x y dx dy Q rr hS rx ry e hA
 unfold subD at e
 split at e
 ·rename_i i j
  obtain rfl : Rs.ok (D.int (i - j)) W.S = rr := Option.some.inj e
  exact ⟨i, j, rx, ry, hA.now hS _ rfl⟩
 ·cases e
def CBits (i j : Int) : Prop := i.natAbs.log2 + j.natAbs.log2 <= 100000000
theorem CBits.ok (h : CBits i j) : IntMulOk i j := by
 have hb : ∀ k : Int, Builtin.Int.intBits k <= k.natAbs.log2 + 1 := fun k => by
  unfold Builtin.Int.intBits
  split <;> omega
 refine PyProof.Rows.mulOk_of_bits (m := i.natAbs.log2 + 1) (n := j.natAbs.log2 + 1) (hb i) (hb j) ?_
 have h' : i.natAbs.log2 + j.natAbs.log2 <= 100000000 := h
 omega
theorem op_mulB : OpR X (binaryOp .Mult) (rI CBits fun i j => .int (i * j)) := opI fun _ _ _ _ _ _ _ hc q => mul_int q hc.ok
def rMulD : R2 := fun x y H Q => rI CBits (fun i j => .int (i * j)) x y H Q \/ rRep x y H Q
theorem op_mulX : OpR X (binaryOp .Mult) rMulD := OpR.or op_mulB op_rep
theorem RepL.rep (h : RepL G H W ds vs) : ∀ k : Nat, RepL G H W (jBm k ds).flatten (jBm k vs).flatten
 | 0 => rfl
 | k + 1 => by
  rw [jB3, jB3, jB4, jB4]
  exact h.append (RepL.rep h k)
theorem od_mul : OpD G rMulD mulD := by
 intro E H W x y dx dy Q rr hS rx ry e hA
 unfold mulD at e
 split at e
 ·rename_i i j
  split at e
  ·rename_i hl
   obtain rfl : Rs.ok (D.int (i * j)) W.S = rr := Option.some.inj e
   exact .inl ⟨i, j, rx, ry, hl, hA.now hS _ rfl⟩
  ·cases e
 ·rename_i a k
  unfold repD at e
  split at e
  ·rename_i xs hx
   split at e
   ·rename_i hl
    obtain ⟨hl, h1, h2⟩ := hl
    obtain ⟨us, ea, qa, ra⟩ := hS.lst rx hx
    exact .inr ⟨_, k, us, ea, ry, .inl qa, by omega, by omega, by rw [<- ra.length]; exact sz hl, fun p hp => qBq hS e hA (ra.rep k.toNat) hp⟩
   ·cases e
  ·cases e
 ·cases e
theorem qD7 (I : Inv X pins σ H s) (hr : Room k X.A) (ht : X.prog.given.tree = none) (hst : X.stack = X.env :: X.outer) (hgen : X.env.scope.isGenerator = false) (hco : X.env.scope.isCoroutine = false) :
  PySem.PylongRoom (model X.prog X.w) X.A s := by
 refine PySem.PylongRoom.of (I.mod.nolimit.keeps I.bk) ?_ (PySem.SeerAt.of (I.mod.seer.keeps I.bk) ht (by rw [I.ok.frames, hst]) hgen hco I.ok.blt I.ok.glob)
 have := hr.dp
 show X.A.depth + 100 < recursionLimit
 omega
theorem op_fdivX (hr : Room k X.A) (ht : X.prog.given.tree = none) (hst : X.stack = X.env :: X.outer) (hgen : X.env.scope.isGenerator = false) (hco : X.env.scope.isCoroutine = false) : OpR X (binaryOp .FloorDiv) (rI (fun _ j => j ≠ 0) fun i j => .int (i.fdiv j)) := by
 intro pins s σ H x y v u Q I rx ry h
 obtain ⟨i, j, rfl, rfl, hc, q⟩ := h
 obtain ⟨t, rfl⟩ := rx
 obtain ⟨t', rfl⟩ := ry
 exact floordiv_int hc ⟨.int _, H, I.tok _, ⟨_, rfl⟩, q⟩ (.inr (qD7 I hr ht hst hgen hco))
theorem od_fdiv : OpD G (rI (fun _ j => j ≠ 0) fun i j => .int (i.fdiv j)) qCm := opD_int fun dx dy S rr e => by
 unfold qCm at e
 split at e
 ·rename_i i j
  split at e
  ·cases e
  ·rename_i h
   exact ⟨i, j, rfl, rfl, h, (Option.some.inj e).symm⟩
 ·cases e
theorem od_mod : OpD G (rI (fun _ j => j ≠ 0) fun i j => .int (i.fmod j)) modD := opD_int fun dx dy S rr e => by
 unfold modD at e
 split at e
 ·rename_i i j
  split at e
  ·cases e
  ·rename_i h
   exact ⟨i, j, rfl, rfl, h, (Option.some.inj e).symm⟩
 ·cases e
theorem ud_neg : UnD G (rU fun i => .int (-i)) negD := by
 intro E H W x dx Q rr hS rx e hA
 unfold negD at e
 split at e
 ·rename_i i
  obtain rfl : Rs.ok (D.int (-i)) W.S = rr := Option.some.inj e
  exact ⟨i, rx, hA.now hS _ rfl⟩
 ·cases e
theorem cd_abs : qEz G (fun xs H Q => ∃ i, xs = [.int i] /\ Q (.int (if i < 0 then -i else i)) H) absD := by
 intro E H W vs ds Q rr hS rl e hA
 unfold absD at e
 split at e
 ·rename_i i
  obtain rfl : Rs.ok (D.int (if i < 0 then -i else i)) W.S = rr := Option.some.inj e
  obtain ⟨v, r, rfl, q, t⟩ := rl
  have q : v = .int i := q
  have t : r = [] := t
  subst q t
  exact ⟨i, rfl, hA.now hS _ rfl⟩
 ·cases e
mutual
def toPy : T -> PyData
 | .non => .none
 | .bl b => .bool b
 | .int i => .int i
 | .str x => .str x
 | .tup ds => .tuple (qBt ds)
 | .lst ds => .list (qBt ds)
def qBt : List T -> List PyData
 | [] => []
 | d :: ds => toPy d :: qBt ds
end
mutual
theorem eqT_py : ∀ (d e : T), PyData.eqv (toPy d) (toPy e) = eqT d e
 | .non, e => by cases e <;> simp [toPy, PyData.eqv, eqT]
 | .bl _, e => by cases e <;> simp [toPy, PyData.eqv, eqT]
 | .int _, e => by cases e <;> simp [toPy, PyData.eqv, eqT]
 | .str _, e => by cases e <;> simp [toPy, PyData.eqv, eqT]
 | .tup ds, e => by
  cases e with
  | tup es => simp only [toPy, PyData.eqv, eqT]; exact eqTs_py ds es
  | _ => simp [toPy, PyData.eqv, eqT]
 | .lst ds, e => by
  cases e with
  | lst es => simp only [toPy, PyData.eqv, eqT]; exact eqTs_py ds es
  | _ => simp [toPy, PyData.eqv, eqT]
theorem eqTs_py : ∀ (ds es : List T), PyData.eqvAll (qBt ds) (qBt es) = eqTs ds es
 | [], [] => by simp [qBt, PyData.eqvAll, eqTs]
 | [], _ :: _ => by simp [qBt, PyData.eqvAll, eqTs]
 | _ :: _, [] => by simp [qBt, PyData.eqvAll, eqTs]
 | d :: ds, e :: es => by simp only [qBt, PyData.eqvAll, eqTs, eqT_py d e, eqTs_py ds es]
end
def Seen (s : Shared) (n : Nat) (t : T) (u : Value) : Prop := (toPy t).canLay0 = true /\ (toPy t).depth <= n /\ ∃ as, Reads s.heap u (toPy t) as
def Seens (s : Shared) (n : Nat) (ts : List T) (us : List Value) : Prop := PyData.canLayAll0 (qBt ts) = true /\ PyData.depthAll (qBt ts) <= n /\ ∃ as, ReadsAll s.heap us (qBt ts) as
theorem seens (I : Inv X pins σ H s) (ih : ∀ {d : D} {v : V} {u : Value} {t : T}, rd n S d = some t -> Rep (gx X) H W d v -> RelV v u -> Seen s n t u) :
  ∀ {ds : List D} {vs : List V} {us : List Value} {ts : List T}, rdl (rd n S) ds = some ts -> RepL (gx X) H W ds vs -> Vals vs us -> Seens s n ts us
 | [], _, _, _, h, r, q => by
  cases r; cases q
  obtain rfl := Option.some.inj h
  exact ⟨by simp [qBt, PyData.canLayAll0], by simp [qBt, PyData.depthAll], _, ReadsAll.nil⟩
 | d :: ds, _, _, _, h, r, q => by
  obtain ⟨v, vs, rfl, rd1, rl⟩ := r
  cases q with
  | cons q1 q2 =>
   unfold rdl at h
   split at h
   ·rename_i t ts h1 h2
    obtain rfl := Option.some.inj h
    obtain ⟨a1, a2, as, a3⟩ := ih h1 rd1 q1
    obtain ⟨b1, b2, bs, b3⟩ := seens I ih h2 rl q2
    refine ⟨?_, ?_, _, ReadsAll.cons a3 b3⟩
    ·simp only [qBt, PyData.canLayAll0, a1, b1, Bool.and_self]
    ·simp only [qBt, PyData.depthAll]
     omega
   ·cases h
theorem seen (I : Inv X pins σ H s) (hS : StOk (gx X) H W) : ∀ {n : Nat} {d : D} {v : V} {u : Value} {t : T}, rd n W.S d = some t -> Rep (gx X) H W d v -> RelV v u -> Seen s n t u
 | n, .non, _, _, t0, h, r, q => by
  cases r; cases q
  have h : some T.non = some t0 := by cases n <;> exact h
  obtain rfl := Option.some.inj h
  exact ⟨by simp [toPy, PyData.canLay0], by simp [toPy, PyData.depth], _, Reads.none⟩
 | n, .bl b, _, _, t0, h, r, q => by
  cases r; cases q
  have h : some (T.bl b) = some t0 := by cases n <;> exact h
  obtain rfl := Option.some.inj h
  exact ⟨by simp [toPy, PyData.canLay0], by simp [toPy, PyData.depth], _, Reads.bool b⟩
 | n, .int i, _, _, t0, h, r, q => by
  cases r
  obtain ⟨t, rfl⟩ := q
  have h : some (T.int i) = some t0 := by cases n <;> exact h
  obtain rfl := Option.some.inj h
  exact ⟨by simp [toPy, PyData.canLay0], by simp [toPy, PyData.depth], _, Reads.int i t⟩
 | n, .str i, _, _, t0, h, r, q => by
  cases r
  obtain ⟨t, rfl⟩ := q
  have h : (if i.cps.all (· < 0x110000) = true then some (T.str i) else none) = some t0 := by cases n <;> exact h
  split at h
  ·rename_i hc
   obtain rfl := Option.some.inj h
   have h' : PyData.strOk i = true := by simpa [PyData.strOk] using hc
   exact ⟨by simp [toPy, PyData.canLay0, h'], by simp [toPy, PyData.depth], _, Reads.str i t⟩
  ·cases h
 | 0, .tup _, _, _, _, h, _, _ => by cases h
 | 0, .ref _, _, _, _, h, _, _ => by cases h
 | n + 1, .tup ds, _, _, t0, h, r, q => by
  obtain ⟨a, xs, rfl, hq, rl⟩ := r
  cases q
  obtain ⟨its, rv, ⟨o, ho, hc, k, hd⟩, hz⟩ := I.tuple hq
  have h : (rdl (rd n W.S) ds).map T.tup = some t0 := h
  cases hts : rdl (rd n W.S) ds with
  | none => rw [hts] at h; cases h
  | some ts =>
   rw [hts] at h
   obtain rfl := Option.some.inj h
   obtain ⟨b1, b2, as, b3⟩ := seens I (fun h r q => seen I hS h r q) hts rl rv
   refine ⟨?_, ?_, _, reads_tuple_at ho hc hd (by simpa using b3)⟩
   ·simp only [toPy, PyData.canLay0, b1]
   ·simp only [toPy, PyData.depth]
    omega
 | n + 1, .ref i, _, _, t0, h, r, q => by
  have h : (match zH W.S i with | some ds => (rdl (rd n W.S) ds).map T.lst | none => none) = some t0 := h
  cases hl : zH W.S i with
  | none => rw [hl] at h; cases h
  | some ds =>
   rw [hl] at h
   have h : (rdl (rd n W.S) ds).map T.lst = some t0 := h
   obtain ⟨xs, ex, hq, rl⟩ := hS.lst r hl
   subst ex
   cases q
   obtain ⟨z, its, k, rv, hl', e⟩ := I.lstM hq
   cases hts : rdl (rd n W.S) ds with
   | none => rw [hts] at h; cases h
   | some ts =>
    rw [hts] at h
    obtain rfl := Option.some.inj h
    obtain ⟨b1, b2, as, b3⟩ := seens I (fun h r q => seen I hS h r q) hts rl rv
    refine ⟨?_, ?_, _, reads_list_at e rfl rfl (by simpa using b3)⟩
    ·simp only [toPy, PyData.canLay0, b1]
    ·simp only [toPy, PyData.depth]
     omega
 | n, .exc _, _, _, _, h, _, _ => by cases n <;> cases h
 | n, .scr _, _, _, _, h, _, _ => by cases n <;> cases h
theorem Seen.shaped (h : Seen s 9 t u) : SeqAt.shaped (toPy t) = true := by
 unfold SeqAt.shaped
 rw [h.1, Bool.true_and]
 exact decide_eq_true (by have := h.2.1; omega)
def rEqD (G : Gx) (neg : Bool) : R2 := fun x y H Q => ∃ W d e t u, StOk G H W /\ Rep G H W d x /\ Rep G H W e y /\ rd 9 W.S d = some t /\ rd 9 W.S e = some u /\ Q (.bl (if neg = true then !eqT t u else eqT t u)) H
theorem op_eqX (hr : Room k X.A) : OpR X (compareOp .Eq) (rEqD (gx X) false) := by
 intro pins s σ H x y v u Q I rx ry h
 obtain ⟨W, d, e, t, t', hS, rd1, re, pd, pe, q⟩ := h
 have sa := seen I hS pd rd1 rx
 have sb := seen I hS pe re ry
 obtain ⟨as, ra⟩ := sa.2.2
 obtain ⟨bs, rb⟩ := sb.2.2
 refine eq_dataH ra rb sa.shaped sb.shaped hr.units ?_
 rw [eqT_py]
 exact ⟨.bl _, H, I, rfl, q⟩
theorem op_neX (hr : Room k X.A) : OpR X (compareOp .NotEq) (rEqD (gx X) true) := by
 intro pins s σ H x y v u Q I rx ry h
 obtain ⟨W, d, e, t, t', hS, rd1, re, pd, pe, q⟩ := h
 have sa := seen I hS pd rd1 rx
 have sb := seen I hS pe re ry
 obtain ⟨as, ra⟩ := sa.2.2
 obtain ⟨bs, rb⟩ := sb.2.2
 refine ne_dataH ra rb sa.shaped sb.shaped hr.units ?_
 rw [eqT_py]
 exact ⟨.bl _, H, I, rfl, q⟩
theorem od_eqK (neg : Bool) : OpD G (rEqD G neg) (fun x y S => eqK neg S (rd 9 S x) (rd 9 S y)) := by
 intro E H W x y dx dy Q rr hS rx ry e hA
 have e : eqK neg W.S (rd 9 W.S dx) (rd 9 W.S dy) = some rr := e
 cases h1 : rd 9 W.S dx with
 | none => rw [h1] at e; cases e
 | some t =>
  cases h2 : rd 9 W.S dy with
  | none => rw [h1, h2] at e; cases e
  | some u =>
   rw [h1, h2] at e
   obtain rfl : Rs.ok (D.bl (if neg = true then !eqT t u else eqT t u)) W.S = rr := Option.some.inj e
   exact ⟨W, dx, dy, t, u, hS, rx, ry, h1, h2, hA.now hS _ rfl⟩
theorem od_eq : OpD G (rEqD G false) eqD := od_eqK false
theorem od_ne : OpD G (rEqD G true) neD := od_eqK true
theorem od_lt : OpD G (rI0 fun i j => .bl (decide (i < j))) ltD := qFo fun dx dy S rr e => by
 unfold ltD at e
 split at e
 ·exact ⟨_, _, rfl, rfl, (Option.some.inj e).symm⟩
 ·cases e
theorem od_le : OpD G (rI0 fun i j => .bl (decide (i <= j))) leD := qFo fun dx dy S rr e => by
 unfold leD at e
 split at e
 ·exact ⟨_, _, rfl, rfl, (Option.some.inj e).symm⟩
 ·cases e
theorem od_gt : OpD G (rI0 fun i j => .bl (decide (j < i))) gtD := qFo fun dx dy S rr e => by
 unfold gtD at e
 split at e
 ·exact ⟨_, _, rfl, rfl, (Option.some.inj e).symm⟩
 ·cases e
theorem od_ge : OpD G (rI0 fun i j => .bl (decide (j <= i))) geD := qFo fun dx dy S rr e => by
 unfold geD at e
 split at e
 ·exact ⟨_, _, rfl, rfl, (Option.some.inj e).symm⟩
 ·cases e
theorem rep_non (r : Rep G H W d v) : decide (v = .non) = qBr d := by
 cases d with
 | non => cases r; rfl
 | bl _ => cases r; rfl
 | int _ => cases r; rfl
 | str _ => cases r; rfl
 | tup _ => obtain ⟨a, _, rfl, _⟩ := r; rfl
 | ref _ => obtain ⟨_, rfl⟩ := r; rfl
 | exc _ => obtain ⟨a, _, rfl, _⟩ := r; rfl
 | scr _ => obtain ⟨a, _, rfl, _⟩ := r; rfl
theorem od_isN : OpD G (fun x y H Q => y = .non /\ Q (.bl (decide (x = .non))) H) isND := by
 intro E H W x y dx dy Q rr hS rx ry e hA
 unfold isND at e
 split at e
 ·obtain rfl := Option.some.inj e
  exact ⟨ry, by rw [rep_non rx]; exact hA.now hS _ rfl⟩
 ·cases e
theorem od_isNN : OpD G (fun x y H Q => y = .non /\ Q (.bl (!decide (x = .non))) H) isNND := by
 intro E H W x y dx dy Q rr hS rx ry e hA
 unfold isNND at e
 split at e
 ·obtain rfl := Option.some.inj e
  exact ⟨ry, by rw [rep_non rx]; exact hA.now hS _ rfl⟩
 ·cases e
def rIxD (K : PySem.W.Frag) : R2 := fun x y H Q => rIxL K x y H Q \/ rIxT K x y H Q
theorem ix_X : IxR X (rIxD X.K) := ix_list.or ix_tup
theorem ixA_at : (ixA xs.length i).bind (fun j => xs[j]?) = atI xs i := by
 unfold atI ixA ixN
 rfl
theorem at_rep (rl : RepL G H W ds vs) (h : (ixA ds.length i).bind (fun j => ds[j]?) = some d) : ∃ v, atI vs i = some v /\ Rep G H W d v := by
 rw [<- ixA_at]
 rw [rl.length] at h
 cases z : ixA vs.length i with
 | none => rw [z] at h; cases h
 | some j =>
  rw [z] at h
  obtain ⟨v, hv, rv⟩ := rl.get (i := j) (d := d) h
  exact ⟨v, hv, rv⟩
theorem qFu (h : ixK o i S = some rr) : ∃ xs d, o = some xs /\ (ixA xs.length i).bind (fun j => xs[j]?) = some d /\ rr = .ok d S := by
 unfold ixK at h
 split at h
 ·rename_i xs
  split at h
  ·rename_i d hd
   exact ⟨xs, d, rfl, hd, (Option.some.inj h).symm⟩
  ·cases h
 ·cases h
theorem zU : OpD G (rIxD G.K) ixD := by
 intro E H W x y dx dy Q rr hS rx ry e hA
 unfold ixD at e
 split at e
 ·rename_i xs i
  obtain ⟨xs', d, e0, hd, rfl⟩ := qFu e
  cases e0
  obtain ⟨a, us, ea, qa, ra⟩ := rx
  obtain ⟨v, hv, rv⟩ := at_rep ra hd
  exact .inr ⟨a, us, i, v, ea, ry, qa, hv, hA.now hS _ rv⟩
 ·rename_i a i
  obtain ⟨xs', d, e0, hd, rfl⟩ := qFu e
  obtain ⟨us, ea, qa, ra⟩ := hS.lst rx e0
  obtain ⟨v, hv, rv⟩ := at_rep ra hd
  exact .inl ⟨_, us, i, v, ea, ry, .inl (.inl qa), hv, hA.now hS _ rv⟩
 ·rename_i xs i
  obtain ⟨xs', d, e0, hd, rfl⟩ := qFu e
  cases e0
  obtain ⟨a, us, ea, qa, ra⟩ := rx
  obtain ⟨v, hv, rv⟩ := at_rep ra hd
  exact .inl ⟨a, us, i, v, ea, ry, qa.sq, hv, hA.now hS _ rv⟩
 ·cases e
def rLenD (K : PySem.W.Frag) : List V -> Hp -> VK -> Prop := fun xs H Q => (∃ p ys, xs = [.ref p] /\ (SqL K H p ys \/ SqT K H p ys) /\ Q (.int ys.length) H) \/ ∃ z, xs = [.str z] /\ z.length <= sizeLine /\ Q (.int z.length) H
theorem call_lenX : qBy X (.builtin "len") (rLenD X.K) := qBy.or call_len_seq call_len_str
theorem cd_len : qEz G (rLenD G.K) lenD := by
 intro E H W vs ds Q rr hS rl e hA
 unfold lenD at e
 split at e
 ·rename_i xs
  obtain rfl : Rs.ok (D.int xs.length) W.S = rr := Option.some.inj e
  obtain ⟨v, r, rfl, ⟨a, us, rfl, qa, ra⟩, t⟩ := rl
  have t : r = [] := t
  subst t
  exact .inl ⟨a, us, rfl, .inl qa.sq, by rw [<- ra.length]; exact hA.now hS _ rfl⟩
 ·rename_i xs
  obtain rfl : Rs.ok (D.int xs.length) W.S = rr := Option.some.inj e
  obtain ⟨v, r, rfl, ⟨a, us, rfl, qa, ra⟩, t⟩ := rl
  have t : r = [] := t
  subst t
  exact .inl ⟨a, us, rfl, .inr qa, by rw [<- ra.length]; exact hA.now hS _ rfl⟩
 ·rename_i a
  unfold lenK at e
  split at e
  ·rename_i xs hx
   obtain rfl : Rs.ok (D.int xs.length) W.S = rr := Option.some.inj e
   obtain ⟨v, r, rfl, rx, t⟩ := rl
   obtain ⟨us, ea, qa, ra⟩ := hS.lst rx hx
   have t : r = [] := t
   subst t ea
   exact .inl ⟨_, us, rfl, .inl (.inl (.inl qa)), by rw [<- ra.length]; exact hA.now hS _ rfl⟩
  ·cases e
 ·rename_i z
  split at e
  ·rename_i hl
   obtain rfl : Rs.ok (D.int z.length) W.S = rr := Option.some.inj e
   obtain ⟨v, r, rfl, q, t⟩ := rl
   have q : v = .str z := q
   have t : r = [] := t
   subst q t
   exact .inr ⟨z, rfl, sz hl, hA.now hS _ rfl⟩
  ·cases e
 ·cases e
def kdT : Kd -> String
 | .int => "int"
 | .bool => "bool"
 | .str => "str"
 | .lst => "list"
 | .tup => "tuple"
theorem call_isi (k : Kd) : qBy X (.builtin "isinstance") (fun xs H Q => ∃ W x d b, xs = [x, .ty (kdT k)] /\ StOk (gx X) H W /\ Rep (gx X) H W d x /\ isK k d W.S = some b /\ Q (.bl b) H) := by
 intro pins s σ H xs us Q I r h
 obtain ⟨W, x, d, b, rfl, hS, rd, hb, q⟩ := h
 obtain ⟨u, w, rfl, rx, rw'⟩ := Vals.two r
 cases rw'
 have qT : ∀ tk, EP X pins σ Q (.bool b) { s with toks := tk } := fun tk => ⟨.bl b, H, I.tok tk, rfl, q⟩
 have qS : EP X pins σ Q (.bool b) s := ⟨.bl b, H, I, rfl, q⟩
 cases d with
 | non =>
  cases rd; cases rx
  cases k <;> cases hb <;> first
   | exact PySem.IsiNone.NoneType_int (qT _)
   | exact PySem.IsiNone.NoneType_bool (qT _)
   | exact PySem.IsiNone.NoneType_str (qT _)
   | exact PySem.IsiNone.NoneType_list (qT _)
   | exact PySem.IsiNone.NoneType_tuple (qT _)
   | exact PySem.IsiPair.NoneType_int (qT _)
   | exact PySem.IsiPair.NoneType_bool (qT _)
   | exact PySem.IsiPair.NoneType_str (qT _)
   | exact PySem.IsiPair.NoneType_list (qT _)
   | exact PySem.IsiPair.NoneType_tuple (qT _)
 | bl c =>
  cases rd; cases rx
  cases k <;> cases hb <;> first
   | exact PySem.IsiPair.bool_int qS
   | exact PySem.IsiPair.bool_bool qS
   | exact PySem.IsiPair.bool_str (qT _)
   | exact PySem.IsiPair.bool_list (qT _)
   | exact PySem.IsiPair.bool_tuple (qT _)
 | int i =>
  cases rd
  obtain ⟨t, rfl⟩ := rx
  cases k <;> cases hb <;> first
   | exact PySem.IsiPair.int_int qS
   | exact PySem.IsiPair.int_bool (qT _)
   | exact PySem.IsiPair.int_str (qT _)
   | exact PySem.IsiPair.int_list (qT _)
   | exact PySem.IsiPair.int_tuple (qT _)
 | str i =>
  cases rd
  obtain ⟨t, rfl⟩ := rx
  cases k <;> cases hb <;> first
   | exact PySem.IsiPair.str_int (qT _)
   | exact PySem.IsiPair.str_bool (qT _)
   | exact PySem.IsiPair.str_str qS
   | exact PySem.IsiPair.str_list (qT _)
   | exact PySem.IsiPair.str_tuple (qT _)
 | tup ds =>
  obtain ⟨a, ys, rfl, hq, rl⟩ := rd
  cases rx
  obtain ⟨its, rv, ⟨o, ho, hc, kk, hd⟩, hz⟩ := I.tuple hq
  have ty : s.TypeIs (.ref a) "tuple" := ⟨o, ho, hc⟩
  cases k <;> cases hb <;> first
   | exact call_isinstance (isinstance_true (Tx := "tuple") F.isi_meta_tuple F.sub_tuple_tuple) ⟨ty, qS⟩
   | exact call_isinstance (isinstance_true (Tx := "tuple") F.isi_meta_tuple isi_sub_tuple) ⟨ty, qS⟩
   | exact call_isinstance (isinstance_false_tuple (by decide +kernel) F.isi_meta_int F.sub_tuple_int) ⟨ty, qT _⟩
   | exact call_isinstance (isinstance_false_tuple (by decide +kernel) F.isi_meta_bool F.sub_tuple_bool) ⟨ty, qT _⟩
   | exact call_isinstance (isinstance_false_tuple (by decide +kernel) F.isi_meta_str F.sub_tuple_str) ⟨ty, qT _⟩
   | exact call_isinstance (isinstance_false_tuple (by decide +kernel) F.isi_meta_list F.sub_tuple_list) ⟨ty, qT _⟩
 | ref a =>
  have hl : (∃ ds, zH W.S a = some ds /\ b = decide (k = .lst)) \/ ∃ kvs, W.S[a]? = some (.dct kvs) /\ b = false := by
   unfold zH
   cases k <;> (simp only [isK] at hb; split at hb <;> first | (rename_i heq; cases hb; first | (refine .inl ?_; rw [heq]; exact ⟨_, rfl, by decide⟩) | exact .inr ⟨_, heq, rfl⟩) | cases hb)
  rcases hl with hl | ⟨kvs, hl, eb⟩
  rotate_left
  ·obtain ⟨_, hq⟩ := hS.get a _ hl
   have ea : x = .ref (W.μ a) := rd.2
   subst ea
   cases rx
   obtain ⟨_, _, vs, _, p⟩ := (show qBm X.prog X.w H s.heap (W.μ a) (.dK []) from I.hok _ _ hq)
   obtain ⟨o, es, ep, h1, h2, _⟩ := p
   have ty : s.TypeIs (.ref (W.μ a)) "dict" := ⟨o, h1, h2.1⟩
   subst eb
   cases k <;> first
    | exact call_isinstance (isinstance_false_dict (by decide +kernel) F.isi_meta_int F.sub_dict_int) ⟨ty, qT _⟩
    | exact call_isinstance (isinstance_false_dict (by decide +kernel) F.isi_meta_bool F.sub_dict_bool) ⟨ty, qT _⟩
    | exact call_isinstance (isinstance_false_dict (by decide +kernel) F.isi_meta_str F.sub_dict_str) ⟨ty, qT _⟩
    | exact call_isinstance (isinstance_false_dict (by decide +kernel) F.isi_meta_list F.sub_dict_list) ⟨ty, qT _⟩
    | exact call_isinstance (isinstance_false_dict (by decide +kernel) F.isi_meta_tuple F.sub_dict_tuple) ⟨ty, qT _⟩
  obtain ⟨ds, hl, eb⟩ := hl
  obtain ⟨ys, ea, hq, rl⟩ := hS.lst rd hl
  subst ea
  cases rx
  obtain ⟨z, its, kk, rv, hl, e⟩ := I.lstM hq
  have ty : s.TypeIs (.ref (W.μ a)) "list" := ⟨_, e, rfl⟩
  subst eb
  cases k <;> first
   | exact call_isinstance (isinstance_true (Tx := "list") F.isi_meta_list F.sub_list_list) ⟨ty, qS⟩
   | exact call_isinstance (isinstance_false_list (by decide +kernel) F.isi_meta_int F.sub_list_int) ⟨ty, qT _⟩
   | exact call_isinstance (isinstance_false_list (by decide +kernel) F.isi_meta_bool F.sub_list_bool) ⟨ty, qT _⟩
   | exact call_isinstance (isinstance_false_list (by decide +kernel) F.isi_meta_str F.sub_list_str) ⟨ty, qT _⟩
   | exact call_isinstance (isinstance_false_list (by decide +kernel) F.isi_meta_tuple F.sub_list_tuple) ⟨ty, qT _⟩
 | exc c => cases k <;> cases hb
 | scr _ => cases k <;> cases hb
theorem pd_isi (k : Kd) {e : Expr} {ge : DE} {p p2 pos : Pos} {T : Str} (hT : bootBuiltins T = some (.type (kdT k))) (hg : Gl X "isinstance") (hm : X.mg "isinstance" = none) (hgT : Gl X T) (hmT : X.mg T = none) (he : PDE X E e ge)
  (hv : bootBuiltins "isinstance" = some (.builtin "isinstance") := by decide +kernel) (hnT : T ≠ "__name__" := by decide +kernel) (hdT : (T == ("__debug__" : Str)) = false := by decide +kernel)
  (hst : starEach (e :: [.Name T p2]) X.env = (false, eval e X.env) :: starEach [.Name T p2] X.env := by rfl) (hst2 : starEach (.Name T p2 :: []) X.env = (false, eval (.Name T p2) X.env) :: starEach [] X.env := by rfl)
  (hpl : (backTo pos (starEach [.Name T p2] X.env)).any (·.1) = false := by rfl) :
  PDE X E (.Call (.Name "isinstance" p) [e, .Name T p2] [] pos) (op1 (isiD k) ge) := by
 try unfold PDE at *
 refine PE.imp (qDt (call_isi k) hg hm hv (qCq he (qCq (pe_bltn (v := .ty (kdT k)) hgT hmT hT rfl hnT hdT) pa_nil hst2) hst) (by decide +kernel) (by decide +kernel) hst hpl) fun σ H Q ⟨W, δ, rr, hS, hδ, hg', hA⟩ => ?_
 refine Go.thn hS hδ hg' hA fun d H1 W1 s1 hδ1 hg1 hA1 v rv => ?_
 unfold isiD at hg1
 split at hg1
 ·rename_i b hb
  obtain rfl : Rs.ok (D.bl b) W1.S = rr := Option.some.inj hg1
  exact ⟨W1, v, d, b, rfl, s1.ok, rv, hb, hA1.now s1.ok _ rfl⟩
 ·cases hg1
end
end Np
end
section
namespace Np
open PySem PySem.Spec PyProof.Rows L2
def clOf : List (Str × NameKind) -> List (Str × Addr) -> List (Str × Addr) -> List (Str × Addr)
 | [], _, cs => cs
 | (n, k) :: r, cells, cs => clOf r cells (if k = .free then (match cells.lookup n with | some c => (n, c) :: cs | none => cs) else cs)
theorem clOf_get (cells : List (Str × Addr)) : ∀ (names : List (Str × NameKind)) (cs : List (Str × Addr)) (x : Str) (c : Addr), (clOf names cells cs).lookup x = some c -> cs.lookup x = some c \/ (cells.lookup x = some c /\ (x, NameKind.free) ∈ names)
 | [], cs, x, c, h => .inl h
 | (n, k) :: r, cs, x, c, h => by
  rcases clOf_get cells r _ x c h with q | ⟨q, m⟩
  ·split at q
   ·rename_i hk
    split at q
    ·rename_i d hd
     rw [jCi] at q
     cases e : x == n with
     | true =>
      rw [e] at q
      have e' : x = n := beq_iff_eq.mp e
      subst e' hk
      cases q
      exact .inr ⟨hd, .head _⟩
     | false =>
      rw [e] at q
      exact .inl q
    ·exact .inl q
   ·exact .inl q
  ·exact .inr ⟨q, .tail _ m⟩
theorem clOf_old (cells : List (Str × Addr)) : ∀ (names : List (Str × NameKind)) (cs : List (Str × Addr)) (x : Str), (∃ c, cs.lookup x = some c) -> ∃ c, (clOf names cells cs).lookup x = some c
 | [], cs, x, h => h
 | (n, k) :: r, cs, x, h => by
  refine clOf_old cells r _ x ?_
  split
  ·split
   ·rw [jCi]
    cases x == n with
    | true => exact ⟨_, rfl⟩
    | false => exact h
   ·exact h
  ·exact h
theorem qF9 (cells : List (Str × Addr)) : ∀ (names : List (Str × NameKind)) (cs : List (Str × Addr)) (x : Str), (x, NameKind.free) ∈ names -> (∃ c, cells.lookup x = some c) -> ∃ c, (clOf names cells cs).lookup x = some c
 | (n, k) :: r, cs, x, hm, hc => by
  rcases jAo.mp hm with e | hm
  ·obtain ⟨rfl, rfl⟩ := Prod.mk.inj e
   obtain ⟨c, hc⟩ := hc
   refine clOf_old cells r _ _ ?_
   rw [if_pos rfl, hc]
   exact ⟨c, by simp [jCi]⟩
  ·exact qF9 cells r _ x hm hc
theorem qDd : ∀ (names : List (Str × NameKind)) (cs : List (Str × Addr)), (∀ y ∈ names, y.2 = .free -> ∃ c, env.cells.lookup y.1 = some c) ->
  (forIn names cs (fun (x : Str × NameKind) (r : List (Str × Addr)) => do
   if (x.2 == NameKind.free) = true then do let c <- cellOf env x.1; pure (ForInStep.yield ((x.1, c) :: r)) else pure (ForInStep.yield r)) : Sem (List (Str × Addr))) = pure (clOf names env.cells cs)
 | [], cs, _ => rfl
 | (n, k) :: r, cs, h => by
  rw [jCj]
  by_cases hk : k = .free
  ·subst hk
   obtain ⟨c, hc⟩ := h (n, .free) (.head _) rfl
   have e : cellOf env n = pure c := by unfold cellOf; rw [hc]
   have ih := qDd (env := env) r ((n, c) :: cs) fun y hy => h y (.tail _ hy)
   have e2 : clOf ((n, NameKind.free) :: r) env.cells cs = clOf r env.cells ((n, c) :: cs) := by
    show clOf r env.cells (if NameKind.free = NameKind.free then (match env.cells.lookup n with | some c => (n, c) :: cs | none => cs) else cs) = _
    rw [if_pos rfl, hc]
   rw [e2, <- ih]
   simp only [beq_self_eq_true, if_true, e, pure_bind]
  ·have ih := qDd (env := env) r cs fun y hy => h y (.tail _ hy)
   have hb : (k == NameKind.free) = false := by simpa using hk
   have e2 : clOf ((n, k) :: r) env.cells cs = clOf r env.cells cs := by
    show clOf r env.cells (if k = NameKind.free then (match env.cells.lookup n with | some c => (n, c) :: cs | none => cs) else cs) = _
    rw [if_neg hk]
   rw [e2, <- ih]
   simp only [hb, Bool.false_eq_true, if_false, pure_bind]
theorem qC3 (h : ∀ y ∈ scope.names, y.2 = .free -> ∃ c, env.cells.lookup y.1 = some c) : closureFor scope env = pure (clOf scope.names env.cells []) := by
 have := qDd (env := env) scope.names [] h
 unfold closureFor
 simp only [bind_pure]
 exact this
theorem qE8 (f : Str -> NameKind -> NameKind) : ∀ (names : List (Str × NameKind)) (x : Str), (names.map fun y => (y.1, f y.1 y.2)).lookup x = (names.lookup x).map (f x)
 | [], x => rfl
 | (n, k) :: r, x => by
  rw [jBb, jCi, jCi, qE8 f r x]
  cases e : x == n with
  | true =>
   have e' : x = n := beq_iff_eq.mp e
   subst e'
   rfl
  | false => rfl
theorem qFn (scope : Scope) (env : Env) (x : Str) : (relabel scope env).names.lookup x = (scope.names.lookup x).map fun k => if (k == .free && env.scope.kind == .function && env.kindOf x == some .cell) = true then .cell else k := by
 have := qE8 (fun n k => if (k == .free && env.scope.kind == .function && env.kindOf n == some .cell) = true then .cell else k) scope.names x
 rw [<- this]
 unfold relabel
 congr 1
 refine List.map_congr_left fun y _ => ?_
 obtain ⟨n, k⟩ := y
 dsimp only
 split <;> rfl
theorem qA2 (h : (relabel scope env).names.lookup x = some kd) : scope.names.lookup x = some kd \/ (scope.names.lookup x = some .free /\ kd = .cell) := by
 rw [qFn] at h
 cases q : scope.names.lookup x with
 | none => rw [q] at h; cases h
 | some k =>
  rw [q, Option.map_some] at h
  have h' := Option.some.inj h
  split at h'
  ·rename_i hc
   have hk : k = .free := by
    have := (Bool.and_eq_true_iff.mp (Bool.and_eq_true_iff.mp hc).1).1
    simpa using this
   exact .inr ⟨by rw [hk], h'.symm⟩
  ·exact .inl (by rw [h'])
structure qBx (N : List Str) (fsc : Scope) (N' : List Str) (scope : Scope) : Prop where
 kind : scope.kind = .function
 names : ∀ x ∈ scope.names, x.2 = .local -> scope.names.lookup x.1 = some .local
 celu : ∀ x ∈ scope.names, x.2 = .cell -> scope.names.lookup x.1 = some .cell
 free : ∀ x ∈ scope.names, x.2 = .free -> scope.names.lookup x.1 = some .free /\ (fsc.names.lookup x.1 = some .cell \/ fsc.names.lookup x.1 = some .free)
 pre : ((jAg N.length).all fun i => match N'[i]? with
  | some x => (match scope.names.lookup x with
   | some .local => false
   | some .cell => false
   | some .free => N[i]? == some x
   | _ => true)
  | none => true) = true
 len : N.length <= N'.length
 nd : N'.Nodup
def ownOf (scope : Scope) (x : Str) : Bool := scope.names.lookup x == some .local || scope.names.lookup x == some .cell
def cellsC (scope : Scope) (C : Addr) (cells : List (Str × Addr)) : List (Str × Addr) := cellsFrom (C + 1) scope.names (clOf scope.names cells [])
theorem qB6 : ∀ (names : List (Str × NameKind)) (h : Heap) (acc : List (Str × Addr)) (x : Str) (c : Addr), (cellsFrom h.objs.size names acc).lookup x = some c ->
  acc.lookup x = some c \/ ((x, NameKind.cell) ∈ names /\ h.objs.size <= c /\ (pushCells h names).IsCell c none)
 | [], h, acc, x, c, e => .inl e
 | (n, k) :: r, h, acc, x, c, e => by
  unfold cellsFrom at e
  unfold pushCells
  split at e
  ·rename_i hk
   rw [if_pos hk]
   have hk' : k = .cell := by simpa using hk
   have z : (h.push { cls := .type "cell", data := .cell none }).objs.size = h.objs.size + 1 := jBe ..
   rw [<- z] at e
   rcases qB6 r _ _ x c e with q | ⟨q1, q2, q3⟩
   ·rw [jCi] at q
    cases en : x == n with
    | true =>
     rw [en] at q
     have en' : x = n := beq_iff_eq.mp en
     cases q
     refine .inr ⟨by rw [en', hk']; exact .head _, jAx _, { cls := .type "cell", data := .cell none }, pushCells_keeps _ _ _ _ (jAw _ rfl), rfl⟩
    | false =>
     rw [en] at q
     exact .inl q
   ·exact .inr ⟨.tail _ q1, by omega, q3⟩
  ·rename_i hk
   rw [if_neg hk]
   rcases qB6 r _ _ x c e with q | ⟨q1, q2⟩
   ·exact .inl q
   ·exact .inr ⟨.tail _ q1, q2⟩
theorem qCe : ∀ (names : List (Str × NameKind)) (n : Nat) (acc : List (Str × Addr)) (x : Str) (c : Addr), (cellsFrom n names acc).lookup x = some c -> acc.lookup x = some c \/ ((x, NameKind.cell) ∈ names /\ n <= c)
 | [], n, acc, x, c, e => .inl e
 | (y, k) :: r, n, acc, x, c, e => by
  unfold cellsFrom at e
  split at e
  ·rename_i hk
   have hk' : k = .cell := by simpa using hk
   rcases qCe r _ _ x c e with q | ⟨q1, q2⟩
   ·rw [jCi] at q
    cases en : x == y with
    | true =>
     rw [en] at q
     have en' : x = y := beq_iff_eq.mp en
     cases q
     exact .inr ⟨by rw [en', hk']; exact .head _, jAx _⟩
    | false =>
     rw [en] at q
     exact .inl q
   ·exact .inr ⟨.tail _ q1, by omega⟩
  ·rcases qCe r _ _ x c e with q | ⟨q1, q2⟩
   ·exact .inl q
   ·exact .inr ⟨.tail _ q1, q2⟩
theorem qBe : ∀ (names : List (Str × NameKind)) (n : Nat) (acc : List (Str × Addr)) (x : Str), (∃ c, acc.lookup x = some c) -> ∃ c, (cellsFrom n names acc).lookup x = some c
 | [], n, acc, x, e => e
 | (y, k) :: r, n, acc, x, e => by
  unfold cellsFrom
  split
  ·refine qBe r _ _ x ?_
   rw [jCi]
   cases x == y with
   | true => exact ⟨_, rfl⟩
   | false => exact e
  ·exact qBe r _ _ x e
theorem qB5 : ∀ (names : List (Str × NameKind)) (n : Nat) (acc : List (Str × Addr)), (∀ x c, acc.lookup x = some c -> c < n) -> (∀ x y c, acc.lookup x = some c -> acc.lookup y = some c -> x = y) ->
  ∀ x y c, (cellsFrom n names acc).lookup x = some c -> (cellsFrom n names acc).lookup y = some c -> x = y
 | [], n, acc, _, h2 => h2
 | (z, k) :: r, n, acc, h1, h2 => by
  unfold cellsFrom
  split
  ·refine qB5 r _ _ (fun x c e => ?_) fun x y c e1 e2 => ?_
   ·rw [jCi] at e
    cases en : x == z with
    | true => rw [en] at e; cases e; exact jBf _
    | false => rw [en] at e; exact jCk (h1 x c e)
   ·rw [jCi] at e1 e2
    cases en : x == z with
    | true =>
     rw [en] at e1
     cases e1
     cases en2 : y == z with
     | true => rw [beq_iff_eq.mp en, beq_iff_eq.mp en2]
     | false => rw [en2] at e2; exact absurd (h1 y _ e2) (jAe _)
    | false =>
     rw [en] at e1
     cases en2 : y == z with
     | true => rw [en2] at e2; cases e2; exact absurd (h1 x _ e1) (jAe _)
     | false => rw [en2] at e2; exact h2 x y c e1 e2
  ·exact qB5 r _ _ h1 h2
theorem qEe 
  (hQ : ∀ h', h'.Ns s.heap.objs.size (fun _ => none) -> (∀ b o, s.heap.get? b = some o -> h'.get? b = some o) ->
   (∀ x c, (cellsFrom (s.heap.objs.size + 1) scope.names closure).lookup x = some c -> closure.lookup x = some c \/ ((x, NameKind.cell) ∈ scope.names /\ s.heap.objs.size + 1 <= c /\ h'.IsCell c none)) ->
   Q (newEnv scope s.heap.objs.size globals (cellsFrom (s.heap.objs.size + 1) scope.names closure) qual none .none (some env) builtinsNs) { s with heap := h' }) :
  wpAny M A (newFunctionEnv scope globals closure [] qual none .none (some env)) Q E s := by
 simp only [newFunctionEnv, Option.isSome_some, if_true]
 refine wpAny_bind (wpAny_alloc ?_)
 refine wpAny_bind (wpAny_layCells _ (fun name kind cells => by cases hkc : kind == NameKind.cell <;> simp [hkc]) _ _ _ _ ?_)
 have z : (s.heap.push { cls := .type "dict", data := .dict #[] }).objs.size = s.heap.objs.size + 1 := jBe ..
 rw [jCl]
 refine wpAny_bind (wpAny_pure (wpAny_pure ?_))
 have := hQ (pushCells (s.heap.push { cls := .type "dict", data := .dict #[] }) scope.names) ((Heap.Ns.new s.heap (.type "dict")).keeps (pushCells_keeps _ _)) (fun b o e => pushCells_keeps _ _ b o (jAu _ e)) (fun x c e => by
  rw [<- z] at e ⊢
  exact qB6 _ _ _ _ _ e)
 rw [<- z] at this
 exact this
def qAc (X : Cx) (N' : List Str) (scope : Scope) (C : Addr) (s₃ : Shared) (H₃ : Hp) (ex : List Addr) (pn : List (Addr × Obj)) : Cx where
 prog := X.prog
 w := X.w
 K := X.K
 mg := X.mg
 base := X.base
 A := X.A
 N := N'
 s₀ := s₃
 H₀ := H₃
 env := compEnvC scope (cellsC scope C X.env.cells) C X.env
 outer := X.stack
 stack := X.stack
 ex := ex
 fn := ownOf scope
 calm := X.calm
 pn := pn
 xe := fun _ _ => False
section
variable {X : Cx} {N' : List Str} {scope : Scope}
theorem cl_sub (h : (clOf scope.names X.env.cells []).lookup x = some c) : X.env.cells.lookup x = some c /\ (x, NameKind.free) ∈ scope.names := by
 rcases clOf_get _ _ _ _ _ h with z | z
 ·cases z
 ·exact z
theorem qCj (h : (cellsC scope C X.env.cells).lookup x = some c) : (X.env.cells.lookup x = some c /\ (x, NameKind.free) ∈ scope.names) \/ ((x, NameKind.cell) ∈ scope.names /\ C < c) := by
 rcases qCe _ _ _ _ _ h with q | ⟨q1, q2⟩
 ·exact .inl (cl_sub q)
 ·exact .inr ⟨q1, q2⟩
theorem cells_lt (I : Inv X pins σ H₃ s₃) (h : X.env.cells.lookup x = some c) : c < s₃.heap.objs.size := by
 obtain ⟨v, o, ho, _⟩ := I.cell x c h
 exact jAc ho
theorem comp_ok (O : qBx X.N X.env.scope N' scope) (I : Inv X pins σ H₃ s₃) (hC : s₃.heap.objs.size <= C) (hf : ∀ b ∈ fp, FpOk X pins H₃ b) (hfl : ∀ b ∈ fp, b < s₃.heap.objs.size) :
  (qAc X N' scope C s₃ H₃ fp (X.pn ++ pins)).Ok where
 mod := I.ok.mod
 kind := by show (relabel scope X.env).kind = _; exact O.kind
 glob := I.ok.glob
 blt := I.ok.blt
 above := hC
 inj := fun x y c h1 h2 => qB5 scope.names (C + 1) (clOf scope.names X.env.cells []) (fun x c h => jCk (jAd (cells_lt I (cl_sub h).1) hC)) (fun x y c h1 h2 => I.ok.inj x y c (cl_sub h1).1 (cl_sub h2).1) x y c h1 h2
 has := fun x hx => by
  have hx' : (relabel scope X.env).names.lookup x = some .cell \/ (relabel scope X.env).names.lookup x = some .free := hx
  have hfree : scope.names.lookup x = some .cell \/ scope.names.lookup x = some .free := by
   rcases hx' with z | z
   ·rcases qA2 z with y | ⟨y, _⟩
    ·exact .inl y
    ·exact .inr y
   ·rcases qA2 z with y | ⟨y, y2⟩
    ·exact .inr y
    ·cases y2
  rcases hfree with hfree | hfree
  ·exact jBo.mp (jBn scope.names (C + 1) _ (.inl hfree))
  ·have hm := PySem.mem_of_lookup hfree
   have hcell : ∃ c, X.env.cells.lookup x = some c := I.ok.has x (O.free _ hm rfl).2
   exact qBe _ _ _ _ (qF9 _ _ _ _ hm hcell)
 cab := fun x c h1 h2 => by
  rcases qCj (X := X) h2 with ⟨_, hm⟩ | ⟨_, hc⟩
  ·have q := (O.free _ hm rfl).1
   have h1' : (scope.names.lookup x == some .local || scope.names.lookup x == some .cell) = true := h1
   rw [q] at h1'
   cases h1'
  ·exact jAk (jCm hC hc)
 hd := I.ok.hd
 frames := I.ok.frames
 stk := .inl rfl
 exf := fun b hb => ⟨jAf (jAd (hfl b hb) hC), fun x c h => by
  rcases qCj (X := X) h with ⟨q, _⟩ | ⟨_, q⟩
  ·exact (hf b hb).2.2.2.2.1 x c q
  ·exact jAv (Nat.lt_trans (jAd (hfl b hb) hC) q)⟩
 bs := I.bs
 bsz := jAj I.ok.bsz I.sz
 noex := fun b o e hb => by
  rcases (hf b hb).2.2.2.1 with z | z
  ·exact I.ok.noex b o e z
  ·exact absurd (jAd (jAc (I.ok.bs b o e).1) z) (jAe _)
 exfs := fun b hb z => by
  rcases jAo.mp (I.stkSub b z) with e | e
  ·exact (hf b hb).2.1 e
  ·exact (hf b hb).2.2.1 e
 funs := I.stack
 frf := I.stkFree
theorem inv_comp (O : qBx X.N X.env.scope N' scope) (I : Inv X pins σ H₃ s₃) (hC : s₃.heap.objs.size <= C) (hf : ∀ b ∈ fp, FpOk X pins H₃ b) (hfl : ∀ b ∈ fp, b < s₃.heap.objs.size)
  (hs : ∃ h' t', s₄ = { s₃ with heap := h', toks := t' }) (hk : ∀ b o, s₃.heap.get? b = some o -> s₄.heap.get? b = some o) (hn : s₄.heap.Ns C m)
  (hce : ∀ x c, (cellsC scope C X.env.cells).lookup x = some c -> (clOf scope.names X.env.cells []).lookup x = some c \/ ((x, NameKind.cell) ∈ scope.names /\ C + 1 <= c /\ s₄.heap.IsCell c none)) (hlen : X.N.length + k = N'.length) : Inv (qAc X N' scope C s₃ H₃ fp (X.pn ++ pins)) [] (σ ++ jBm k none) H₃ s₄ := by
 obtain ⟨h', t', rfl⟩ := hs
 have hHC : H₃ C = none := I.hok.fresh hC
 refine ⟨comp_ok O I hC hf hfl, rfl, I.bare, Un.kept hk, ⟨m, hn, fun i x v h1 h2 h3 => ?_⟩, fun x c h => ?_, hHC, fun x c h => ?_, fun p hp => ?_, I.hok.kept hk, ?_⟩
 ·have hi : i < σ.length := by
   by_cases hi : i < σ.length
   ·exact hi
   ·rw [jBr (by omega), jBs] at h2
    split at h2 <;> cases h2
  rw [jBt hi] at h2
  have hiN : i < X.N.length := by rw [<- I.len]; exact hi
  have hp := jCn.mp O.pre i (jAi.mpr hiN)
  have h1' : N'[i]? = some x := h1
  rw [h1'] at hp
  have h3' : (relabel scope X.env).names.lookup x = some .local \/ (relabel scope X.env).names.lookup x = some .cell \/ (relabel scope X.env).names.lookup x = some .free := h3
  have hp2 : (match scope.names.lookup x with
   | some .local => false
   | some .cell => false
   | some .free => X.N[i]? == some x
   | _ => true) = true := hp
  have hfree : scope.names.lookup x = some .free := by
   rcases h3' with z | z | z
   ·rcases qA2 z with y | ⟨y, y2⟩
    ·rw [y] at hp2; cases hp2
    ·cases y2
   ·rcases qA2 z with y | ⟨y, _⟩
    ·rw [y] at hp2; cases hp2
    ·exact y
   ·rcases qA2 z with y | ⟨y, y2⟩
    ·exact y
    ·cases y2
  have hm := PySem.mem_of_lookup hfree
  rw [hfree] at hp2
  have hNx : X.N[i]? = some x := by simpa using hp2
  have hkx := (O.free _ hm rfl).2
  obtain ⟨m0, hn0, hl0⟩ := I.loc
  have vis : Vis X.env.scope x := by
   rcases hkx with z | z
   ·exact .inr (.inl z)
   ·exact .inr (.inr z)
  obtain ⟨u, r, l⟩ := hl0 i x v hNx h2 vis
  refine ⟨u, r, .inr ⟨?_, ?_⟩⟩
  ·rcases h3' with z | z | z
   ·exfalso
    rcases qA2 z with y | ⟨y, y2⟩
    ·rw [hfree] at y; cases y
    ·cases y2
   ·exact .inl z
   ·exact .inr z
  ·rcases l with ⟨z, _⟩ | ⟨_, c, hc, hcell⟩
   ·exfalso
    have z' : X.env.scope.names.lookup x = some .local := z
    rcases hkx with y | y
    ·rw [z'] at y; cases y
    ·rw [z'] at y; cases y
   ·obtain ⟨c', hc'⟩ := qBe scope.names (C + 1) _ x (qF9 X.env.cells scope.names [] x hm ⟨c, hc⟩)
    have hcc : X.env.cells.lookup x = some c' := by
     rcases qCj (X := X) (C := C) hc' with ⟨q, _⟩ | ⟨q, _⟩
     ·exact q
     ·have := O.celu _ q rfl
      rw [hfree] at this
      cases this
    rw [hc] at hcc
    cases hcc
    obtain ⟨o, ho, hd⟩ := hcell
    exact ⟨c, hc', o, hk _ _ ho, hd⟩
 ·rcases hce x c h with q | ⟨_, _, q⟩
  ·obtain ⟨v, o, ho, hd⟩ := I.cell x c (cl_sub q).1
   exact ⟨v, o, hk _ _ ho, hd⟩
  ·exact ⟨_, q⟩
 ·rcases qCj (X := X) h with ⟨q, _⟩ | ⟨_, q⟩
  ·exact I.freeC x c q
  ·exact I.hok.fresh (jAk (jCm hC q))
 ·have hp' : p ∈ X.pn ++ pins := by
   have q : p ∈ (X.pn ++ pins) ++ [] := hp
   rwa [jBh] at q
  obtain ⟨e, n, ne, nf, d⟩ := I.pin p hp'
  refine ⟨hk _ _ e, n, jAf (jAd (jAc e) hC), fun z => ?_, d⟩
  rcases jAo.mp (I.stkSub p.1 z) with y | y
  ·exact ne y
  ·exact nf y
 ·show _ = N'.length
  rw [jBw, jBx, I.len, hlen]
end
section
variable {prog : Program} {w : World} {A : Around} {R : Result -> Shared -> Prop} {s : Shared}
theorem compLoop_any (I : Nat -> Shared -> Prop)
  (turn : ∀ n s, I n s -> wpAny (model prog w) A (pyNext it) (fun r s₁ => match r with
   | none => R (.ok .next) s₁
   | some v => wpAny (model prog w) A (letOwnedTupleGo target it v) (fun _ s₂ => wpAny (model prog w) A (assign target env v) (fun _ s₃ => wpAny (model prog w) A (eval elt env) (fun x s₄ =>
     wpAny (model prog w) A (call (.builtin "list.append") [acc, x]) (fun _ s₅ => ∃ m, m < n /\ I m s₅) (fun _ _ => False) s₄) (fun _ _ => False) s₃) (fun _ _ => False) s₂) (fun _ _ => False) s₁) (fun _ _ => False) s)
  (n : Nat) (h : I n s) :
  codeAny (model prog w) A (.compLoop (.ListComp elt [⟨target, iter, [], 0⟩] scope pos) 0 it acc env) R s := by
 refine codeAny_loop rfl I (fun n s hI => ?_) n h
 show wpAny _ _ ((compTurn (.ListComp elt [⟨target, iter, [], 0⟩] scope pos) 0 it acc env).onRaise (fun x => do noteFrame x env; theTreesLotGoes x)) _ _ s
 refine wpAny_noted ?_
 rw [compTurn_list1]
 refine wpAny_bind (wpAny_standAt (wpAny_bind (wpAny_mono (turn n s hI) (fun r s₁ h₁ => ?_) fun _ _ h' => h'.elim)))
 cases r with
 | none => exact wpAny_pure h₁
 | some v =>
  refine wpAny_bind (wpAny_mono h₁ (fun _ s₂ h₂ => ?_) fun _ _ h' => h'.elim)
  exact wpAny_bind (wpAny_mono h₂ (fun _ s₂ h₂ => wpAny_bind (wpAny_bind (wpAny_mono h₂ (fun x s₃ h₃ => wpAny_bind (wpAny_mono h₃
   (fun _ s₄ h₄ => wpAny_pure (wpAny_pure ⟨rfl, h₄⟩)) fun _ _ h' => h'.elim)) fun _ _ h' => h'.elim))) fun _ _ h' => h'.elim)
end
def tComp (wi : TI) (g : TG) (te : TE) (k : Nat) : TE := fun σ H Q => wi σ H fun J H1 => ∃ W : Nat -> Nat -> List V -> L2.St -> Hp -> Prop, (∃ n, W 0 n [] (σ ++ jBm k none) H1) /\ ∀ i n vs σ H, W i n vs σ H ->
 (J.stop i H /\ ∀ p, H p = none -> Q (.ref p) (upd H p (.lst vs))) \/ (J.go i H /\ vs.length < sizeLine /\ ∀ x H', J.yld i H x H' -> g x σ H' fun σ2 H2 => te σ2 H2 fun v H3 => ∃ n', n' < n /\ W (i + 1) n' (vs ++ [v]) σ2 H3)
section
variable {X : Cx} {N' : List Str} {scope : Scope}
theorem Inv.adopt (I : Inv X pins σ H s) (f : FpOk X pins H a) (e : s.heap.get? a = some { cls := .type "list", data := .seq its.toArray n }) (rv : Vals vs its) (hz : vs.length <= sizeLine) :
  Inv X pins σ (upd H a (.lst vs)) s := by
 have hn := f.1
 have ne : ∀ b u, H b = some u -> b ≠ a := fun b u q => qAl q hn
 have J := I.step (h' := s.heap) (H' := upd H a (.lst vs)) (g' := s.gens) (t' := s.toks) (d' := s.drawn) (ch := [a]) (fun b hb => by
   have z : b = a := by simpa using hb
   subst z
   exact ⟨f.2.2.2.1, f.2.1, f.2.2.2.2.1, f.2.2.2.2.2⟩) (fun b o _ _ _ q _ => q) (fun b o _ _ _ q _ => ⟨o.slots, q⟩) (fun b o hc _ q => by rw [zO (by simpa using hc)]; exact q) (fun b o _ q => ⟨o, q⟩)
  (fun b xs q => by rw [zO (ne b _ q)]; exact q) (fun b o u q => by rw [zO (ne b _ q)]; exact q) (fun b ps q => ⟨#[], by rw [zO (ne b _ q), q]; simp⟩) (fun m hm => hm) (fun b u q => ?_) I.bare
 ·exact J
 ·by_cases hb : b = a
  ·subst hb
   rw [zW] at q
   cases q
   exact ⟨hz, its, n, rv, e⟩
  ·rw [zO hb] at q
   exact (I.hok b u q).stay (fun c v _ z => z) (fun c z => by rw [zO (ne c _ z)]; exact z) fun c xs z => by rw [zO (ne c _ z)]; exact z
end
section
variable {X : Cx} {N' : List Str} {scope : Scope}
theorem comp_run (O : qBx X.N X.env.scope N' scope) (hlen : X.N.length + k = N'.length) (hcal : X.calm = true) (hi : PI X tg iter wi)
  (hg : ∀ C s₃ H₃ ex pn, PG (qAc X N' scope C s₃ H₃ ex pn) tg g) (he : ∀ C s₃ H₃ ex pn, PE (qAc X N' scope C s₃ H₃ ex pn) elt te)
  {use : Option (Value -> Sem Unit)} {Qf : Value -> Shared -> Prop} {pins : List (Addr × Obj)} {s : Shared} {σ : L2.St} {H : Hp} {Q : VK} (I : Inv X pins σ H s) (h : tComp wi g te k σ H Q)
  (fin : ∀ (C acc : Addr) (H' : Hp) (s' : Shared) (m : Str -> Option Value), Inv X pins σ H' s' -> s'.heap.Ns C m -> FpOk X pins H' C -> Q (.ref acc) H' -> compPost (model X.prog X.w) X.A X.xe use Qf (.ref acc) C (.ok .next) s')
  (hs : ∀ x, foldedSetIterable iter X.env x = pure x := by intro _; rfl) :
  wpAny (model X.prog X.w) X.A (comprehension (.ListComp elt [⟨tg, iter, [], 0⟩] scope pos) scope X.env (firstIterPos [⟨tg, iter, [], 0⟩] pos) (newList []) false (eval iter X.env) use) Qf X.xe s := by
 have hclos : closureFor scope X.env = pure (clOf scope.names X.env.cells []) := qC3 fun y hy hf => I.ok.has y.1 (O.free y hy hf).2
 refine wpAny_comprehension_free (use := use) rfl hs hclos O.kind O.names (thn (hi pins s σ H _ I h) fun xv s1 h1 => thn h1 fun itv s2 h2 => ?_)
 obtain ⟨it, fp, tn, J, H2, rfl, I2, T, st2, f2, hW⟩ := h2
 refine wpAny_newObj_type (qEe fun h₁ hns₁ hk₁ hce₁ => ?_)
 have hfp2 : ∀ b ∈ fp, b < s2.heap.objs.size := fun b hb => by
  obtain ⟨o, e, _⟩ := T.obj 0 _ st2 b hb
  exact jAc e
 have hpn : H2 s2.heap.objs.size = none := I2.hok.fresh (jAx _)
 have I3 : Inv X pins σ H2 { s2 with heap := s2.heap.push { cls := .type "list", data := .seq ([] : List Value).toArray } } := I2.kept (t' := s2.toks) fun b o e => jAu _ e
 have facc : FpOk X pins H2 s2.heap.objs.size := I2.fpOk (jAx _) hpn
 have gacc : (s2.heap.push { cls := .type "list", data := .seq ([] : List Value).toArray }).get? s2.heap.objs.size = some { cls := .type "list", data := .seq ([] : List Value).toArray } := jAw _ rfl
 obtain ⟨W, ⟨n0, w0⟩, turn⟩ := hW
 generalize hs3 : ({ s2 with heap := s2.heap.push { cls := .type "list", data := .seq ([] : List Value).toArray } } : Shared) = s3 at I3
 have hh3 : s3.heap = s2.heap.push { cls := .type "list", data := .seq ([] : List Value).toArray } := by rw [<- hs3]
 rw [<- hh3] at gacc
 have z3 : s3.heap.objs.size = s2.heap.objs.size + 1 := by rw [hh3, jBe]
 generalize hacc : s2.heap.objs.size = acc at *
 have f3 : ∀ b ∈ acc :: fp, FpOk X pins H2 b := fun b hb => by
  rcases jAo.mp hb with e | hb
  ·rw [e]; exact facc
  ·exact f2 b hb
 have hfp3 : ∀ b ∈ acc :: fp, b < s3.heap.objs.size := fun b hb => by
  rw [z3]
  rcases jAo.mp hb with e | hb
  ·rw [e]; exact jBf _
  ·exact jCk (hfp2 b hb)
 have hk4 : ∀ b o, s3.heap.get? b = some o -> h₁.get? b = some o := fun b o e => hk₁ b o (by rw [hh3] at e; exact e)
 have hCe : (s2.heap.push { cls := .type "list", dict := none, data := .seq ([] : List Value).toArray }).objs.size = s3.heap.objs.size := by rw [hh3]
 generalize hC : (s2.heap.push { cls := .type "list", dict := none, data := .seq ([] : List Value).toArray }).objs.size = C at *
 have st3 : tn 0 h₁ := T.keep 0 _ _ st2 fun b hb o e => hk4 b o (by rw [hh3]; exact jAu _ e)
 have okx := comp_ok (fp := acc :: fp) O I3 (show s3.heap.objs.size <= C by rw [hCe]; exact jAx _) f3 hfp3
 have pinOk : ∀ {H' : Hp} {its : List Value} {kk : Nat} {h' : Heap}, H' acc = none -> h'.get? acc = some { cls := .type "list", data := .seq its.toArray kk } -> ∀ p ∈ [(acc, ({ cls := .type "list", data := .seq its.toArray kk } : Obj))], h'.get? p.1 = some p.2 /\ H' p.1 = none /\ p.1 ≠ (qAc X N' scope C s3 H2 (acc :: fp) (X.pn ++ pins)).env.locals /\ p.1 ∉ (qAc X N' scope C s3 H2 (acc :: fp) (X.pn ++ pins)).fs /\ ∀ v, p.2.data ≠ .cell v := fun {H' its kk h'} hn e p hp => by
  have z : p = (acc, ({ cls := .type "list", data := .seq its.toArray kk } : Obj)) := by simpa using hp
  subst z
  exact ⟨e, hn, (okx.exf acc (.head _)).1, okx.exfs acc (.head _), fun v q => by cases q⟩
 have I4 : Inv (qAc X N' scope C s3 H2 (acc :: fp) (X.pn ++ pins)) [] (σ ++ jBm k none) H2 { s3 with heap := h₁ } :=
  inv_comp O I3 (by rw [hCe]; exact jAx _) f3 hfp3 ⟨h₁, _, rfl⟩ hk4 hns₁ hce₁ hlen
 have I4' : Inv (qAc X N' scope C s3 H2 (acc :: fp) (X.pn ++ pins)) [(acc, { cls := .type "list", data := .seq ([] : List Value).toArray 0 })] (σ ++ jBm k none) H2 { s3 with heap := h₁ } :=
  I4.pins_of (pinOk facc.1 (hk4 _ _ gacc))
 have loop : codeAny (model X.prog X.w) X.A (.compLoop (.ListComp elt [⟨tg, iter, [], 0⟩] scope pos) 0 (.ref it) (.ref acc) (compEnvC scope (cellsC scope C X.env.cells) C X.env)) (compPost (model X.prog X.w) X.A X.xe use Qf (.ref acc) C) { s3 with heap := h₁ } := by
  have fpx : ∀ {H' : Hp} {ob : Obj}, (∀ b ∈ fp, H' b = none) -> ∀ b ∈ fp, FpOk (qAc X N' scope C s3 H2 (acc :: fp) (X.pn ++ pins)) [(acc, ob)] H' b := fun {H' ob} hn b hb => by
   have hb' : b ∈ acc :: fp := .tail _ hb
   refine ⟨hn b hb, (okx.exf b hb').1, okx.exfs b hb', .inl hb', fun x c h => (okx.exf b hb').2 x c h, fun p hp => ?_⟩
   have hp' : p ∈ (X.pn ++ pins) ++ [(acc, ob)] := hp
   rcases jAp.mp hp' with z | z
   ·exact (f3 b hb').2.2.2.2.2 p z
   ·have e : p = (acc, ob) := by simpa using z
    rw [e]
    exact jAv (hfp2 b hb)
  refine compLoop_any (fun n s' => ∃ i vs its kk σ' H', Inv (qAc X N' scope C s3 H2 (acc :: fp) (X.pn ++ pins)) [(acc, { cls := .type "list", data := .seq its.toArray kk })] σ' H' s' /\ Vals vs its /\ vs.length <= sizeLine /\ tn i s'.heap /\ (∀ b ∈ fp, H' b = none) /\ W i n vs σ' H') ?_ n0 ⟨0, [], [], 0, _, _, I4', .nil, jBg _, st3, fun b hb => (f2 b hb).1, w0⟩
  rintro n s5 ⟨i, vs, its, kk, σ5, H5, I5, rv, hz, st5, fr5, w5⟩
  rcases turn i n vs σ5 H5 w5 with ⟨stop, qn⟩ | ⟨go, hlt, step⟩
  ·refine thn (T.done (qAc X N' scope C s3 H2 (acc :: fp) (X.pn ++ pins)) rfl rfl rfl hcal i _ s5 σ5 H5 _ I5 (fpx fr5) st5 stop) fun r s6 ⟨hr, I6⟩ => ?_
   subst hr
   have back : Inv X pins σ H5 s6 := by
    have e : s6.os = s3.os := I6.os
    refine I3.call' e (ch := acc :: fp) I6.base I6.hok I6.bare fun b hb => ?_
    obtain ⟨a1, a2, a3, a4, a5, a6⟩ := f3 b hb
    exact ⟨a4, a2, a5, a6⟩
   obtain ⟨m6, hn6, _⟩ := I6.loc
   have hn6' : s6.heap.Ns C m6 := hn6
   obtain ⟨e6, n6, _⟩ := I6.pin (acc, { cls := .type "list", data := .seq its.toArray kk }) (jAy _ (.head _))
   have fa : FpOk X pins H5 acc := ⟨n6, facc.2⟩
   have hCa : C ≠ acc := jAv (by rw [hCe]; exact hfp3 acc (.head _))
   refine fin C acc _ s6 m6 (Inv.adopt back fa e6 rv hz) hn6' ?_ (qn acc n6)
   exact I3.fpOk (by rw [hCe]; exact jAx _) (by rw [zO hCa]; exact I6.free)
  ·refine thn (T.item (qAc X N' scope C s3 H2 (acc :: fp) (X.pn ++ pins)) rfl rfl rfl hcal i _ s5 σ5 H5 _ I5 (fpx fr5) st5 go) fun r s6 ⟨u, hr, h6⟩ => ?_
   subst hr
   refine thn h6 fun _ s7 ⟨x, H7, I7, r7, y7, st7, fr7⟩ => ?_
   have I7' := I7.pinned (fpx fr7) (T.obj _ _ st7)
   refine thn (hg _ _ _ _ _ _ s7 σ5 H7 x u _ I7' r7 (step x H7 y7)) fun _ s8 ⟨σ8, H8, I8, q8⟩ => ?_
   refine thn (he _ _ _ _ _ _ s8 σ8 H8 _ I8 q8) fun xv s9 ⟨v, H9, I9, r9, q9⟩ => ?_
   obtain ⟨n', hn', w9⟩ := q9
   obtain ⟨e9, n9, l9, f9, _⟩ := I9.pin (acc, { cls := .type "list", data := .seq its.toArray kk }) (jAy _ (jAq _ (.head _)))
   have hlen9 := rv.length
   refine call_meets F.slot_list_append ⟨_, e9, rfl⟩ F.entry_list_append (F.args_list_append_2 _ _) (PySem.list_append acc its.toArray kk xv (by rw [jB0]; omega)) ⟨e9, ?_⟩
   have q10 := PySem.IsL.update e9 (fun xs => xs.push xv)
   have ea : (its.toArray.push xv) = (its ++ [xv]).toArray := by simp
   rw [ea] at q10
   have I9' := I9.pins_of (pins' := qB8 fp s7.heap) fun p hp => I9.pin p (jAy _ (jAy _ hp))
   have I10 : Inv (qAc X N' scope C s3 H2 (acc :: fp) (X.pn ++ pins)) (qB8 fp s7.heap) σ8 H9 { s9 with heap := s9.heap.update acc (Obj.mapSeq fun xs => xs.push xv) } :=
    I9'.turned (t' := s9.toks) (it := acc) (fun b o hb e => (jB2 s9.heap _ (Ne.symm hb)).trans e) n9 (okx.exf acc (.head _)).1 (.inl (.head _)) (fun x c h => (okx.exf acc (.head _)).2 x c h) fun p hp => by
     have hp' : p ∈ (X.pn ++ pins) ++ qB8 fp s7.heap := hp
     rcases jAp.mp hp' with z | z
     ·exact facc.2.2.2.2.2 p z
     ·exact jAf (hfp2 p.1 (qEd z).1)
   refine ⟨n', hn', i + 1, vs ++ [v], its ++ [xv], _, σ8, H9, I10.pins_of (pinOk n9 q10), rv.append (.cons r9 .nil), by rw [jBw, jB8]; omega, T.keep _ _ _ st7 fun b hb o eo => (I10.pin (b, o) (jAy _ (qA3 hb eo))).1, fun b hb => ?_, w9⟩
   obtain ⟨o, eo, d⟩ := T.obj _ _ st7 b hb
   exact (I10.pin (b, o) (jAy _ (qA3 hb eo))).2.1
 have whole := codeAny_compStart_list loop (T.self _ 0 _ _ _ st3 loop)
 subst hCe
 exact whole
end
section
variable {X : Cx} {N' : List Str} {scope : Scope}
theorem pe_comp (k : Nat) (O : qBx X.N X.env.scope N' scope) (hcal : X.calm = true) (hi : PI X tg iter wi)
  (hg : ∀ C s₃ H₃ ex pn, PG (qAc X N' scope C s₃ H₃ ex pn) tg g) (he : ∀ C s₃ H₃ ex pn, PE (qAc X N' scope C s₃ H₃ ex pn) elt te)
  (hlen : X.N.length + k = N'.length := by rfl) (hs : ∀ x, foldedSetIterable iter X.env x = pure x := by intro _; rfl) : PE X (.ListComp elt [⟨tg, iter, [], 0⟩] scope pos) (tComp wi g te k) := by
 intro pins s σ H Q I h
 rw [eval_ListComp]
 exact comp_run (use := none) O hlen hcal hi hg he I h (fun C acc H' s' m J hn f q => ⟨m, hn, fun h' hs' => ⟨.ref acc, H', J.turned (t' := s'.toks) (fun b o hb e => (hs'.2 b hb).trans e) f.1 f.2.1 f.2.2.2.1 f.2.2.2.2.1 f.2.2.2.2.2, rfl, q⟩⟩) hs
theorem ps_setComp (k : Nat) (O : qBx X.N X.env.scope N' scope) (hcal : X.calm = true) (hi : PI X tg iter wi)
  (hg : ∀ C s₃ H₃ ex pn, PG (qAc X N' scope C s₃ H₃ ex pn) tg g) (he : ∀ C s₃ H₃ ex pn, PE (qAc X N' scope C s₃ H₃ ex pn) elt te)
  (hN : X.N.Nodup) (hj : X.N[j]? = some y) (hy : X.env.scope.names.lookup y = some .local) (hsw : swapsWith (.ListComp elt [⟨tg, iter, [], 0⟩] scope pos) (some (.Name y py)) spos.line X.env = pure true)
  (hlen : X.N.length + k = N'.length := by rfl) (hs : ∀ x, foldedSetIterable iter X.env x = pure x := by intro _; rfl) : PS X (.Assign [.Name y py] (.ListComp elt [⟨tg, iter, [], 0⟩] scope pos) spos) (tAsg (tComp wi g te k) (gName j)) := by
 intro pins s σ H D I h
 rw [exec_Assign_Name_used _ _ _ _ hsw]
 refine wpAny_bind (wpAny_standAt (wpAny_bind ?_))
 show wpAny _ X.A (do let _ <- comprehension (.ListComp elt [⟨tg, iter, [], 0⟩] scope pos) scope X.env _ (newList []) false (eval iter X.env) (some (assign (.Name y py) X.env))) _ _ s
 refine wpAny_bind (wpAny_mono (comp_run (use := some (assign (.Name y py) X.env)) (Qf := fun _ s' => SP X pins D .next s') O hlen hcal hi hg he I h (fun C acc H' s' m J hn f q => ?_) hs) (fun _ s' hq => wpAny_pure (wpAny_pure hq)) fun _ _ e => e)
 show wpAny _ X.A (assign (.Name y py) X.env (.ref acc)) _ _ _
 refine wpAny_assign_Name ?_
 refine qD3 J hN hj (.inl hy) (v := .ref acc) rfl (fun s2 J2 ⟨a, hsb, ha⟩ => ?_) (.inr hy)
 have haC : C ≠ a := by
  rcases ha with z | z
  ·rw [z]; exact f.2.1
  ·exact fun e => f.2.2.2.2.1 _ _ z e.symm
 exact ⟨m, hn.sameBut hsb haC, fun h' hs' => ⟨σ.set j (some (.ref acc)), H', J2.turned (t' := s2.toks) (fun b o hb e => (hs'.2 b hb).trans e) f.1 f.2.1 f.2.2.2.1 f.2.2.2.2.1 f.2.2.2.2.2, q⟩⟩
end
end Np
end
section
namespace Np
open PySem PySem.Spec PyProof.Rows L2
theorem RepS.more (h : RepS G H W δ σ) (k : Nat) : RepS G H W (δ ++ jBm k none) (σ ++ jBm k none) := by
 refine ⟨by simp [h.1], fun i d e => ?_⟩
 by_cases hi : i < δ.length
 ·rw [jBt hi] at e
  obtain ⟨v, e1, r⟩ := h.2 i d e
  exact ⟨v, by rw [jBt (h.1 ▸ hi)]; exact e1, r⟩
 ·rw [jBr (by omega), jBs] at e
  split at e <;> cases e
theorem compD_cases (h : qC2 src g e n i δ S = some r) :
  (src.get S i = some none /\ r = .ok [] S) \/ ∃ x m, n = m + 1 /\ src.get S i = some (some x) /\ bnd (g x δ S) (compK e (qC2 src g e m (i + 1))) = some r := by
 cases n with
 | zero =>
  unfold qC2 at h
  split at h
  ·rename_i e
   exact .inl ⟨e, (Option.some.inj h).symm⟩
  ·cases h
 | succ n =>
  unfold qC2 at h
  split at h
  ·rename_i e
   exact .inl ⟨e, (Option.some.inj h).symm⟩
  ·rename_i x e
   exact .inr ⟨x, n, rfl, e, h⟩
  ·cases h
section
variable {X : Cx} {E : XK} {N' : List Str} {scope : Scope}
theorem tF_comp : ∀ σ H Q, tF (gx X) E (qAj gi k g ge) σ H Q -> tComp (tFI (gx X) E gi) (tFG (gx X) E0 g) (tF (gx X) E0 ge) k σ H Q := by
 intro σ H Q ⟨W, δ, rr, hS, hδ, hg, hA⟩
 refine Go.thn hS hδ hg hA fun src H1 W1 s1 hδ1 hg1 hA1 J hJ => ?_
 have q' : (if src.len W1.S <= 1000000 then bnd (noer (qC2 src g ge (src.len W1.S) 0 (δ ++ jBm k none) W1.S)) lstK else none) = some rr := hg1
 split at q'
 ·rename_i hsz
  rcases qAm q' with ⟨ds, S2, e2, q2⟩ | ⟨c, S2, e2, _⟩
  ·obtain ⟨ds', S2', e3, e4⟩ := qBu e2
   cases e4
   refine ⟨fun i n vs σ2 H2 => i + n = src.len W1.S /\ ∃ W2 δ2 ds1 ds2, Nxt (gx X) H1 W1 H2 W2 /\ RepS (gx X) H2 W2 δ2 σ2 /\ ds = ds1 ++ ds2 /\ ds1.length = i /\ RepL (gx X) H2 W2 ds1 vs /\ qC2 src g ge n i δ2 W2.S = ok ds2 S2,
    ⟨src.len W1.S, by simp, W1, _, [], ds, .rfl s1.ok, hδ1.more k, rfl, rfl, rfl, e3⟩, ?_⟩
   rintro i n vs σ2 H2 ⟨hn, W2, δ2, ds1, ds2, s2, hδ2, hds, hl1, rl, hc⟩
   obtain ⟨w1, w2⟩ := hJ i H2 W2 s2
   rcases compD_cases hc with ⟨hend, hr⟩ | ⟨x, m, rfl, hx, hb⟩
   ·refine .inl ⟨w1 hend, fun p hp => ?_⟩
    cases hr
    rw [jBh] at hds
    subst hds
    exact qBq s2.ok q2 (hA1.nxt s2) rl hp
   ·obtain ⟨wg, wy⟩ := w2 x hx
    refine .inr ⟨wg, ?_, fun v H3 y => ?_⟩
    ·rw [<- rl.length, hl1]
     exact jAd (by omega) (sz hsz)
    ·obtain ⟨W3, e3', s3, rx⟩ := wy v H3 y
     rcases qAm hb with ⟨δ4, S4, e4, q4⟩ | ⟨c, S4, _, q4⟩
     ·refine ⟨W3, δ2, x, .ok δ4 S4, s3.ok, hδ2.mv (s3.mv s2.ok), rx, by rw [e3']; exact e4, fun H4 W4 eS4 s4 σ4 hδ4 => ?_⟩
      rcases qAm (show bnd (ge δ4 S4) (qC0 (qC2 src g ge m (i + 1)) δ4) = some (Rs.ok ds2 S2) from q4) with ⟨d, S5, e5, q5⟩ | ⟨c, S5, _, q5⟩
      ·refine ⟨W4, δ4, .ok d S5, s4.ok, hδ4, by rw [eS4]; exact e5, fun H5 W5 eS5 s5 v' rv => ?_⟩
       rcases qAm (show bnd (qC2 src g ge m (i + 1) δ4 S5) (consK d) = some (Rs.ok ds2 S2) from q5) with ⟨ds3, S6, e6, q6⟩ | ⟨c, S6, _, q6⟩
       ·have q6' : Rs.ok (d :: ds3) S6 = Rs.ok ds2 S2 := Option.some.inj q6
        cases q6'
        refine ⟨m, jBf m, by omega, W5, δ4, ds1 ++ [d], ds3, ((s2.trans s3).trans s4).trans s5, hδ4.mv (s5.mv s4.ok), by rw [hds]; simp, by simp [hl1], ?_, by rw [eS5]; exact e6⟩
        exact (rl.mv (((s3.trans s4).trans s5).mv s2.ok)).append (RepL.one rv)
       ·cases q6
      ·cases q5
     ·cases q4
  ·obtain ⟨_, _, _, z⟩ := qBu e2
   cases z
 ·cases q'
theorem pd_comp (k : Nat) (O : qBx X.N X.env.scope N' scope) (hcal : X.calm = true) (hi : PDI X E tg iter gi)
  (hg : ∀ C s₃ H₃ ex pn, PDG (qAc X N' scope C s₃ H₃ ex pn) E0 tg g) (he : ∀ C s₃ H₃ ex pn, PDE (qAc X N' scope C s₃ H₃ ex pn) E0 elt ge)
  (hlen : X.N.length + k = N'.length := by rfl) (hs : ∀ x, foldedSetIterable iter X.env x = pure x := by intro _; rfl) : PDE X E (.ListComp elt [⟨tg, iter, [], 0⟩] scope pos) (qAj gi k g ge) := by
 first
 | exact (
  PE.imp (pe_comp (g := tFG (gx X) E0 g) (te := tF (gx X) E0 ge) k O hcal hi hg he hlen hs) tF_comp)
 | ((try unfold PDE at *); (try unfold PDG at *); (try unfold PDI at *); exact (
  PE.imp (pe_comp (g := tFG (gx X) E0 g) (te := tF (gx X) E0 ge) k O hcal hi hg he hlen hs) tF_comp))
theorem pd_setComp (j : Nat) (k : Nat) (O : qBx X.N X.env.scope N' scope) (hcal : X.calm = true) (hi : PDI X E tg iter gi)
  (hg : ∀ C s₃ H₃ ex pn, PDG (qAc X N' scope C s₃ H₃ ex pn) E0 tg g) (he : ∀ C s₃ H₃ ex pn, PDE (qAc X N' scope C s₃ H₃ ex pn) E0 elt ge)
  (hN : X.N.Nodup) (hj : X.N[j]? = some y := by rfl) (hy : X.env.scope.names.lookup y = some .local := by rfl) (hsw : swapsWith (.ListComp elt [⟨tg, iter, [], 0⟩] scope pos) (some (.Name y py)) spos.line X.env = pure true := by rfl)
  (hlen : X.N.length + k = N'.length := by rfl) (hs : ∀ x, foldedSetIterable iter X.env x = pure x := by intro _; rfl) : PDS X E (.Assign [.Name y py] (.ListComp elt [⟨tg, iter, [], 0⟩] scope pos) spos) (setS j (qAj gi k g ge)) := by
 try unfold PDE at *
 try unfold PDS at *
 try unfold PDG at *
 try unfold PDI at *
 refine PS.imp (ps_setComp (g := tFG (gx X) E0 g) (te := tF (gx X) E0 ge) k O hcal hi hg he hN hj hy hsw hlen hs) fun D σ H ⟨W, δ, rr, hS, hδ, hg', hA⟩ => ?_
 refine tF_comp σ H _ (Go.thn hS hδ hg' hA fun d H1 W1 s1 hδ1 hg1 hA1 v rv => ?_)
 obtain rfl : Rs.ok (Fl.nx (δ.set j (some d))) W1.S = rr := Option.some.inj hg1
 exact hA1.now s1.ok _ (hδ1.set j rv)
end
def Itz (K : PySem.W.Frag) (a b : Addr) : It :=
  ⟨fun i H => ∃ xs ys x y, SqL K H a xs /\ SqL K H b ys /\ xs[i]? = some x /\ ys[i]? = some y,
   fun i H v H' => ∃ p x y, v = .ref p /\ H p = none /\ H' = upd H p (.tup [x, y]) /\ (∀ xs, SqL K H a xs -> xs[i]? = some x) /\ ∀ ys, SqL K H b ys -> ys[i]? = some y,
   fun i H => ∃ xs ys, SqL K H a xs /\ SqL K H b ys /\ (xs.length <= i \/ ys.length <= i)⟩
theorem Inv.moved {X : Cx} {pins : List (Addr × Obj)} {σ : L2.St} {H : Hp} {s : Shared} {h' : Heap} {t' : Nat} {ch : List Addr} {p : Addr} {o : HO} (I : Inv X pins σ H s) (hch : ∀ b ∈ ch, FpOk X pins H b) (k : ∀ b u, b ∉ ch -> s.heap.get? b = some u -> h'.get? b = some u) (hp : s.heap.objs.size <= p)
  (new : qBm X.prog X.w (upd H p o) h' p o) : Inv X pins σ (upd H p o) { s with heap := h', toks := t' } := by
 have hn : H p = none := I.hok.fresh hp
 have nch : ∀ b u, H b = some u -> b ∉ ch := fun b u e z => by rw [(hch b z).1] at e; cases e
 have ne : ∀ b u, H b = some u -> b ≠ p := fun b u q => qAl q hn
 refine I.step (g' := s.gens) (d' := s.drawn) (ch := ch) (fun b hb => ⟨(hch b hb).2.2.2.1, (hch b hb).2.1, (hch b hb).2.2.2.2.1, (hch b hb).2.2.2.2.2⟩) (fun b u _ _ hc e _ => k b u hc e) (fun b u _ _ hc e _ => ⟨u.slots, k b u hc e⟩)
  (fun b u hc e n => by rw [zO (jAf (jAd (jAc e) hp))]; exact n) (fun b u hc e => ⟨u, k b u hc e⟩)
  (fun b xs q => by rw [zO (ne b _ q)]; exact q) (fun b u v q => by rw [zO (ne b _ q)]; exact q) (fun b ps q => ⟨#[], by rw [zO (ne b _ q), q]; simp⟩) (fun m hm => ?_) (fun b u q => ?_) I.bare
 ·obtain ⟨ob, es, ep, ho, r⟩ := hm
  refine ⟨ob, es, ep, k _ ob (fun z => (hch _ z).2.1 rfl) ho, r⟩
 ·by_cases hb : b = p
  ·subst hb
   rw [zW] at q
   cases q
   exact new
  ·rw [zO hb] at q
   refine (I.hok b u q).stay (fun c v hc z => k c v ?_ z) (fun c z => by rw [zO (ne c _ z)]; exact z) fun c xs z => by rw [zO (ne c _ z)]; exact z
   rcases hc with rfl | hc
   ·exact nch _ _ q
   ·exact nch _ _ hc
theorem turn_zip {P : Program} {w : World} {K : PySem.W.Frag} {elts : List Expr} {x1 : Nat} {tpos : Pos} {z TI TO i1 i2 l1 l2 : Addr} (D : ZipApart z TI TO i1 i2 l1 l2) :
  Turn P w K (.Tuple elts x1 tpos) (Itz K l1 l2) [z, TI, TO, i1, i2] z (fun i h => IsZip h z TI TO .none /\ IsPair h TI (.ref i1) (.ref i2) /\ (∃ a b, IsPair h TO a b) /\ h.IsListIter i1 l1 i /\ h.IsListIter i2 l2 i) where
 mem := by simp
 obj := fun i h st b hb => by
  obtain ⟨hz, hTI, ⟨u, v, hTO⟩, h1, h2⟩ := st
  simp only [jAo, jCo, or_false] at hb
  rcases hb with rfl | rfl | rfl | rfl | rfl
  ·exact ⟨_, hz, fun v q => by cases q⟩
  ·exact ⟨_, hTI, fun v q => by cases q⟩
  ·exact ⟨_, hTO, fun v q => by cases q⟩
  ·obtain ⟨o, e, c, d⟩ := h1
   exact ⟨o, e, fun v q => by rw [d] at q; cases q⟩
  ·obtain ⟨o, e, c, d⟩ := h2
   exact ⟨o, e, fun v q => by rw [d] at q; cases q⟩
 keep := fun i h h' st k => by
  obtain ⟨hz, hTI, ⟨u, v, hTO⟩, h1, h2⟩ := st
  exact ⟨k z (by simp) _ hz, k TI (by simp) _ hTI, ⟨u, v, k TO (by simp) _ hTO⟩, h1.at fun o e => k i1 (by simp) o e, h2.at fun o e => k i2 (by simp) o e⟩
 item := by
  intro X hP hw hK hc i pins s σ H E I hf st hg
  subst hP hw hK
  obtain ⟨hz, hTI, ⟨u, v, hTO⟩, h1, h2⟩ := st
  obtain ⟨xs, ys, x, y, hqx, hqy, hx, hy⟩ := hg
  obtain ⟨its, rx, px, zx⟩ := I.list hqx
  obtain ⟨jts, ry, py, zy⟩ := I.list hqy
  obtain ⟨ux, hux, rux⟩ := rx.get hx
  obtain ⟨uy, huy, ruy⟩ := ry.get hy
  refine wpAny_pyNext_zip_item D hz hTI hTO h1 h2 px.isList py.isList (x := ux) (y := uy) (by simpa using hux) (by simpa using huy) fun h' a1 a2 a3 a4 a5 a6 hk => ?_
  refine ⟨_, rfl, wpAny_letOwnedTupleGo_zip a1 fun h'' hz' hs' => ?_⟩
  have hTn : s.heap.objs.size ≠ z := jAv (jAc hz)
  have kk : ∀ b o, b ∉ [z, TI, TO, i1, i2] -> s.heap.get? b = some o -> h''.get? b = some o := fun b o hb e => by
   simp only [jAo, jCo, or_false, not_or] at hb
   exact hs'.extBut _ _ hb.1 (hk b o hb.1 hb.2.2.1 hb.2.2.2.1 hb.2.2.2.2 e)
  have hp5 : IsPair h'' s.heap.objs.size ux uy := hs'.extBut _ _ hTn a5
  have new : qBm X.prog X.w (upd H s.heap.objs.size (.tup [x, y])) h'' s.heap.objs.size (.tup [x, y]) := ⟨by show 2 <= sizeLine; decide, [ux, uy], .cons rux (.cons ruy .nil), ⟨_, hp5, rfl, _, rfl⟩⟩
  have I5 := Inv.moved (s := s) (h' := h'') (t' := s.toks) I hf kk (jAx _) new
  refine ⟨.ref s.heap.objs.size, upd H s.heap.objs.size (.tup [x, y]), I5, rfl, ⟨s.heap.objs.size, x, y, rfl, I.hok.fresh (jAx _), rfl, fun ws hws => by rw [I.list_inj hws hqx]; exact hx, fun ws hws => by rw [I.list_inj hws hqy]; exact hy⟩, ?_, fun b hb => ?_⟩
  ·exact ⟨hz', hs'.extBut _ _ D.TIz (hk _ _ D.TIz D.TITO D.TIi1 D.TIi2 hTI), ⟨_, _, hs'.extBut _ _ D.TOz a2⟩, a3.extBut hs'.extBut D.i1z, a4.extBut hs'.extBut D.i2z⟩
  ·have hlt : b < s.heap.objs.size := by
    simp only [jAo, jCo, or_false] at hb
    rcases hb with rfl | rfl | rfl | rfl | rfl
    ·exact jAc hz
    ·exact jAc hTI
    ·exact jAc hTO
    ·obtain ⟨o, e, _⟩ := h1; exact jAc e
    ·obtain ⟨o, e, _⟩ := h2; exact jAc e
   rw [zO (jAf hlt)]
   exact (hf b hb).1
 done := by
  intro X hP hw hK hc i pins s σ H E I hf st hg
  subst hP hw hK
  obtain ⟨hz, hTI, ⟨u, v, hTO⟩, h1, h2⟩ := st
  obtain ⟨xs, ys, hqx, hqy, hend⟩ := hg
  obtain ⟨its, rx, px, zx⟩ := I.list hqx
  obtain ⟨jts, ry, py, zy⟩ := I.list hqy
  have lx := rx.length
  have ly := ry.length
  refine wpAny_pyNext_zip_end (I.ok.hd hc) D hz hTI hTO h1 h2 px.isList py.isList (by
   rcases hend with z | z
   ·exact .inl (by simp; omega)
   ·exact .inr (by simp; omega)) fun h' hk => ⟨rfl, ?_⟩
  have nch : ∀ b u, H b = some u -> b ∉ [z, TI, TO, i1, i2] := fun b u e zz => by rw [(hf b zz).1] at e; cases e
  have kk : ∀ b o, b ∉ [z, TI, TO, i1, i2] -> s.heap.get? b = some o -> h'.get? b = some o := fun b o hb e => by
   simp only [jAo, jCo, or_false, not_or] at hb
   exact hk b o hb.1 hb.2.2.1 hb.2.2.2.1 hb.2.2.2.2 e
  refine I.step (g' := s.gens) (d' := s.drawn) (t' := s.toks) (ch := [z, TI, TO, i1, i2]) (fun b hb => ⟨(hf b hb).2.2.2.1, (hf b hb).2.1, (hf b hb).2.2.2.2.1, (hf b hb).2.2.2.2.2⟩) (fun b u _ _ hc e _ => kk b u hc e) (fun b u _ _ hc e _ => ⟨u.slots, kk b u hc e⟩)
   (fun _ _ _ _ n => n) (fun b u hc e => ⟨u, kk b u hc e⟩) (fun _ _ q => q) (fun _ _ _ q => q) (fun b ps q => ⟨#[], by rw [q]; simp⟩) (fun m hm => ?_) (fun b u q => ?_) I.bare
  ·obtain ⟨ob, es, ep, ho, r⟩ := hm
   exact ⟨ob, es, ep, kk _ ob (fun z => (hf _ z).2.1 rfl) ho, r⟩
  ·refine (I.hok b u q).stay (fun c v hc zz => kk c v ?_ zz) (fun c zz => zz) fun c xs zz => zz
   rcases hc with rfl | hc
   ·exact nch _ _ q
   ·exact nch _ _ hc
 self := fun _ _ _ _ _ st h => wpAny_pyIter_zip st.1 h
section
variable {X : Cx} {E : XK}
def iZip (K : PySem.W.Frag) (ta : TA) : TI := fun σ H R => ta σ H fun vs H1 => ∃ a b, vs = [.ref a, .ref b] /\ (∃ xs, SqL K H1 a xs) /\ (∃ ys, SqL K H1 b ys) /\ R (Itz K a b) H1
theorem boot_zip : bootBuiltins "zip" = some (.type "zip") := by decide +kernel
theorem pi_zip {a b : Expr} {ta : TA} {p pos tpos : Pos} {elts : List Expr} {x1 : Nat} (hg : Gl X "zip") (hm : X.mg "zip" = none) (ha : PA X [a, b] ta) (hs : starEach [a, b] X.env = (false, eval a X.env) :: starEach [b] X.env) (hs2 : (backTo pos (starEach [b] X.env)).any (·.1) = false) :
  PI X (.Tuple elts x1 tpos) (.Call (.Name "zip" p) [a, b] [] pos) (iZip X.K ta) := by
 intro pins s σ H R I h
 refine Call_ (qDl I hg hm boot_zip (PyProof.Rows.callWith_type1 (thn (ha pos pins s σ H _ I h) fun us s1 ⟨vs, H1, I1, r1, q1⟩ => ?_) hs hs2))
 obtain ⟨l1, l2, e, ⟨xs, hqx⟩, ⟨ys, hqy⟩, q⟩ := q1
 subst e
 obtain ⟨u, v, rfl, ru, rv⟩ := Vals.two r1
 cases ru
 cases rv
 obtain ⟨its, rx, px, zx⟩ := I1.list hqx
 obtain ⟨jts, ry, py, zy⟩ := I1.list hqy
 refine call_zip_2 px.isList py.isList fun h' a1 a2 a3 a4 a5 a6 hk => wpAny_pyIter_zip a1 ?_
 have I2 : Inv X pins σ H1 { s1 with heap := h' } := I1.kept (t' := s1.toks) hk
 have lt1 : l1 < s1.heap.objs.size := by obtain ⟨o, e, _⟩ := px.isList; exact jAc e
 have lt2 : l2 < s1.heap.objs.size := by obtain ⟨o, e, _⟩ := py.isList; exact jAc e
 generalize hn : s1.heap.objs.size = n at *
 have w1 : ∀ m : Nat, n <= m -> l1 ≠ m := fun m h => jAf (jAd lt1 h)
 have w2 : ∀ m : Nat, n <= m -> l2 ≠ m := fun m h => jAf (jAd lt2 h)
 have D : ZipApart (n + 4) (n + 2) (n + 3) n (n + 1) l1 l2 := by
  constructor <;> first
   | exact w1 _ (by show (_ : Nat) <= _; omega)
   | exact w2 _ (by show (_ : Nat) <= _; omega)
   | (show (_ : Nat) ≠ _; omega)
 refine ⟨n + 4, [n + 4, n + 2, n + 3, n, n + 1], _, _, H1, rfl, I2, turn_zip D, ⟨a1, a2, ⟨_, _, a3⟩, a4, a5⟩, fun b hb => ?_, q⟩
 have hb' : n <= b := by
  simp only [jAo, jCo, or_false] at hb
  rcases hb with rfl | rfl | rfl | rfl | rfl <;> (show (_ : Nat) <= _; omega)
 exact I1.fpOk (by rw [hn]; exact hb') (I1.hok.fresh (by rw [hn]; exact hb'))
theorem two_some (h : (Src.two a b).get S i = some o) : ∃ ds es, zH S a = some ds /\ zH S b = some es /\ two1 ds[i]? es[i]? = o := by
 have h' : (match zH S a, zH S b with | some xs, some ys => some (two1 xs[i]? ys[i]?) | _, _ => none) = some o := h
 cases q : zH S a with
 | none => rw [q] at h'; cases h'
 | some ds =>
  cases q2 : zH S b with
  | none => rw [q, q2] at h'; cases h'
  | some es => rw [q, q2] at h'; exact ⟨ds, es, rfl, rfl, Option.some.inj h'⟩
theorem two1_some (h : two1 x y = some d) : ∃ u v, x = some u /\ y = some v /\ d = .tup [u, v] := by
 cases x with
 | none => cases h
 | some u =>
  cases y with
  | none => cases h
  | some v => exact ⟨u, v, rfl, rfl, (Option.some.inj h).symm⟩
theorem two1_none (h : two1 x y = none) : x = none \/ y = none := by
 cases x with
 | none => exact .inl rfl
 | some u =>
  cases y with
  | none => exact .inr rfl
  | some v => cases h
theorem walks_zip (ha : a < W.S.length) (hb : b < W.S.length) : Walks G (Itz G.K (W.μ a) (W.μ b)) H W (.two a b) := fun i H1 W1 s1 => by
 refine ⟨fun h => ?_, fun d hd => ?_⟩
 ·obtain ⟨ds, es, ea, eb, hn⟩ := two_some h
  obtain ⟨xs, _, qx, rx⟩ := s1.ok.lst (v := .ref (W1.μ a)) ⟨jAd ha s1.len, rfl⟩ ea
  obtain ⟨ys, _, qy, ry⟩ := s1.ok.lst (v := .ref (W1.μ b)) ⟨jAd hb s1.len, rfl⟩ eb
  rw [s1.old a ha] at qx
  rw [s1.old b hb] at qy
  refine ⟨xs, ys, .inl (.inl qx), .inl (.inl qy), ?_⟩
  rcases two1_none hn with h | h
  ·exact .inl (by rw [<- rx.length]; exact jCf.mp h)
  ·exact .inr (by rw [<- ry.length]; exact jCf.mp h)
 ·obtain ⟨ds, es, ea, eb, hn⟩ := two_some hd
  obtain ⟨xs, _, qx, rx⟩ := s1.ok.lst (v := .ref (W1.μ a)) ⟨jAd ha s1.len, rfl⟩ ea
  obtain ⟨ys, _, qy, ry⟩ := s1.ok.lst (v := .ref (W1.μ b)) ⟨jAd hb s1.len, rfl⟩ eb
  rw [s1.old a ha] at qx
  rw [s1.old b hb] at qy
  obtain ⟨u, v, hu, hv, rfl⟩ := two1_some hn
  obtain ⟨vx, ex, rvx⟩ := rx.get hu
  obtain ⟨vy, ey, rvy⟩ := ry.get hv
  refine ⟨⟨xs, ys, vx, vy, .inl (.inl qx), .inl (.inl qy), ex, ey⟩, fun z H3 hz => ?_⟩
  obtain ⟨p, x', y', rfl, hp, rfl, k1, k2⟩ := hz
  have e1 := k1 xs (.inl (.inl qx))
  have e2 := k2 ys (.inl (.inl qy))
  rw [ex] at e1
  rw [ey] at e2
  cases e1
  cases e2
  have sn := Nxt.heap s1.ok hp (HO.tup [vx, vy])
  exact ⟨W1, rfl, sn, p, _, rfl, SqT.of zW, ⟨vx, _, rfl, rvx.mv (sn.mv s1.ok), ⟨vy, _, rfl, rvy.mv (sn.mv s1.ok), rfl⟩⟩⟩
theorem pdi_zip (hg : Gl X "zip") (hm : X.mg "zip" = none) (ha : PDE X E a ga) (hb : PDE X E b gb) (hs : starEach [a, b] X.env = (false, eval a X.env) :: starEach [b] X.env := by rfl) (hs2 : (backTo pos (starEach [b] X.env)).any (·.1) = false := by rfl)
  (hst2 : starEach (b :: []) X.env = (false, eval b X.env) :: starEach [] X.env := by rfl) : PDI X E (.Tuple elts x1 tpos) (.Call (.Name "zip" p) [a, b] [] pos) (itA qC6 (yF ga (yF gb aNil))) := by
 try unfold PDE
 try unfold PDI at *
 intro pins s σ H R I ⟨W, δ, rr, hS, hδ, hg', hA⟩
 refine pi_zip hg hm (zB ha (zB hb zE hst2) hs).o hs hs2 pins s σ H R I (Go.thn hS hδ hg' hA fun ds H1 W1 s1 hδ1 hg1 hA1 vs rv => ?_)
 unfold qC6 at hg1
 split at hg1
 ·rename_i a b
  split at hg1
  ·rename_i xs ys ea eb
   obtain rfl : Rs.ok (Src.two a b) W1.S = rr := Option.some.inj hg1
   obtain ⟨v, r, e, rx, t⟩ := rv
   obtain ⟨v2, r2, e2, ry, t2⟩ := t
   have t2 : r2 = [] := t2
   obtain ⟨us, eu, qu, _⟩ := s1.ok.lst rx ea
   obtain ⟨ws, ew, qw, _⟩ := s1.ok.lst ry eb
   subst e e2 eu ew t2
   exact ⟨_, _, rfl, ⟨us, .inl (.inl qu)⟩, ⟨ws, .inl (.inl qw)⟩, hA1.now s1.ok _ (walks_zip rx.1 ry.1)⟩
  ·cases hg1
 ·cases hg1
end
end Np
end
section
namespace Np
open PySem PySem.Spec PyProof.Rows L2
theorem put_lst (hS : StOk G H W) (ha : a < W.S.length) (hA : qBn G E H W (.ok D.non (W.S.set a (.lst ds))) (VP G Q)) (rl : RepL G H W ds vs) : Q .non (upd H (W.μ a) (.lst vs)) :=
 hA _ (W.put a (.lst ds)) rfl (Nxt.write hS ha ⟨vs, zW, rl.mv (Mv.put hS ha _ _)⟩) .non rfl
section
variable {X : Cx} {E : XK} {o e e2 : Expr} {go ge ge2 : DE} {apos cpos : Pos}
theorem isL_true (h : isL x S = true) : ∃ a xs, x = .ref a /\ zH S a = some xs := by
 cases x with
 | ref a =>
  have h : (zH S a).isSome = true := h
  obtain ⟨xs, e⟩ := jBo.mp h
  exact ⟨a, xs, rfl, e⟩
 | _ => cases h
theorem tyV_list {K : PySem.W.Frag} {H : Hp} {p : Addr} {xs : List V} (h : H p = some (.lst xs)) : tyV K "list" (.ref p) H := .inl ⟨rfl, xs, .inl (.inl h)⟩
theorem tF_meth (hf : ∀ (E : XK) (H : Hp) (W : Wd) (x y : V) (dx dy : D) (Q : VK) (rr : Rs D), StOk (gx X) H W -> Rep (gx X) H W dx x -> Rep (gx X) H W dy y -> f dx dy W.S = some rr -> qBn (gx X) E H W rr (VP (gx X) Q) -> r x [y] H Q) :
  ∀ σ H Q, tF (gx X) E (opM f go ge) σ H Q -> tBM X.K "list" r (tF (gx X) E go) (tFA (gx X) E (yF ge aNil)) σ H Q := by
 intro σ H Q ⟨W, δ, rr, hS, hδ, hg, hA⟩
 refine Go.thn hS hδ hg hA fun dx H1 W1 s1 hδ1 hg1 hA1 x rx => ?_
 unfold opMK at hg1
 split at hg1
 ·rename_i hl
  obtain ⟨a, xs, rfl, el⟩ := isL_true hl
  obtain ⟨us, ex, hq, rl⟩ := s1.ok.lst rx el
  subst ex
  refine ⟨tyV_list hq, ?_⟩
  rcases qAm hg1 with ⟨dy, S2, e2, q2⟩ | ⟨c, S2, e2, q2⟩
  ·refine ⟨W1, δ, .ok [dy] S2, s1.ok, hδ1, by show bnd (ge δ W1.S) (aConsK aNil δ) = _; rw [e2]; rfl, fun H2 W2 eS s2 vs rvs => ?_⟩
   obtain ⟨y, r', rfl, ry, t⟩ := rvs
   have t : r' = [] := t
   subst t
   subst eS
   exact hf E H2 W2 _ y (.ref a) dy Q rr s2.ok (Rep.mv (s2.mv s1.ok) rx) ry q2 (hA1.nxt s2)
  ·subst q2
   exact ⟨W1, δ, .er c S2, s1.ok, hδ1, by show bnd (ge δ W1.S) (aConsK aNil δ) = _; rw [e2]; rfl, hA1⟩
 ·cases hg1
theorem md_append (E : XK) (H : Hp) (W : Wd) (x y : V) (dx dy : D) (Q : VK) (rr : Rs D) (hS : StOk (gx X) H W) (rx : Rep (gx X) H W dx x) (ry : Rep (gx X) H W dy y) (e : appD dx dy W.S = some rr) (hA : qBn (gx X) E H W rr (VP (gx X) Q)) : rAppend x [y] H Q := by
 unfold appD at e
 split at e
 ·rename_i a
  split at e
  ·rename_i xs hx
   split at e
   ·rename_i hl
    obtain rfl : Rs.ok D.non (W.S.set a (.lst (xs ++ [dy]))) = rr := Option.some.inj e
    obtain ⟨us, ex, hq, rl⟩ := hS.lst rx hx
    exact ⟨_, us, y, ex, rfl, hq, by rw [<- rl.length]; exact jAd hl (sz (jAx _)), put_lst hS rx.1 hA (rl.append (RepL.one ry))⟩
   ·cases e
  ·cases e
 ·cases e
theorem pd_append (ho : PDE X E o go) (he : PDE X E e ge) (hbase : attributeBase o "append" X.env (eval o X.env) = eval o X.env := by rfl)
  (hfew : ((backTo cpos (starEach (e :: []) X.env)).all (fun x => !x.1) && (backToKw cpos (keywordEach [] X.env)).all (fun x => x.1.isSome) && decide ((e :: []).length + ([] : List Keyword).length + (if ([] : List Keyword).isEmpty then 0 else 1) < 30)) = true := by rfl)
  (hline : (apos.endLine == cpos.line) = true := by rfl) (hs : starEach (e :: []) X.env = (false, eval e X.env) :: starEach [] X.env := by rfl) (hplain : (backTo cpos (starEach [] X.env)).any (·.1) = false := by rfl) :
  PDE X E (.Call (.Attribute o "append" apos) [e] [] cpos) (opM appD go ge) := by
 first
 | exact (
  PE.imp (pe_bm PySem.F.plainAttrs_list PySem.F.slot_list_append PySem.F.type_list_append mt_append ho.o (zB he zE hs).o hbase hfew hline hs hplain) (tF_meth md_append))
 | ((try unfold PDE); exact (
  PE.imp (pe_bm PySem.F.plainAttrs_list PySem.F.slot_list_append PySem.F.type_list_append mt_append ho.o (zB he zE hs).o hbase hfew hline hs hplain) (tF_meth md_append)))
theorem RepL.dropLast (h : RepL G H W ds vs) : RepL G H W ds.dropLast vs.dropLast := by
 rw [jCp, jCp, h.length]
 exact h.take _
theorem pd_pop (ho : PDE X E o go) (hbase : attributeBase o "pop" X.env (eval o X.env) = eval o X.env := by rfl) (hline : (apos.endLine == cpos.line) = true := by rfl) : PDE X E (.Call (.Attribute o "pop" apos) [] [] cpos) (op1 popD go) := by
 try unfold PDE at *
 refine PE.imp (pe_bm0 PySem.F.plainAttrs_list PySem.F.slot_list_pop PySem.F.type_list_pop mt_pop ho hbase hline) fun σ H Q ⟨W, δ, rr, hS, hδ, hg, hA⟩ => ?_
 refine Go.thn hS hδ hg hA fun dx H1 W1 s1 hδ1 hg1 hA1 x rx => ?_
 unfold popD at hg1
 split at hg1
 ·rename_i a
  split at hg1
  ·rename_i xs hx
   split at hg1
   ·rename_i d hd
    obtain rfl : Rs.ok d (W1.S.set a (.lst xs.dropLast)) = rr := Option.some.inj hg1
    obtain ⟨us, ex, hq, rl⟩ := s1.ok.lst rx hx
    subst ex
    obtain ⟨v, hv, rv⟩ := rl.get hd
    refine ⟨tyV_list hq, _, us, v, rfl, rfl, hq, by rw [<- rl.length]; exact hv, ?_⟩
    exact hA1 _ (W1.put a (.lst xs.dropLast)) rfl (Nxt.write s1.ok rx.1 ⟨_, zW, rl.dropLast.mv (Mv.put s1.ok rx.1 _ _)⟩) v (rv.mv (Mv.put s1.ok rx.1 _ _))
   ·cases hg1
  ·cases hg1
 ·cases hg1
def tFO (G : Gx) (E : XK) (g : DO) : TO := fun σ H Q => Go G E g (fun i H' _ => Q i H') σ H
@[irreducible] def PDO (X : Cx) (E : XK) (e : Option Expr) (g : DO) : Prop := PO X e (tFO (gx X) E g)
theorem PO.imp {X : Cx} {e : Option Expr} {t t' : TO} (h : PO X e t) (hi : ∀ σ H Q, t' σ H Q -> t σ H Q) : PO X e t' := fun pins s σ H Q I q => h pins s σ H Q I (hi σ H Q q)
theorem pdo_no : PDO X E none noP := by
 first
 | exact (
  PO.imp po_none fun σ H Q ⟨W, δ, rr, hS, hδ, hg, hA⟩ => by
   obtain rfl : Rs.ok none W.S = rr := Option.some.inj hg
   exact hA.now hS)
 | ((try unfold PDO at *); exact (
  PO.imp po_none fun σ H Q ⟨W, δ, rr, hS, hδ, hg, hA⟩ => by
   obtain rfl : Rs.ok none W.S = rr := Option.some.inj hg
   exact hA.now hS))
theorem pdo_at (he : PDE X E e ge) : PDO X E (some e) (atP ge) := by
 first
 | exact (
  PO.imp (po_some he) fun σ H Q ⟨W, δ, rr, hS, hδ, hg, hA⟩ => by
   refine Go.thn hS hδ hg hA fun d H1 W1 s1 hδ1 hg1 hA1 v rv => ?_
   cases d with
   | int i =>
    obtain rfl : Rs.ok (some i) W1.S = rr := Option.some.inj hg1
    exact ⟨i, rv, hA1.now s1.ok⟩
   | _ => cases hg1)
 | ((try unfold PDE at *); (try unfold PDO at *); exact (
  PO.imp (po_some he) fun σ H Q ⟨W, δ, rr, hS, hδ, hg, hA⟩ => by
   refine Go.thn hS hδ hg hA fun d H1 W1 s1 hδ1 hg1 hA1 v rv => ?_
   cases d with
   | int i =>
    obtain rfl : Rs.ok (some i) W1.S = rr := Option.some.inj hg1
    exact ⟨i, rv, hA1.now s1.ok⟩
   | _ => cases hg1))
theorem RepL.cut (h : RepL G H W ds vs) (lo hi : Option Int) : RepL G H W (cutD ds lo hi) (cutV vs lo hi) := by
 have e : ∀ (n d : Nat) (o : Option Int), sIxD n d o = HT.sIx n d o := fun n d o => by cases o <;> rfl
 unfold cutD cutV
 rw [e, e, h.length]
 exact (h.drop _).take _
theorem pd_slice {lo hi : Option Expr} {gl gh : DO} {p2 pos : Pos} (he : PDE X E e ge) (hl : PDO X E lo gl) (hh : PDO X E hi gh) : PDE X E (.Subscript e (.Slice lo hi none p2) pos) (slE ge gl gh) := by
 try unfold PDE at *
 try unfold PDO at *
 refine PE.imp (pe_slice (SlR.or sl_list sl_tup) he hl hh) fun σ H Q ⟨W, δ, rr, hS, hδ, hg, hA⟩ => ?_
 refine Go.thn hS hδ hg hA fun dx H1 W1 s1 hδ1 hg1 hA1 x rx => ?_
 refine Go.thn s1.ok hδ1 hg1 hA1 fun l H2 W2 s2 hδ2 hg2 hA2 => ?_
 refine Go.thn s2.ok hδ2 hg2 hA2 fun h H3 W3 s3 hδ3 hg3 hA3 => ?_
 have rx3 := Rep.mv ((s2.trans s3).mv s1.ok) rx
 have hg3 : slD dx l h W3.S = some rr := hg3
 unfold slD at hg3
 split at hg3
 ·split at hg3
  ·rename_i xs hx
   obtain ⟨us, ex, hq, rl⟩ := s3.ok.lst rx3 hx
   exact .inl ⟨_, us, ex, .inl (.inl hq), fun p hp => qBq s3.ok hg3 hA3 (rl.cut l h) hp⟩
  ·cases hg3
 ·rename_i xs
  obtain ⟨a, us, ex, q, rl⟩ := rx3
  exact .inl ⟨a, us, ex, q.sq, fun p hp => qBq s3.ok hg3 hA3 (rl.cut l h) hp⟩
 ·rename_i xs _
  obtain ⟨a, us, ex, q, rl⟩ := rx3
  split at hg3
  ·cases hg3
  ·rename_i hw
   obtain rfl : Rs.ok (D.tup (cutD xs l h)) W3.S = rr := Option.some.inj hg3
   have e : ∀ (n d : Nat) (o : Option Int), sIxD n d o = HT.sIx n d o := fun n d o => by cases o <;> rfl
   rw [e, e, rl.length] at hw
   exact .inr ⟨a, us, ex, q, hw, fun p hp => hA3 _ W3 rfl (Nxt.heap s3.ok hp _) _ ⟨p, _, rfl, SqT.of zW, (rl.cut l h).mv (Mv.heap hp _)⟩⟩
 ·cases hg3
theorem pdg_sub (ho : PDE X E o go) (he : PDE X E e ge)
  (ha : ∀ v, assign (.Subscript o e pos) X.env v = (do
   let ov <- holding [v] (eval o X.env)
   let iv <- holding [v, ov] (eval e X.env)
   standAt pos
   holding [v, ov, iv] (setItem ov iv v)
   release [v, ov, iv] []) := by intro _; rfl) : PDG X E (.Subscript o e pos) (qEv go ge) := by
 try unfold PDE at *
 try unfold PDG at *
 intro pins s σ H v u Q I rv h
 obtain ⟨W, δ, d, rr, hS, hδ, hd, hg, hA⟩ := h
 refine pg_sub ho he set_list ha pins s σ H v u Q I rv ?_
 refine Go.thn hS hδ hg hA fun dx H1 W1 s1 hδ1 hg1 hA1 x rx => ?_
 refine Go.thn s1.ok hδ1 hg1 hA1 fun di H2 W2 s2 hδ2 hg2 hA2 i ri => ?_
 have rx2 := Rep.mv (s2.mv s1.ok) rx
 have rd2 := Rep.mv (((s1.trans s2)).mv hS) hd
 unfold setXA at hg2
 split at hg2
 ·rename_i a j
  split at hg2
  ·rename_i xs hx
   split at hg2
   ·rename_i k hk
    obtain rfl : Rs.ok δ (W2.S.set a (.lst (xs.set k d))) = rr := Option.some.inj hg2
    obtain ⟨us, ex, hq, rl⟩ := s2.ok.lst rx2 hx
    refine ⟨_, us, j, k, ex, ri, hq, by rw [<- rl.length]; exact hk, ?_⟩
    have nx : Nxt (gx X) H2 W2 (upd H2 (W2.μ a) (.lst (us.set k v))) (W2.put a (.lst (xs.set k d))) := Nxt.write s2.ok rx2.1 ⟨_, zW, (rl.set rd2 k).mv (Mv.put s2.ok rx2.1 _ _)⟩
    exact hA2 _ _ rfl nx σ (hδ2.mv (nx.mv s2.ok))
   ·cases hg2
  ·cases hg2
 ·cases hg2
variable {a b c : Expr} {ga gb gc : DE} {pos : Pos}
theorem tF_chain (hf : OpD (gx X) r f) (hf' : OpD (gx X) r' f') : ∀ σ H Q, tF (gx X) E (chn f f' ga gb gc) σ H Q -> tChain r r' (tF (gx X) E ga) (tF (gx X) E gb) (tF (gx X) E gc) σ H Q := by
 intro σ H Q ⟨W, δ, rr, hS, hδ, hg, hA⟩
 refine Go.thn hS hδ hg hA fun dx H1 W1 s1 hδ1 hg1 hA1 x rx => ?_
 refine Go.thn s1.ok hδ1 hg1 hA1 fun dy H2 W2 s2 hδ2 hg2 hA2 y ry => ?_
 have rx2 := Rep.mv (s2.mv s1.ok) rx
 rcases qAm (show bnd (f dx dy W2.S) (chnT f' gc δ dy) = some rr from hg2) with ⟨t, S3, e3, q3⟩ | ⟨c, S3, e3, q3⟩
 ·refine hf E H2 W2 x y dx dy _ (.ok t S3) s2.ok rx2 ry e3 fun H3 W3 eS s3 z rz => ?_
  subst eS
  cases t with
  | bl k =>
   refine ⟨k, rz, ?_⟩
   cases k with
   | true =>
    rw [if_pos rfl]
    refine Go.thn s3.ok (hδ2.mv (s3.mv s2.ok)) (show bnd (gc δ W3.S) (f' dy) = some rr from q3) (hA2.nxt s3) fun dw H4 W4 s4 hδ4 hg4 hA4 w rw' => ?_
    exact hf' E H4 W4 y w dy dw Q rr s4.ok (Rep.mv ((s3.trans s4).mv s2.ok) ry) rw' hg4 hA4
   | false =>
    rw [if_neg (by decide)]
    obtain rfl : Rs.ok (D.bl false) W3.S = rr := Option.some.inj q3
    exact (hA2.nxt s3).now s3.ok _ rfl
  | _ => cases q3
 ·subst q3
  exact hf E H2 W2 x y dx dy _ (.er c S3) s2.ok rx2 ry e3 hA2
theorem pd_chain (ho : OpR X (compareOp op) r) (hf : OpD (gx X) r f) (ho' : OpR X (compareOp op') r') (hf' : OpD (gx X) r' f') (ha : PDE X E a ga) (hb : PDE X E b gb) (hc : PDE X E c gc)
  (hm : lastMarks [op, op'] [b, c] = false := by with_unfolding_all rfl) : PDE X E (.Compare a [op, op'] [b, c] pos) (chn f f' ga gb gc) := by
 first
 | exact (
  PE.imp (pe_chain ho ho' ha hb hc hm) (tF_chain hf hf'))
 | ((try unfold PDE at *); exact (
  PE.imp (pe_chain ho ho' ha hb hc hm) (tF_chain hf hf')))
theorem cd_lof : qEz G (fun xs H Q => ∃ p ys, xs = [.ref p] /\ (SqL G.K H p ys \/ SqT G.K H p ys) /\ ∀ l, H l = none -> Q (.ref l) (upd H l (.lst ys))) lofD := by
 intro E H W vs ds Q rr hS rl e hA
 unfold lofD at e
 split at e
 ·rename_i a
  split at e
  ·rename_i xs hx
   obtain ⟨v, r, rfl, rx, t⟩ := rl
   have t : r = [] := t
   subst t
   obtain ⟨us, ex, hq, rl⟩ := hS.lst rx hx
   subst ex
   exact ⟨_, us, rfl, .inl (.inl (.inl hq)), fun p hp => qBq hS e hA rl hp⟩
  ·cases e
 ·rename_i xs
  obtain ⟨v, r, rfl, ⟨a, us, rfl, q, rl⟩, t⟩ := rl
  have t : r = [] := t
  subst t
  exact ⟨a, us, rfl, .inl q.sq, fun p hp => qBq hS e hA rl hp⟩
 ·rename_i xs
  obtain ⟨v, r, rfl, ⟨a, us, rfl, q, rl⟩, t⟩ := rl
  have t : r = [] := t
  subst t
  exact ⟨a, us, rfl, .inr q, fun p hp => qBq hS e hA rl hp⟩
 ·cases e
theorem cd_int : qEz G (fun xs H Q => (∃ i, xs = [.int i] /\ Q (.int i) H) \/ ∃ k, xs = [.bl k] /\ Q (.int (if k then 1 else 0)) H) intD := by
 intro E H W vs ds Q rr hS rl e hA
 unfold intD at e
 split at e
 ·rename_i i
  obtain rfl : Rs.ok (D.int i) W.S = rr := Option.some.inj e
  obtain ⟨v, r, rfl, q, t⟩ := rl
  have q : v = .int i := q
  have t : r = [] := t
  subst q t
  exact .inl ⟨i, rfl, hA.now hS _ rfl⟩
 ·rename_i i
  obtain rfl : Rs.ok (D.int (if i = true then 1 else 0)) W.S = rr := Option.some.inj e
  obtain ⟨v, r, rfl, q, t⟩ := rl
  have q : v = .bl i := q
  have t : r = [] := t
  subst q t
  exact .inr ⟨i, rfl, hA.now hS _ rfl⟩
 ·cases e
def rDvm : List V -> Hp -> VK -> Prop := fun xs H Q => ∃ i j, xs = [.int i, .int j] /\ j ≠ 0 /\ ∀ p, H p = none -> Q (.ref p) (upd H p (.tup [.int (i.fdiv j), .int (i.fmod j)]))
theorem call_divmodX (hr : Room k X.A) (ht : X.prog.given.tree = none) (hst : X.stack = X.env :: X.outer) (hgen : X.env.scope.isGenerator = false) (hco : X.env.scope.isCoroutine = false) : qBy X (.builtin "divmod") rDvm := by
 intro pins s σ H xs us Q I r h
 obtain ⟨i, j, rfl, h1, q⟩ := h
 obtain ⟨u, w', rfl, ⟨t, rfl⟩, ⟨t', rfl⟩⟩ := vals2 r
 refine divmod_int h1 ?_ (.inr (qD7 I hr ht hst hgen hco))
 have hn : H s.heap.objs.size = none := I.hok.fresh (jAx _)
 refine ⟨.ref s.heap.objs.size, upd H s.heap.objs.size (.tup [.int (i.fdiv j), .int (i.fmod j)]), ?_, rfl, q _ hn⟩
 refine I.laid (fun b o e => jAu _ e) (jAx _) ⟨by simp only [jA7, jCq]; rw [sizeLine_eq]; decide, [.int (i.fdiv j) s.toks, .int (i.fmod j) (s.toks + 1)], .cons ⟨_, rfl⟩ (.cons ⟨_, rfl⟩ .nil), ?_⟩
 exact ⟨_, jAw s.heap rfl, rfl, 0, rfl⟩
theorem cd_dvm : qEz G rDvm dvmD := by
 intro E H W vs ds Q rr hS rl e hA
 unfold dvmD at e
 split at e
 ·rename_i i j
  split at e
  ·cases e
  ·rename_i hj
   obtain rfl : Rs.ok (D.tup [.int (i.fdiv j), .int (i.fmod j)]) W.S = rr := Option.some.inj e
   obtain ⟨v, r, rfl, q, v2, r2, rfl, q2, t⟩ := rl
   have q : v = .int i := q
   have q2 : v2 = .int j := q2
   have t : r2 = [] := t
   subst q q2 t
   exact ⟨i, j, rfl, hj, fun p hp => hA _ W rfl (Nxt.heap hS hp _) _ ⟨p, _, rfl, SqT.of zW, ⟨_, _, rfl, rfl, ⟨_, _, rfl, rfl, rfl⟩⟩⟩⟩
 ·cases e
theorem vals_bl : ∀ {bs : List Bool} {its : List Value}, Vals (bs.map V.bl) its -> its = bs.map Value.bool
 | [], _, h => by cases h; rfl
 | b :: bs, _, h => by
  cases h with
  | cons h1 h2 =>
   cases h1
   rw [vals_bl h2]
   rfl
theorem call_allX (hc : X.calm = true) : qBy X (.builtin "all") (fun xs H Q => ∃ (l : Addr) (bs : List Bool), xs = [.ref l] /\ SqL X.K H l (bs.map V.bl) /\ Q (.bl (bs.all id)) H) := by
 intro pins s σ H xs us Q I r h
 obtain ⟨l, bs, rfl, hq, q⟩ := h
 obtain ⟨u, rfl, rx⟩ := vals1 r
 cases rx
 obtain ⟨its, rv, pl, hz⟩ := I.list hq
 have hl := pl.isList
 obtain rfl := vals_bl rv
 have hlt : l < s.heap.objs.size := by obtain ⟨_, e, _⟩ := hl; exact jAc e
 refine call_all_walk (wpAny_pyIter_list hl ?_)
 refine ⟨s.heap.objs.size, [s.heap.objs.size, l], [s.heap.objs.size], (bs.map Value.bool).toArray.size, _, _, fun i => (bs[i]?).getD true, rfl, Walks.list (A := X.A.in1) (I.ok.hd hc) _ l (jAf hlt) (bs.map Value.bool).toArray,
  ⟨⟨_, jAw _ rfl, rfl, rfl⟩, hl.push _⟩, fun i v s' Q' E' hP hQ => ?_, fun h' tk hk => ?_⟩
 ·have hP : (bs.map Value.bool)[i]? = some v := by simpa using hP
  rw [jBu] at hP
  cases e : bs[i]? with
  | none => rw [e] at hP; cases hP
  | some b =>
   rw [e] at hP
   cases hP
   simp only [e, Option.getD_some] at hQ
   exact wpAny_truthy_bool hQ
 ·have e : ((jAg (bs.map Value.bool).toArray.size).all fun i => (bs[i]?).getD true) = bs.all id := by
   rw [jB0, jBd]; exact LSm.range_all bs
  rw [e]
  exact ⟨.bl _, H, I.kept fun b x eb => hk b x (fun hm => by rw [jCr.mp hm] at eb; exact jAe _ (jAc eb)) (jAu _ eb), rfl, q⟩
theorem allB_some : ∀ {ds : List D} {b : Bool}, allB ds = some b -> ∃ bs : List Bool, ds = bs.map D.bl /\ b = bs.all id
 | [], _, h => by cases h; exact ⟨[], rfl, rfl⟩
 | .bl c :: ds, b, h => by
  have h : (match allB ds with | some e => some (c && e) | none => none) = some b := h
  cases q : allB ds with
  | none => rw [q] at h; cases h
  | some e =>
   rw [q] at h
   cases h
   obtain ⟨bs, rfl, rfl⟩ := allB_some q
   exact ⟨c :: bs, rfl, rfl⟩
 | .non :: _, _, h => by cases h
 | .int _ :: _, _, h => by cases h
 | .str _ :: _, _, h => by cases h
 | .tup _ :: _, _, h => by cases h
 | .ref _ :: _, _, h => by cases h
 | .exc _ :: _, _, h => by cases h
 | .scr _ :: _, _, h => by cases h
theorem repL_bl : ∀ {bs : List Bool} {vs : List V}, RepL G H W (bs.map D.bl) vs -> vs = bs.map V.bl
 | [], _, h => h
 | b :: bs, _, h => by
  obtain ⟨v, r, rfl, q, t⟩ := h
  have q : v = .bl b := q
  rw [q, repL_bl t]
  rfl
theorem cd_all : qEz G (fun xs H Q => ∃ (l : Addr) (bs : List Bool), xs = [.ref l] /\ SqL G.K H l (bs.map V.bl) /\ Q (.bl (bs.all id)) H) allD := by
 intro E H W vs ds Q rr hS rl e hA
 unfold allD at e
 split at e
 ·rename_i a
  split at e
  ·rename_i xs hx
   split at e
   ·rename_i b hb
    obtain rfl : Rs.ok (D.bl b) W.S = rr := Option.some.inj e
    obtain ⟨v, r, rfl, rx, t⟩ := rl
    have t : r = [] := t
    subst t
    obtain ⟨us, ex, hq, rl⟩ := hS.lst rx hx
    subst ex
    obtain ⟨bs, rfl, rfl⟩ := allB_some hb
    obtain rfl := repL_bl rl
    exact ⟨_, bs, rfl, .inl (.inl hq), hA.now hS _ rfl⟩
   ·cases e
  ·cases e
 ·cases e
end
end Np
end
section
namespace Np
open PySem PySem.Spec PyProof.Rows L2
def Ite (K : PySem.W.Frag) (a : Addr) : It :=
  ⟨fun i H => ∃ xs x, SqL K H a xs /\ xs[i]? = some x,
   fun i H v H' => ∃ p x, v = .ref p /\ H p = none /\ H' = upd H p (.tup [.int i, x]) /\ ∀ xs, SqL K H a xs -> xs[i]? = some x,
   fun i H => ∃ xs, SqL K H a xs /\ xs.length <= i⟩
theorem turn_enum {P : Program} {w : World} {K : PySem.W.Frag} {elts : List Expr} {x1 : Nat} {tpos : Pos} {e it l : Addr} (hei : e ≠ it) (hle : l ≠ e) (hli : l ≠ it) :
  Turn P w K (.Tuple elts x1 tpos) (Ite K l) [e, it] e (fun i h => (∃ old, IsEnum h e it i old) /\ h.IsListIter it l i) where
 mem := by simp
 obj := fun i h st b hb => by
  obtain ⟨⟨old, he⟩, h1⟩ := st
  simp only [jAo, jCo, or_false] at hb
  rcases hb with rfl | rfl
  ·exact ⟨_, he, fun v q => by cases q⟩
  ·obtain ⟨o, e, c, d⟩ := h1
   exact ⟨o, e, fun v q => by rw [d] at q; cases q⟩
 keep := fun i h h' st k => by
  obtain ⟨⟨old, he⟩, h1⟩ := st
  exact ⟨⟨old, k e (by simp) _ he⟩, h1.at fun o q => k it (by simp) o q⟩
 item := by
  intro X hP hw hK hc i pins s σ H E I hf st hg
  subst hP hw hK
  obtain ⟨⟨old, he⟩, h1⟩ := st
  obtain ⟨xs, x, hqx, hx⟩ := hg
  obtain ⟨its, rx, px, zx⟩ := I.list hqx
  obtain ⟨ux, hux, rux⟩ := rx.get hx
  refine wpAny_pyNext_enum_item he h1 px.isList (x := ux) (by simpa using hux) hei fun h' ho hit' hT hsz hk => ?_
  refine ⟨_, rfl, wpAny_letOwnedTupleGo_enum ho fun h'' he' hs' => ?_⟩
  have hTn : s.heap.objs.size ≠ e := jAv (jAc he)
  have kk : ∀ b o, b ∉ [e, it] -> s.heap.get? b = some o -> h''.get? b = some o := fun b o hb q => by
   simp only [jAo, jCo, or_false, not_or] at hb
   exact (hs'.2 b hb.1).trans (hk b o hb.1 hb.2 q)
  have hp5 := (hs'.2 s.heap.objs.size hTn).trans hT
  have new : qBm X.prog X.w (upd H s.heap.objs.size (.tup [.int i, x])) h'' s.heap.objs.size (.tup [.int i, x]) := ⟨by show 2 <= sizeLine; decide, [.int i s.toks, ux], .cons ⟨_, rfl⟩ (.cons rux .nil), ⟨_, hp5, rfl, _, rfl⟩⟩
  have I5 := Inv.moved (s := s) (h' := h'') (t' := s.toks + 1) I hf kk (jAx _) new
  refine ⟨.ref s.heap.objs.size, upd H s.heap.objs.size (.tup [.int i, x]), I5, rfl, ⟨s.heap.objs.size, x, rfl, I.hok.fresh (jAx _), rfl, fun ws hws => by rw [I.list_inj hws hqx]; exact hx⟩, ?_, fun b hb => ?_⟩
  ·exact ⟨⟨_, by simpa using he'⟩, hit'.at fun o y => (hs'.2 it hei.symm).trans y⟩
  ·have hlt : b < s.heap.objs.size := by
    simp only [jAo, jCo, or_false] at hb
    rcases hb with rfl | rfl
    ·exact jAc he
    ·obtain ⟨o, e, _⟩ := h1; exact jAc e
   rw [zO (jAf hlt)]
   exact (hf b hb).1
 done := by
  intro X hP hw hK hc i pins s σ H E I hf st hg
  subst hP hw hK
  obtain ⟨⟨old, he⟩, h1⟩ := st
  obtain ⟨xs, hqx, hend⟩ := hg
  obtain ⟨its, rx, px, zx⟩ := I.list hqx
  have lx := rx.length
  refine wpAny_pyNext_enum_end (I.ok.hd hc) he h1 px.isList (Array.getElem?_eq_none (by simp; omega)) fun h' hk => ⟨rfl, ?_⟩
  have nch : ∀ b u, H b = some u -> b ∉ [e, it] := fun b u q zz => by rw [(hf b zz).1] at q; cases q
  have kk : ∀ b o, b ∉ [e, it] -> s.heap.get? b = some o -> h'.get? b = some o := fun b o hb q => by
   simp only [jAo, jCo, or_false, not_or] at hb
   exact hk b o hb.2 q
  refine I.step (g' := s.gens) (d' := s.drawn) (t' := s.toks) (ch := [e, it]) (fun b hb => ⟨(hf b hb).2.2.2.1, (hf b hb).2.1, (hf b hb).2.2.2.2.1, (hf b hb).2.2.2.2.2⟩) (fun b u _ _ hc e _ => kk b u hc e) (fun b u _ _ hc e _ => ⟨u.slots, kk b u hc e⟩)
   (fun _ _ _ _ n => n) (fun b u hc e => ⟨u, kk b u hc e⟩) (fun _ _ q => q) (fun _ _ _ q => q) (fun b ps q => ⟨#[], by rw [q]; simp⟩) (fun m hm => ?_) (fun b u q => ?_) I.bare
  ·obtain ⟨ob, es, ep, ho, r⟩ := hm
   exact ⟨ob, es, ep, kk _ ob (fun z => (hf _ z).2.1 rfl) ho, r⟩
  ·refine (I.hok b u q).stay (fun c v hc zz => kk c v ?_ zz) (fun c zz => zz) fun c xs zz => zz
   rcases hc with rfl | hc
   ·exact nch _ _ q
   ·exact nch _ _ hc
 self := fun _ _ _ _ _ st h => by
  obtain ⟨⟨old, he⟩, h1⟩ := st
  exact wpAny_pyIter_enum he h
section
variable {X : Cx} {E : XK}
def iEnum (K : PySem.W.Frag) (ta : TA) : TI := fun σ H R => ta σ H fun vs H1 => ∃ a xs, vs = [.ref a] /\ SqL K H1 a xs /\ R (Ite K a) H1
theorem qEy : bootBuiltins "enumerate" = some (.type "enumerate") := by decide +kernel
theorem pi_enum {a : Expr} {ta : TA} {p pos tpos : Pos} {elts : List Expr} {x1 : Nat} (hg : Gl X "enumerate") (hm : X.mg "enumerate" = none) (ha : PA X [a] ta) (hs : starEach [a] X.env = (false, eval a X.env) :: starEach [] X.env) (hs2 : (backTo pos (starEach [] X.env)).any (·.1) = false) :
  PI X (.Tuple elts x1 tpos) (.Call (.Name "enumerate" p) [a] [] pos) (iEnum X.K ta) := by
 intro pins s σ H R I h
 refine Call_ (qDl I hg hm qEy (PyProof.Rows.callWith_type1 (thn (ha pos pins s σ H _ I h) fun us s1 ⟨vs, H1, I1, r1, q1⟩ => ?_) hs hs2))
 obtain ⟨l1, xs, e, hqx, q⟩ := q1
 subst e
 obtain ⟨u, rfl, ru⟩ := vals1 r1
 cases ru
 obtain ⟨its, rx, px, zx⟩ := I1.list hqx
 have lt1 : l1 < s1.heap.objs.size := by obtain ⟨o, e, _⟩ := px.isList; exact jAc e
 refine call_enumerate_list px.isList fun h' a1 a2 a3 hk => wpAny_pyIter_enum a1 ?_
 have I2 : Inv X pins σ H1 { s1 with heap := h' } := I1.kept (t' := s1.toks) hk
 refine ⟨s1.heap.objs.size + 1, [s1.heap.objs.size + 1, s1.heap.objs.size], _, Ite X.K l1, H1, rfl, I2, turn_enum (e := s1.heap.objs.size + 1) (it := s1.heap.objs.size) (l := l1) (Nat.succ_ne_self _) (jAf (jCk lt1)) (jAf lt1), ⟨⟨_, a1⟩, a2⟩, fun b hb => ?_, q⟩
 have hb' : s1.heap.objs.size <= b := by
  simp only [jAo, jCo, or_false] at hb
  rcases hb with rfl | rfl
  ·exact Nat.le_succ _
  ·exact jAx _
 exact I1.fpOk hb' (I1.hok.fresh hb')
theorem enm_some (h : (Src.enm a).get S i = some o) : ∃ ds, zH S a = some ds /\ enm1 i ds[i]? = o := by
 have h' : (match zH S a with | some xs => some (enm1 i xs[i]?) | none => none) = some o := h
 cases q : zH S a with
 | none => rw [q] at h'; cases h'
 | some ds => rw [q] at h'; exact ⟨ds, rfl, Option.some.inj h'⟩
theorem walks_enum (ha : a < W.S.length) : Walks G (Ite G.K (W.μ a)) H W (.enm a) := fun i H1 W1 s1 => by
 refine ⟨fun h => ?_, fun d hd => ?_⟩
 ·obtain ⟨ds, e, hn⟩ := enm_some h
  obtain ⟨xs, ex, q, rl⟩ := s1.ok.lst (v := .ref (W1.μ a)) ⟨jAd ha s1.len, rfl⟩ e
  rw [s1.old a ha] at q
  refine ⟨xs, .inl (.inl q), ?_⟩
  cases z : ds[i]? with
  | some x => rw [z] at hn; cases hn
  | none => rw [<- rl.length]; exact jCf.mp z
 ·obtain ⟨ds, e, hn⟩ := enm_some hd
  obtain ⟨xs, ex, q, rl⟩ := s1.ok.lst (v := .ref (W1.μ a)) ⟨jAd ha s1.len, rfl⟩ e
  rw [s1.old a ha] at q
  cases z : ds[i]? with
  | none => rw [z] at hn; cases hn
  | some x' =>
   rw [z] at hn
   obtain rfl : D.tup [.int (i : Int), x'] = d := Option.some.inj hn
   obtain ⟨x, hx, rx⟩ := rl.get z
   refine ⟨⟨xs, x, .inl (.inl q), hx⟩, fun y H3 hy => ?_⟩
   obtain ⟨p, x'', rfl, hp, rfl, k1⟩ := hy
   have := k1 xs (.inl (.inl q))
   rw [hx] at this
   cases this
   have sn := Nxt.heap s1.ok hp (HO.tup [.int i, x])
   exact ⟨W1, rfl, sn, p, _, rfl, SqT.of zW, ⟨_, _, rfl, rfl, ⟨x, _, rfl, rx.mv (sn.mv s1.ok), rfl⟩⟩⟩
theorem pdi_enum (hg : Gl X "enumerate") (hm : X.mg "enumerate" = none) (ha : PDE X E a ga) (hs : starEach [a] X.env = (false, eval a X.env) :: starEach [] X.env := by rfl) (hs2 : (backTo pos (starEach [] X.env)).any (·.1) = false := by rfl) :
  PDI X E (.Tuple elts x1 tpos) (.Call (.Name "enumerate" p) [a] [] pos) (itA enumD (yF ga aNil)) := by
 try unfold PDE
 try unfold PDI at *
 intro pins s σ H R I ⟨W, δ, rr, hS, hδ, hg', hA⟩
 refine pi_enum hg hm (zB ha zE hs).o hs hs2 pins s σ H R I (Go.thn hS hδ hg' hA fun ds H1 W1 s1 hδ1 hg1 hA1 vs rv => ?_)
 unfold enumD at hg1
 split at hg1
 ·rename_i a
  split at hg1
  ·rename_i xs ea
   obtain rfl : Rs.ok (Src.enm a) W1.S = rr := Option.some.inj hg1
   obtain ⟨v, r, e, rx, t⟩ := rv
   have t : r = [] := t
   obtain ⟨us, eu, qu, ru⟩ := s1.ok.lst rx ea
   subst e eu t
   exact ⟨_, us, rfl, .inl (.inl qu), hA1.now s1.ok _ (walks_enum rx.1)⟩
  ·cases hg1
 ·cases hg1
end
end Np
end
section
namespace Np
open PySem PySem.Spec PyProof.Rows L2
section
variable {prog : Program} {w : World} {A : Around} {R : Result -> Shared -> Prop} {s : Shared}
theorem qF8 (I : Nat -> Shared -> Prop)
  (turn : ∀ n s, I n s -> wpAny (model prog w) A (pyNext it) (fun r s₁ => match r with
   | none => R (.ok .next) s₁
   | some v => wpAny (model prog w) A (letOwnedTupleGo target it v) (fun _ s₂ => wpAny (model prog w) A (assign target env v) (fun _ s₃ =>
     wpAny (model prog w) A (isTrue ce env (eval ce env)) (fun b s₃ => match b with
      | false => ∃ m, m < n /\ I m s₃
      | true => wpAny (model prog w) A (eval elt env) (fun x s₄ =>
     wpAny (model prog w) A (call (.builtin "list.append") [acc, x]) (fun _ s₅ => ∃ m, m < n /\ I m s₅) (fun _ _ => False) s₄) (fun _ _ => False) s₃) (fun _ _ => False) s₃) (fun _ _ => False) s₂) (fun _ _ => False) s₁) (fun _ _ => False) s)
  (n : Nat) (h : I n s) :
  codeAny (model prog w) A (.compLoop (.ListComp elt [⟨target, iter, [ce], 0⟩] scope pos) 0 it acc env) R s := by
 refine codeAny_loop rfl I (fun n s hI => ?_) n h
 show wpAny _ _ ((compTurn (.ListComp elt [⟨target, iter, [ce], 0⟩] scope pos) 0 it acc env).onRaise (fun x => do noteFrame x env; theTreesLotGoes x)) _ _ s
 refine wpAny_noted ?_
 rw [compTurn_list]
 refine wpAny_bind (wpAny_standAt (wpAny_bind (wpAny_mono (turn n s hI) (fun r s₁ h₁ => ?_) fun _ _ h' => h'.elim)))
 cases r with
 | none => exact wpAny_pure h₁
 | some v =>
  refine wpAny_bind (wpAny_mono h₁ (fun _ s₂ h₂ => ?_) fun _ _ h' => h'.elim)
  refine wpAny_bind (wpAny_mono h₂ (fun _ s₂ h₂ => wpAny_bind (wpAny_mono (wpAny_tests_one h₂) (fun ok s₃ h₃ => ?_) fun _ _ h' => h'.elim)) fun _ _ h' => h'.elim)
  cases ok with
  | false => exact wpAny_pure ⟨rfl, h₃⟩
  | true => exact wpAny_bind (wpAny_bind (wpAny_mono h₃ (fun x s₄ h₄ => wpAny_bind (wpAny_mono h₄ (fun _ s₅ h₅ => wpAny_pure (wpAny_pure ⟨rfl, h₅⟩)) fun _ _ h' => h'.elim)) fun _ _ h' => h'.elim))
end
def tCompI (wi : TI) (g : TG) (tt : TT) (te : TE) (k : Nat) : TE := fun σ H Q => wi σ H fun J H1 => ∃ W : Nat -> Nat -> List V -> L2.St -> Hp -> Prop, (∃ n, W 0 n [] (σ ++ jBm k none) H1) /\ ∀ i n vs σ H, W i n vs σ H ->
 (J.stop i H /\ ∀ p, H p = none -> Q (.ref p) (upd H p (.lst vs))) \/ (J.go i H /\ vs.length < sizeLine /\ ∀ x H', J.yld i H x H' -> g x σ H' fun σ2 H2 => tt σ2 H2 fun b H3 => match b with
  | false => ∃ n', n' < n /\ W (i + 1) n' vs σ2 H3
  | true => te σ2 H3 fun v H4 => ∃ n', n' < n /\ W (i + 1) n' (vs ++ [v]) σ2 H4)
section
variable {X : Cx} {N' : List Str} {scope : Scope}
theorem comp_runI (O : qBx X.N X.env.scope N' scope) (hlen : X.N.length + k = N'.length) (hcal : X.calm = true) (hi : PI X tg iter wi)
  (hg : ∀ C s₃ H₃ ex pn, PG (qAc X N' scope C s₃ H₃ ex pn) tg g) (hc : ∀ C s₃ H₃ ex pn, PT (qAc X N' scope C s₃ H₃ ex pn) ce tt) (he : ∀ C s₃ H₃ ex pn, PE (qAc X N' scope C s₃ H₃ ex pn) elt te)
  {use : Option (Value -> Sem Unit)} {Qf : Value -> Shared -> Prop} {pins : List (Addr × Obj)} {s : Shared} {σ : L2.St} {H : Hp} {Q : VK} (I : Inv X pins σ H s) (h : tCompI wi g tt te k σ H Q)
  (fin : ∀ (C acc : Addr) (H' : Hp) (s' : Shared) (m : Str -> Option Value), Inv X pins σ H' s' -> s'.heap.Ns C m -> FpOk X pins H' C -> Q (.ref acc) H' -> compPost (model X.prog X.w) X.A X.xe use Qf (.ref acc) C (.ok .next) s')
  (hs : ∀ x, foldedSetIterable iter X.env x = pure x := by intro _; rfl) :
  wpAny (model X.prog X.w) X.A (comprehension (.ListComp elt [⟨tg, iter, [ce], 0⟩] scope pos) scope X.env (firstIterPos [⟨tg, iter, [ce], 0⟩] pos) (newList []) false (eval iter X.env) use) Qf X.xe s := by
 have hclos : closureFor scope X.env = pure (clOf scope.names X.env.cells []) := qC3 fun y hy hf => I.ok.has y.1 (O.free y hy hf).2
 refine wpAny_comprehension_free (use := use) rfl hs hclos O.kind O.names (thn (hi pins s σ H _ I h) fun xv s1 h1 => thn h1 fun itv s2 h2 => ?_)
 obtain ⟨it, fp, tn, J, H2, rfl, I2, T, st2, f2, hW⟩ := h2
 refine wpAny_newObj_type (qEe fun h₁ hns₁ hk₁ hce₁ => ?_)
 have hfp2 : ∀ b ∈ fp, b < s2.heap.objs.size := fun b hb => by
  obtain ⟨o, e, _⟩ := T.obj 0 _ st2 b hb
  exact jAc e
 have hpn : H2 s2.heap.objs.size = none := I2.hok.fresh (jAx _)
 have I3 : Inv X pins σ H2 { s2 with heap := s2.heap.push { cls := .type "list", data := .seq ([] : List Value).toArray } } := I2.kept (t' := s2.toks) fun b o e => jAu _ e
 have facc : FpOk X pins H2 s2.heap.objs.size := I2.fpOk (jAx _) hpn
 have gacc : (s2.heap.push { cls := .type "list", data := .seq ([] : List Value).toArray }).get? s2.heap.objs.size = some { cls := .type "list", data := .seq ([] : List Value).toArray } := jAw _ rfl
 obtain ⟨W, ⟨n0, w0⟩, turn⟩ := hW
 generalize hs3 : ({ s2 with heap := s2.heap.push { cls := .type "list", data := .seq ([] : List Value).toArray } } : Shared) = s3 at I3
 have hh3 : s3.heap = s2.heap.push { cls := .type "list", data := .seq ([] : List Value).toArray } := by rw [<- hs3]
 rw [<- hh3] at gacc
 have z3 : s3.heap.objs.size = s2.heap.objs.size + 1 := by rw [hh3, jBe]
 generalize hacc : s2.heap.objs.size = acc at *
 have f3 : ∀ b ∈ acc :: fp, FpOk X pins H2 b := fun b hb => by
  rcases jAo.mp hb with e | hb
  ·rw [e]; exact facc
  ·exact f2 b hb
 have hfp3 : ∀ b ∈ acc :: fp, b < s3.heap.objs.size := fun b hb => by
  rw [z3]
  rcases jAo.mp hb with e | hb
  ·rw [e]; exact jBf _
  ·exact jCk (hfp2 b hb)
 have hk4 : ∀ b o, s3.heap.get? b = some o -> h₁.get? b = some o := fun b o e => hk₁ b o (by rw [hh3] at e; exact e)
 have hCe : (s2.heap.push { cls := .type "list", dict := none, data := .seq ([] : List Value).toArray }).objs.size = s3.heap.objs.size := by rw [hh3]
 generalize hC : (s2.heap.push { cls := .type "list", dict := none, data := .seq ([] : List Value).toArray }).objs.size = C at *
 have st3 : tn 0 h₁ := T.keep 0 _ _ st2 fun b hb o e => hk4 b o (by rw [hh3]; exact jAu _ e)
 have okx := comp_ok (fp := acc :: fp) O I3 (show s3.heap.objs.size <= C by rw [hCe]; exact jAx _) f3 hfp3
 have pinOk : ∀ {H' : Hp} {its : List Value} {kk : Nat} {h' : Heap}, H' acc = none -> h'.get? acc = some { cls := .type "list", data := .seq its.toArray kk } -> ∀ p ∈ [(acc, ({ cls := .type "list", data := .seq its.toArray kk } : Obj))], h'.get? p.1 = some p.2 /\ H' p.1 = none /\ p.1 ≠ (qAc X N' scope C s3 H2 (acc :: fp) (X.pn ++ pins)).env.locals /\ p.1 ∉ (qAc X N' scope C s3 H2 (acc :: fp) (X.pn ++ pins)).fs /\ ∀ v, p.2.data ≠ .cell v := fun {H' its kk h'} hn e p hp => by
  have z : p = (acc, ({ cls := .type "list", data := .seq its.toArray kk } : Obj)) := by simpa using hp
  subst z
  exact ⟨e, hn, (okx.exf acc (.head _)).1, okx.exfs acc (.head _), fun v q => by cases q⟩
 have I4 : Inv (qAc X N' scope C s3 H2 (acc :: fp) (X.pn ++ pins)) [] (σ ++ jBm k none) H2 { s3 with heap := h₁ } :=
  inv_comp O I3 (by rw [hCe]; exact jAx _) f3 hfp3 ⟨h₁, _, rfl⟩ hk4 hns₁ hce₁ hlen
 have I4' : Inv (qAc X N' scope C s3 H2 (acc :: fp) (X.pn ++ pins)) [(acc, { cls := .type "list", data := .seq ([] : List Value).toArray 0 })] (σ ++ jBm k none) H2 { s3 with heap := h₁ } :=
  I4.pins_of (pinOk facc.1 (hk4 _ _ gacc))
 have loop : codeAny (model X.prog X.w) X.A (.compLoop (.ListComp elt [⟨tg, iter, [ce], 0⟩] scope pos) 0 (.ref it) (.ref acc) (compEnvC scope (cellsC scope C X.env.cells) C X.env)) (compPost (model X.prog X.w) X.A X.xe use Qf (.ref acc) C) { s3 with heap := h₁ } := by
  have fpx : ∀ {H' : Hp} {ob : Obj}, (∀ b ∈ fp, H' b = none) -> ∀ b ∈ fp, FpOk (qAc X N' scope C s3 H2 (acc :: fp) (X.pn ++ pins)) [(acc, ob)] H' b := fun {H' ob} hn b hb => by
   have hb' : b ∈ acc :: fp := .tail _ hb
   refine ⟨hn b hb, (okx.exf b hb').1, okx.exfs b hb', .inl hb', fun x c h => (okx.exf b hb').2 x c h, fun p hp => ?_⟩
   have hp' : p ∈ (X.pn ++ pins) ++ [(acc, ob)] := hp
   rcases jAp.mp hp' with z | z
   ·exact (f3 b hb').2.2.2.2.2 p z
   ·have e : p = (acc, ob) := by simpa using z
    rw [e]
    exact jAv (hfp2 b hb)
  refine qF8 (fun n s' => ∃ i vs its kk σ' H', Inv (qAc X N' scope C s3 H2 (acc :: fp) (X.pn ++ pins)) [(acc, { cls := .type "list", data := .seq its.toArray kk })] σ' H' s' /\ Vals vs its /\ vs.length <= sizeLine /\ tn i s'.heap /\ (∀ b ∈ fp, H' b = none) /\ W i n vs σ' H') ?_ n0 ⟨0, [], [], 0, _, _, I4', .nil, jBg _, st3, fun b hb => (f2 b hb).1, w0⟩
  rintro n s5 ⟨i, vs, its, kk, σ5, H5, I5, rv, hz, st5, fr5, w5⟩
  rcases turn i n vs σ5 H5 w5 with ⟨stop, qn⟩ | ⟨go, hlt, step⟩
  ·refine thn (T.done (qAc X N' scope C s3 H2 (acc :: fp) (X.pn ++ pins)) rfl rfl rfl hcal i _ s5 σ5 H5 _ I5 (fpx fr5) st5 stop) fun r s6 ⟨hr, I6⟩ => ?_
   subst hr
   have back : Inv X pins σ H5 s6 := by
    have e : s6.os = s3.os := I6.os
    refine I3.call' e (ch := acc :: fp) I6.base I6.hok I6.bare fun b hb => ?_
    obtain ⟨a1, a2, a3, a4, a5, a6⟩ := f3 b hb
    exact ⟨a4, a2, a5, a6⟩
   obtain ⟨m6, hn6, _⟩ := I6.loc
   have hn6' : s6.heap.Ns C m6 := hn6
   obtain ⟨e6, n6, _⟩ := I6.pin (acc, { cls := .type "list", data := .seq its.toArray kk }) (jAy _ (.head _))
   have fa : FpOk X pins H5 acc := ⟨n6, facc.2⟩
   have hCa : C ≠ acc := jAv (by rw [hCe]; exact hfp3 acc (.head _))
   refine fin C acc _ s6 m6 (Inv.adopt back fa e6 rv hz) hn6' ?_ (qn acc n6)
   exact I3.fpOk (by rw [hCe]; exact jAx _) (by rw [zO hCa]; exact I6.free)
  ·refine thn (T.item (qAc X N' scope C s3 H2 (acc :: fp) (X.pn ++ pins)) rfl rfl rfl hcal i _ s5 σ5 H5 _ I5 (fpx fr5) st5 go) fun r s6 ⟨u, hr, h6⟩ => ?_
   subst hr
   refine thn h6 fun _ s7 ⟨x, H7, I7, r7, y7, st7, fr7⟩ => ?_
   have I7' := I7.pinned (fpx fr7) (T.obj _ _ st7)
   refine thn (hg _ _ _ _ _ _ s7 σ5 H7 x u _ I7' r7 (step x H7 y7)) fun _ s8 ⟨σ8, H8, I8, q8⟩ => ?_
   refine thn (hc _ _ _ _ _ _ s8 σ8 H8 _ I8 q8) fun b s8' ⟨H8', I8', q8'⟩ => ?_
   cases b with
   | false =>
    obtain ⟨n', hn', w9⟩ := q8'
    obtain ⟨e9, n9, l9, f9, _⟩ := I8'.pin (acc, { cls := .type "list", data := .seq its.toArray kk }) (jAy _ (jAq _ (.head _)))
    have I9' := I8'.pins_of (pins' := qB8 fp s7.heap) fun p hp => I8'.pin p (jAy _ (jAy _ hp))
    refine ⟨n', hn', i + 1, vs, its, _, σ8, H8', I9'.pins_of (pinOk n9 e9), rv, hz, T.keep _ _ _ st7 fun b hb o eo => (I9'.pin (b, o) (jAy _ (qA3 hb eo))).1, fun b hb => ?_, w9⟩
    obtain ⟨o, eo, d⟩ := T.obj _ _ st7 b hb
    exact (I9'.pin (b, o) (jAy _ (qA3 hb eo))).2.1
   | true =>
   refine thn (he _ _ _ _ _ _ s8' σ8 H8' _ I8' q8') fun xv s9 ⟨v, H9, I9, r9, q9⟩ => ?_
   obtain ⟨n', hn', w9⟩ := q9
   obtain ⟨e9, n9, l9, f9, _⟩ := I9.pin (acc, { cls := .type "list", data := .seq its.toArray kk }) (jAy _ (jAq _ (.head _)))
   have hlen9 := rv.length
   refine call_meets F.slot_list_append ⟨_, e9, rfl⟩ F.entry_list_append (F.args_list_append_2 _ _) (PySem.list_append acc its.toArray kk xv (by rw [jB0]; omega)) ⟨e9, ?_⟩
   have q10 := PySem.IsL.update e9 (fun xs => xs.push xv)
   have ea : (its.toArray.push xv) = (its ++ [xv]).toArray := by simp
   rw [ea] at q10
   have I9' := I9.pins_of (pins' := qB8 fp s7.heap) fun p hp => I9.pin p (jAy _ (jAy _ hp))
   have I10 : Inv (qAc X N' scope C s3 H2 (acc :: fp) (X.pn ++ pins)) (qB8 fp s7.heap) σ8 H9 { s9 with heap := s9.heap.update acc (Obj.mapSeq fun xs => xs.push xv) } :=
    I9'.turned (t' := s9.toks) (it := acc) (fun b o hb e => (jB2 s9.heap _ (Ne.symm hb)).trans e) n9 (okx.exf acc (.head _)).1 (.inl (.head _)) (fun x c h => (okx.exf acc (.head _)).2 x c h) fun p hp => by
     have hp' : p ∈ (X.pn ++ pins) ++ qB8 fp s7.heap := hp
     rcases jAp.mp hp' with z | z
     ·exact facc.2.2.2.2.2 p z
     ·exact jAf (hfp2 p.1 (qEd z).1)
   refine ⟨n', hn', i + 1, vs ++ [v], its ++ [xv], _, σ8, H9, I10.pins_of (pinOk n9 q10), rv.append (.cons r9 .nil), by rw [jBw, jB8]; omega, T.keep _ _ _ st7 fun b hb o eo => (I10.pin (b, o) (jAy _ (qA3 hb eo))).1, fun b hb => ?_, w9⟩
   obtain ⟨o, eo, d⟩ := T.obj _ _ st7 b hb
   exact (I10.pin (b, o) (jAy _ (qA3 hb eo))).2.1
 have whole := codeAny_compStart_list loop (T.self _ 0 _ _ _ st3 loop)
 subst hCe
 exact whole
end
section
variable {X : Cx} {N' : List Str} {scope : Scope}
theorem pe_compI (k : Nat) (O : qBx X.N X.env.scope N' scope) (hcal : X.calm = true) (hi : PI X tg iter wi)
  (hg : ∀ C s₃ H₃ ex pn, PG (qAc X N' scope C s₃ H₃ ex pn) tg g) (hc : ∀ C s₃ H₃ ex pn, PT (qAc X N' scope C s₃ H₃ ex pn) ce tt) (he : ∀ C s₃ H₃ ex pn, PE (qAc X N' scope C s₃ H₃ ex pn) elt te)
  (hlen : X.N.length + k = N'.length := by rfl) (hs : ∀ x, foldedSetIterable iter X.env x = pure x := by intro _; rfl) : PE X (.ListComp elt [⟨tg, iter, [ce], 0⟩] scope pos) (tCompI wi g tt te k) := by
 intro pins s σ H Q I h
 rw [eval_ListComp]
 exact comp_runI (use := none) O hlen hcal hi hg hc he I h (fun C acc H' s' m J hn f q => ⟨m, hn, fun h' hs' => ⟨.ref acc, H', J.turned (t' := s'.toks) (fun b o hb e => (hs'.2 b hb).trans e) f.1 f.2.1 f.2.2.2.1 f.2.2.2.2.1 f.2.2.2.2.2, rfl, q⟩⟩) hs
theorem ps_setCompI (k : Nat) (O : qBx X.N X.env.scope N' scope) (hcal : X.calm = true) (hi : PI X tg iter wi)
  (hg : ∀ C s₃ H₃ ex pn, PG (qAc X N' scope C s₃ H₃ ex pn) tg g) (hc : ∀ C s₃ H₃ ex pn, PT (qAc X N' scope C s₃ H₃ ex pn) ce tt) (he : ∀ C s₃ H₃ ex pn, PE (qAc X N' scope C s₃ H₃ ex pn) elt te)
  (hN : X.N.Nodup) (hj : X.N[j]? = some y) (hy : X.env.scope.names.lookup y = some .local) (hsw : swapsWith (.ListComp elt [⟨tg, iter, [ce], 0⟩] scope pos) (some (.Name y py)) spos.line X.env = pure true)
  (hlen : X.N.length + k = N'.length := by rfl) (hs : ∀ x, foldedSetIterable iter X.env x = pure x := by intro _; rfl) : PS X (.Assign [.Name y py] (.ListComp elt [⟨tg, iter, [ce], 0⟩] scope pos) spos) (tAsg (tCompI wi g tt te k) (gName j)) := by
 intro pins s σ H D I h
 rw [exec_Assign_Name_used _ _ _ _ hsw]
 refine wpAny_bind (wpAny_standAt (wpAny_bind ?_))
 show wpAny _ X.A (do let _ <- comprehension (.ListComp elt [⟨tg, iter, [ce], 0⟩] scope pos) scope X.env _ (newList []) false (eval iter X.env) (some (assign (.Name y py) X.env))) _ _ s
 refine wpAny_bind (wpAny_mono (comp_runI (use := some (assign (.Name y py) X.env)) (Qf := fun _ s' => SP X pins D .next s') O hlen hcal hi hg hc he I h (fun C acc H' s' m J hn f q => ?_) hs) (fun _ s' hq => wpAny_pure (wpAny_pure hq)) fun _ _ e => e)
 show wpAny _ X.A (assign (.Name y py) X.env (.ref acc)) _ _ _
 refine wpAny_assign_Name ?_
 refine qD3 J hN hj (.inl hy) (v := .ref acc) rfl (fun s2 J2 ⟨a, hsb, ha⟩ => ?_) (.inr hy)
 have haC : C ≠ a := by
  rcases ha with z | z
  ·rw [z]; exact f.2.1
  ·exact fun e => f.2.2.2.2.1 _ _ z e.symm
 exact ⟨m, hn.sameBut hsb haC, fun h' hs' => ⟨σ.set j (some (.ref acc)), H', J2.turned (t' := s2.toks) (fun b o hb e => (hs'.2 b hb).trans e) f.1 f.2.1 f.2.2.2.1 f.2.2.2.2.1 f.2.2.2.2.2, q⟩⟩
end
theorem compID_cases (h : qAt src g t e n i δ S = some r) :
  (src.get S i = some none /\ r = .ok [] S) \/ ∃ x m, n = m + 1 /\ src.get S i = some (some x) /\ bnd (g x δ S) (qFd t e (qAt src g t e m (i + 1))) = some r := by
 cases n with
 | zero =>
  unfold qAt at h
  split at h
  ·rename_i e
   exact .inl ⟨e, (Option.some.inj h).symm⟩
  ·cases h
 | succ n =>
  unfold qAt at h
  split at h
  ·rename_i e
   exact .inl ⟨e, (Option.some.inj h).symm⟩
  ·rename_i x e
   exact .inr ⟨x, n, rfl, e, h⟩
  ·cases h
section
variable {X : Cx} {E : XK} {N' : List Str} {scope : Scope}
theorem qFg : ∀ σ H Q, tF (gx X) E (qC1 gi k g gc ge) σ H Q -> tCompI (tFI (gx X) E gi) (tFG (gx X) E0 g) (tFT (gx X) E0 gc) (tF (gx X) E0 ge) k σ H Q := by
 intro σ H Q ⟨W, δ, rr, hS, hδ, hg, hA⟩
 refine Go.thn hS hδ hg hA fun src H1 W1 s1 hδ1 hg1 hA1 J hJ => ?_
 have q' : (if src.len W1.S <= 1000000 then bnd (noer (qAt src g gc ge (src.len W1.S) 0 (δ ++ jBm k none) W1.S)) lstK else none) = some rr := hg1
 split at q'
 ·rename_i hsz
  rcases qAm q' with ⟨ds, S2, e2, q2⟩ | ⟨c, S2, e2, _⟩
  ·obtain ⟨ds', S2', e3, e4⟩ := qBu e2
   cases e4
   refine ⟨fun i n vs σ2 H2 => i + n = src.len W1.S /\ ∃ W2 δ2 ds1 ds2, Nxt (gx X) H1 W1 H2 W2 /\ RepS (gx X) H2 W2 δ2 σ2 /\ ds = ds1 ++ ds2 /\ ds1.length <= i /\ RepL (gx X) H2 W2 ds1 vs /\ qAt src g gc ge n i δ2 W2.S = ok ds2 S2,
    ⟨src.len W1.S, by simp, W1, _, [], ds, .rfl s1.ok, hδ1.more k, rfl, jAx _, rfl, e3⟩, ?_⟩
   rintro i n vs σ2 H2 ⟨hn, W2, δ2, ds1, ds2, s2, hδ2, hds, hl1, rl, hc⟩
   obtain ⟨w1, w2⟩ := hJ i H2 W2 s2
   rcases compID_cases hc with ⟨hend, hr⟩ | ⟨x, m, rfl, hx, hb⟩
   ·refine .inl ⟨w1 hend, fun p hp => ?_⟩
    cases hr
    rw [jBh] at hds
    subst hds
    exact qBq s2.ok q2 (hA1.nxt s2) rl hp
   ·obtain ⟨wg, wy⟩ := w2 x hx
    refine .inr ⟨wg, ?_, fun v H3 y => ?_⟩
    ·rw [<- rl.length]
     exact jAd (by omega) (sz hsz)
    ·obtain ⟨W3, e3', s3, rx⟩ := wy v H3 y
     rcases qAm hb with ⟨δ4, S4, e4, q4⟩ | ⟨c, S4, _, q4⟩
     ·refine ⟨W3, δ2, x, .ok δ4 S4, s3.ok, hδ2.mv (s3.mv s2.ok), rx, by rw [e3']; exact e4, fun H4 W4 eS4 s4 σ4 hδ4 => ?_⟩
      rcases qAm (show bnd (gc δ4 S4) (compIB ge (qAt src g gc ge m (i + 1)) δ4) = some (Rs.ok ds2 S2) from q4) with ⟨b, S5, e5, q5⟩ | ⟨c, S5, _, q5⟩
      ·refine ⟨W4, δ4, .ok b S5, s4.ok, hδ4, by rw [eS4]; exact e5, fun H5 W5 eS5 s5 => ?_⟩
       cases b with
       | false =>
        refine ⟨m, jBf m, by omega, W5, δ4, ds1, ds2, ((s2.trans s3).trans s4).trans s5, hδ4.mv (s5.mv s4.ok), hds, by omega, rl.mv (((s3.trans s4).trans s5).mv s2.ok), by rw [eS5]; exact q5⟩
       | true =>
        rcases qAm (show bnd (ge δ4 S5) (qC0 (qAt src g gc ge m (i + 1)) δ4) = some (Rs.ok ds2 S2) from q5) with ⟨d, S6, e6, q6⟩ | ⟨c, S6, _, q6⟩
        ·refine ⟨W5, δ4, .ok d S6, s5.ok, hδ4.mv (s5.mv s4.ok), by rw [eS5]; exact e6, fun H6 W6 eS6 s6 v' rv => ?_⟩
         rcases qAm (show bnd (qAt src g gc ge m (i + 1) δ4 S6) (consK d) = some (Rs.ok ds2 S2) from q6) with ⟨ds3, S7, e7, q7⟩ | ⟨c, S7, _, q7⟩
         ·have q7' : Rs.ok (d :: ds3) S7 = Rs.ok ds2 S2 := Option.some.inj q7
          cases q7'
          refine ⟨m, jBf m, by omega, W6, δ4, ds1 ++ [d], ds3, (((s2.trans s3).trans s4).trans s5).trans s6, (hδ4.mv (s5.mv s4.ok)).mv (s6.mv s5.ok), by rw [hds]; simp, by simp; omega, ?_, by rw [eS6]; exact e7⟩
          exact (rl.mv ((((s3.trans s4).trans s5).trans s6).mv s2.ok)).append (RepL.one rv)
         ·cases q7
        ·cases q6
      ·cases q5
     ·cases q4
  ·obtain ⟨_, _, _, z⟩ := qBu e2
   cases z
 ·cases q'
theorem pd_compI (k : Nat) (O : qBx X.N X.env.scope N' scope) (hcal : X.calm = true) (hi : PDI X E tg iter gi)
  (hg : ∀ C s₃ H₃ ex pn, PDG (qAc X N' scope C s₃ H₃ ex pn) E0 tg g) (hc : ∀ C s₃ H₃ ex pn, PDT (qAc X N' scope C s₃ H₃ ex pn) E0 ce gc) (he : ∀ C s₃ H₃ ex pn, PDE (qAc X N' scope C s₃ H₃ ex pn) E0 elt ge)
  (hlen : X.N.length + k = N'.length := by rfl) (hs : ∀ x, foldedSetIterable iter X.env x = pure x := by intro _; rfl) : PDE X E (.ListComp elt [⟨tg, iter, [ce], 0⟩] scope pos) (qC1 gi k g gc ge) := by
 first
 | exact (
  PE.imp (pe_compI (g := tFG (gx X) E0 g) (tt := tFT (gx X) E0 gc) (te := tF (gx X) E0 ge) k O hcal hi hg hc he hlen hs) qFg)
 | ((try unfold PDE at *); (try unfold PDT at *); (try unfold PDG at *); (try unfold PDI at *); exact (
  PE.imp (pe_compI (g := tFG (gx X) E0 g) (tt := tFT (gx X) E0 gc) (te := tF (gx X) E0 ge) k O hcal hi hg hc he hlen hs) qFg))
theorem pd_setCompI (j : Nat) (k : Nat) (O : qBx X.N X.env.scope N' scope) (hcal : X.calm = true) (hi : PDI X E tg iter gi)
  (hg : ∀ C s₃ H₃ ex pn, PDG (qAc X N' scope C s₃ H₃ ex pn) E0 tg g) (hc : ∀ C s₃ H₃ ex pn, PDT (qAc X N' scope C s₃ H₃ ex pn) E0 ce gc) (he : ∀ C s₃ H₃ ex pn, PDE (qAc X N' scope C s₃ H₃ ex pn) E0 elt ge)
  (hN : X.N.Nodup) (hj : X.N[j]? = some y := by rfl) (hy : X.env.scope.names.lookup y = some .local := by rfl) (hsw : swapsWith (.ListComp elt [⟨tg, iter, [ce], 0⟩] scope pos) (some (.Name y py)) spos.line X.env = pure true := by rfl)
  (hlen : X.N.length + k = N'.length := by rfl) (hs : ∀ x, foldedSetIterable iter X.env x = pure x := by intro _; rfl) : PDS X E (.Assign [.Name y py] (.ListComp elt [⟨tg, iter, [ce], 0⟩] scope pos) spos) (setS j (qC1 gi k g gc ge)) := by
 try unfold PDE at *
 try unfold PDT at *
 try unfold PDS at *
 try unfold PDG at *
 try unfold PDI at *
 refine PS.imp (ps_setCompI (g := tFG (gx X) E0 g) (tt := tFT (gx X) E0 gc) (te := tF (gx X) E0 ge) k O hcal hi hg hc he hN hj hy hsw hlen hs) fun D σ H ⟨W, δ, rr, hS, hδ, hg', hA⟩ => ?_
 refine qFg σ H _ (Go.thn hS hδ hg' hA fun d H1 W1 s1 hδ1 hg1 hA1 v rv => ?_)
 obtain rfl : Rs.ok (Fl.nx (δ.set j (some d))) W1.S = rr := Option.some.inj hg1
 exact hA1.now s1.ok _ (hδ1.set j rv)
end
end Np
end
section
namespace Np
open PySem PySem.Spec PyProof.Rows L2
mutual
theorem eqT_comm : ∀ (d e : T), eqT d e = eqT e d
 | .non, e => by cases e <;> simp [eqT]
 | .bl a, e => by cases e <;> simp only [eqT] <;> exact BEq.comm
 | .int a, e => by cases e <;> simp only [eqT] <;> exact BEq.comm
 | .str a, e => by cases e <;> simp only [eqT] <;> exact BEq.comm
 | .tup ds, e => by
  cases e with
  | tup es => simp only [eqT]; exact qEq ds es
  | _ => simp [eqT]
 | .lst ds, e => by
  cases e with
  | lst es => simp only [eqT]; exact qEq ds es
  | _ => simp [eqT]
theorem qEq : ∀ (ds es : List T), eqTs ds es = eqTs es ds
 | [], es => by cases es <;> simp [eqTs]
 | d :: ds, es => by
  cases es with
  | nil => simp [eqTs]
  | cons e es => simp only [eqTs]; rw [eqT_comm d e, qEq ds es]
end
theorem memT_py (t : T) : ∀ ts : List T, ((qBt ts).any fun y => PyData.eqv y (toPy t)) = memT t ts
 | [] => rfl
 | u :: us => by simp only [qBt, List.any_cons, memT, memT_py t us, eqT_py, eqT_comm u t]
section
variable {X : Cx} {G : Gx}
def rInD (G : Gx) (neg : Bool) : R2 := fun x y H Q => ∃ W d a ys t ts, StOk G H W /\ Rep G H W d x /\ Rep G H W (.ref a) y /\ zH W.S a = some ys /\ rd 8 W.S d = some t /\ rdl (rd 8 W.S) ys = some ts /\ Q (.bl (if neg = true then !memT t ts else memT t ts)) H
theorem in_seen (I : Inv X pins σ H s) (hS : StOk (gx X) H W) (r : Rep (gx X) H W (.ref a) y) (q : RelV y u) (hl : zH W.S a = some ys) (h : rdl (rd 8 W.S) ys = some ts) : Seen s 9 (.lst ts) u :=
 seen I hS (n := 9) (d := .ref a) (by simp only [rd, hl, h]; rfl) r q
theorem op_notinX (hr : Room k X.A) : OpR X (compareOp .NotIn) (rInD (gx X) true) := by
 intro pins s σ H x y v u Q I rx ry h
 obtain ⟨W, d, a, ys, t, ts, hS, rd1, re, hl, pd, pe, q⟩ := h
 have sa := seen I hS pd rd1 rx
 obtain ⟨c1, c2, bs, rb⟩ := in_seen I hS re ry hl pe
 obtain ⟨as, ra⟩ := sa.2.2
 have c1' : PyData.canLayAll0 (qBt ts) = true := by simpa only [toPy, PyData.canLay0] using c1
 refine SeqAt.notIn_list_reads (xs := qBt ts) rb ra c1' sa.1 ?_ ?_
 ·have := hr.units
  have := sa.2.1
  omega
 ·rw [memT_py]
  exact ⟨.bl _, H, I, rfl, q⟩
theorem od_inK (neg : Bool) : OpD G (rInD G neg) (inA neg) := by
 intro E H W x y dx dy Q rr hS rx ry e hA
 cases dy with
 | ref a =>
  simp only [inA] at e
  split at e
  ·rename_i ys hl
   split at e
   ·rename_i t ts h1 h2
    obtain rfl := Option.some.inj e
    exact ⟨W, dx, a, ys, t, ts, hS, rx, ry, hl, h1, h2, hA.now hS _ rfl⟩
   ·cases e
  ·cases e
 | _ => cases e
theorem od_notin : OpD G (rInD G true) notinD := od_inK true
end
end Np
end
section
namespace Np
open PySem PySem.Spec PyProof.Rows L2
theorem qBm.at' (x : qBm P w H h a o) : ∃ ob, h.get? a = some ob := by
 cases o with
 | lst xs => obtain ⟨_, _, _, _, e⟩ := x; exact ⟨_, e⟩
 | tup xs => obtain ⟨_, _, _, o, e, _⟩ := x; exact ⟨_, e⟩
 | dK kvs => obtain ⟨_, _, _, _, o, _, _, e, _⟩ := x; exact ⟨_, e⟩
 | dT kvs => obtain ⟨_, _, _, _, o, _, _, e, _⟩ := x; exact ⟨_, e⟩
 | set S n => obtain ⟨o, _, _, _, e, _⟩ := x; exact ⟨_, e⟩
 | ins C dx fs => obtain ⟨_, _, _, e, _⟩ := x; exact ⟨_, e⟩
 | own y => obtain ⟨_, e⟩ := x; exact ⟨_, e⟩
 | xd fs => obtain ⟨_, ⟨_, _, _, e, _⟩, _⟩ := x; exact ⟨_, e⟩
 | rng lo hi => obtain ⟨_, _, _, e⟩ := x; exact ⟨_, e⟩
 | frz ob u => obtain ⟨e, _⟩ := x; exact ⟨_, e⟩
 | tbl ps => exact ⟨_, (show h.get? a = some _ from x)⟩
 | met f y => exact ⟨_, (show h.get? a = some _ from x)⟩
 | ext φ => obtain ⟨_, ⟨_, e⟩, _⟩ := x; exact ⟨_, e⟩
structure Fly (P : Program) (w : World) (l : List Env) (H H' : Hp) (s : Shared) (ea : Addr) (B h : Heap) : Prop where
 un : Un (frs l) [] H H' s.heap h
 hok : HOk P w H' h
 newe : s.heap.get? ea = none
 free : H' ea = none
 frf : ∀ b ∈ frs l, H' b = none
 ff : h.FunFrames B l
 keep : ∀ b o, h.get? b = some o -> ((∃ o0, s.heap.get? b = some o0) \/ H' b ≠ none) -> b ∉ frs l -> B.get? b = some o
 st : B.StaysIn h
theorem Un.less (u : Un (L :: fs) [] H H' h h') (n : h.get? L = none) : Un fs [] H H' h h' := by
 have ne : ∀ b o, h.get? b = some o -> b ≠ L := fun b o e z => by rw [z, n] at e; cases e
 refine ⟨fun b o e hn hb hx => u.keep b o e hn (fun z => ?_) hx, fun b o e hn hb hx => u.slot b o e hn (.tail _ hb) hx, u.free, u.there, u.tups, u.frzs, u.tbls⟩
 rcases jAo.mp z with z | z
 ·exact ne b o e z
 ·exact hb z
section
variable {X : Cx} {pins : List (Addr × Obj)} {σ : L2.St} {H : Hp} {s : Shared} {ea : Addr}
theorem Inv.names (I : Inv X pins σ H s) (hN : X.N.Nodup) (hj : X.N[j]? = some n) (hm : ∀ (i : Nat) (x : Str) (v : V), X.N[i]? = some x -> σ[i]? = some (some v) -> Vis X.env.scope x -> ∃ u, RelV v u /\ Look X.env s.heap m x u)
  (hn : h'.Ns X.env.locals (fun x => if x = n then v else m x)) (hs : Heap.SameBut X.env.locals s.heap h') : Inv X pins (σ.set j none) H { s with heap := h', toks := t } := by
 have cne := I.cne
 refine ⟨I.ok, I.os, I.bare, ⟨fun b o e nn hb hx => ?_, fun b o e nn hb hx => ?_, I.base.free, fun b o e hx => ?_, I.base.tups, I.base.frzs, I.base.tbls⟩, ⟨_, hn, fun i y v' e1 e2 e3 => ?_⟩, fun y c e => ?_, I.free, I.freeC, fun p hp => ?_, fun b ob e => ?_, by simpa using I.len⟩
 ·exact (hs.2 b (jAf (jAd (jAc e) I.ok.above))).trans (I.base.keep b o e nn hb hx)
 ·obtain ⟨sl, e1⟩ := I.base.slot b o e nn hb hx
  exact ⟨sl, (hs.2 b (jAf (jAd (jAc e) I.ok.above))).trans e1⟩
 ·obtain ⟨o', e1⟩ := I.base.there b o e hx
  exact ⟨o', (hs.2 b (jAf (jAd (jAc e) I.ok.above))).trans e1⟩
 ·by_cases hi : i = j
  ·subst hi
   exfalso
   rw [List.getElem?_set] at e2
   split at e2
   ·split at e2 <;> cases e2
   ·rename_i z; exact z rfl
  ·rw [jAt (Ne.symm hi)] at e2
   obtain ⟨u, r, l⟩ := hm i y v' e1 e2 e3
   refine ⟨u, r, ?_⟩
   rcases l with ⟨k, e⟩ | ⟨k, c, e, z⟩
   ·refine .inl ⟨k, ?_⟩
    have : y ≠ n := fun e => hi (qFq hN e1 (e ▸ hj))
    simp [this, e]
   ·exact .inr ⟨k, c, e, z.sameBut hs (cne y c e)⟩
 ·obtain ⟨w', z⟩ := I.cell y c e
  exact ⟨w', z.sameBut hs (cne y c e)⟩
 ·obtain ⟨e, nn, ne, nf, d⟩ := I.pin p hp
  exact ⟨(hs.2 p.1 ne).trans e, nn, ne, nf, d⟩
 ·refine (I.hok b ob e).stay (fun c w' hc q => (hs.2 c ?_).trans q) (fun _ q => q) fun _ _ q => q
  rintro rfl
  have fr := I.free
  rcases hc with rfl | hc
  ·rw [fr] at e; cases e
  ·rw [fr] at hc; cases hc
end
theorem isx_nested {K : PySem.W.Frag} {M : Model} {A : Around} {E : Value -> Shared -> Prop} {s : Shared} {x t c : Value} {dep : Int} {tk : Tok} {Q : Fin -> Shared -> Prop} (X : K.In s.heap) (LT : PySem.W.Looks M s.heap (typeOf x) t) (e : jCs K t c = some true) (h : Q (.done (.ret (.bool true))) s) :
  wpAny M A (Builtin.«isinstance.nested» ⟨[x, c, .int dep tk], []⟩) Q E s := by
 obtain ⟨h0, g, d, tt, os⟩ := s
 unfold jCs at e
 unfold Builtin.«isinstance.nested»
 refine wpAny_bind (LT.at ?_)
 by_cases q : (t == c) = true
 ·rw [if_pos q]
  exact wpAny_bind (wpAny_rule (wpAny_bind (wpAny_pure (wpAny_pure h))))
 ·rw [if_neg q] at e
  rw [if_neg q]
  obtain ⟨hty, his, hsub⟩ := PySem.W.kit_cls (M := M) X e
  have LI : PySem.W.Looks M h0 (isInstance x c) true := LT.andThen hsub
  refine wpAny_bind (hty.at ?_)
  rw [if_pos (by decide)]
  k_delta "plainIsInstance"
  refine wpAny_bind (wpAny_bind (his.at ?_))
  simp only [Bool.not_true, Bool.false_eq_true, if_false]
  refine wpAny_bind (LI.at ?_)
  simp only [if_true]
  exact wpAny_pure (wpAny_pure h)
theorem isx_call {K : PySem.W.Frag} {prog : Program} {w : World} {A : Around} {E : Value -> Shared -> Prop} {s : Shared} {x t c : Value} {Q : Value -> Shared -> Prop} (X : K.In s.heap) (ht : ∀ M, PySem.W.Looks M s.heap (typeOf x) t) (e : jCs K t c = some true) (hx : x ≠ .builtin "__main__.__loader__#opaque") (h : Q (.bool true) s) :
  wpAny (model prog w) A (call (.builtin "isinstance") [x, c]) Q E s :=
 call_isinstance (S := fun _ R s => (K.In s.heap /\ ∀ M, PySem.W.Looks M s.heap (typeOf x) t) /\ R (.ok (.ret (.bool true))) s) (fun _ _ _ _ _ hs => isinstance_outer (isx_nested hs.1.1 (hs.1.2 _) e hs.2) hx) ⟨⟨X, ht⟩, h⟩
end Np
end
section
namespace Np
open PySem PySem.Spec PyProof.Rows L2
structure ExcGet (K : PySem.W.Frag) (C : Addr) : Prop where
 cls : (PySem.W.clsIn K C).isSome = true
 ga : jA2 K (.ref C) "__getattribute__" = some (some (.builtin "BaseException.__getattribute__"))
 nga : jA2 K (.ref C) "__getattr__" = some none
 cl : jA2 K (.ref C) "__class__" = some (some (.builtin "object.__class__"))
 be : PySem.W.subIn K (.ref C) (.type "BaseException") = some true
 ob : PySem.W.subIn K (.ref C) (.type "object") = some true
theorem qE7 : ∀ {fs : List (Str × D)} {ps : List (Str × V)}, ps.map (·.1) = fs.map (·.1) -> RepL G H W (fs.map (·.2)) (ps.map (·.2)) -> fs.lookup f = some d -> ∃ v, ps.lookup f = some v /\ Rep G H W d v
 | [], _, _, _, h => by cases h
 | (g, x) :: fs, ps, e, r, h => by
  cases ps with
  | nil => cases e
  | cons p ps =>
   obtain ⟨k, v⟩ := p
   obtain ⟨e1, e2⟩ := List.cons.inj e
   have e1 : k = g := e1
   subst e1
   obtain ⟨v', r', ev, r1, r2⟩ := r
   obtain ⟨rfl, rfl⟩ := List.cons.inj ev
   rw [jCi] at h ⊢
   split at h
   ·rename_i hb
    cases h
    exact ⟨v, rfl, r1⟩
   ·exact qE7 e2 r2 h
theorem qBz : ∀ {fs : List (Str × D)} {ps : List (Str × V)}, ps.map (·.1) = fs.map (·.1) -> fs.lookup f = none -> ps.lookup f = none
 | [], ps, e, _ => by
  cases ps with
  | nil => rfl
  | cons p ps => cases e
 | (g, x) :: fs, ps, e, h => by
  cases ps with
  | nil => cases e
  | cons p ps =>
   obtain ⟨k, v⟩ := p
   obtain ⟨e1, e2⟩ := List.cons.inj e
   have e1 : k = g := e1
   subst e1
   rw [jCi] at h ⊢
   split at h
   ·cases h
   ·exact qBz e2 h
theorem put_rep (q : Rep G H W d v) : ∀ {fs : List (Str × D)} {ps : List (Str × V)}, ps.map (·.1) = fs.map (·.1) -> RepL G H W (fs.map (·.2)) (ps.map (·.2)) -> (putF f v ps).map (·.1) = (putD f d fs).map (·.1) /\ RepL G H W ((putD f d fs).map (·.2)) ((putF f v ps).map (·.2))
 | [], ps, e, _ => by
  cases ps with
  | nil => exact ⟨rfl, ⟨v, [], rfl, q, rfl⟩⟩
  | cons p ps => cases e
 | (g, x) :: fs, ps, e, r => by
  cases ps with
  | nil => cases e
  | cons p ps =>
   obtain ⟨k, y⟩ := p
   obtain ⟨e1, e2⟩ := List.cons.inj e
   have e1 : k = g := e1
   subst e1
   obtain ⟨v', r', ev, r1, r2⟩ := r
   obtain ⟨rfl, rfl⟩ := List.cons.inj ev
   rw [show putF f v ((k, y) :: ps) = (if k = f then (k, v) :: ps else (k, y) :: putF f v ps) from rfl, show putD f d ((k, x) :: fs) = (if k = f then (k, d) :: fs else (k, x) :: putD f d fs) from rfl]
   by_cases hk : k = f
   ·rw [if_pos hk, if_pos hk]
    exact ⟨congrArg (k :: ·) e2, ⟨v, _, rfl, q, r2⟩⟩
   ·rw [if_neg hk, if_neg hk]
    obtain ⟨i1, i2⟩ := put_rep q e2 r2
    exact ⟨congrArg (k :: ·) i1, ⟨y, _, rfl, r1, i2⟩⟩
section
variable {X : Cx} {E : XK} {c f m : Str} {C : Addr} {e o : Expr} {ge go : DE} {pos pos' : Pos}
theorem StOk.inst (h : StOk (gx X) H W) (hm : X.mg c = some (.ref C)) (e : qAo W.S a = some (c, fs)) : ∃ dx ps, H (W.μ a) = some (.ins C dx ps) /\ ps.map (·.1) = fs.map (·.1) /\ RepL (gx X) H W (fs.map (·.2)) (ps.map (·.2)) := by
 obtain ⟨C', dx, ps, m', q, n, r⟩ := h.get a _ (qDc e)
 have m' : X.mg c = some (.ref C') := m'
 rw [hm] at m'
 cases m'
 exact ⟨dx, ps, q, n, r⟩
theorem pd_fld (hc : Cls X.K C) (hn : qC5 X.K C f) (hm : X.mg c = some (.ref C)) (he : PDE X E e ge) (hb : attributeBase e f X.env (eval e X.env) = eval e X.env := by rfl) : PDE X E (.Attribute e f pos) (op1 (fldD c f) ge) := by
 try unfold PDE at *
 refine PE.imp (pe_fld he hb) fun σ H Q ⟨W, δ, rr, hS, hδ, hg, hA⟩ => ?_
 refine Go.thn hS hδ hg hA fun d H1 W1 s1 hδ1 hg1 hA1 v rv => ?_
 unfold fldD at hg1
 split at hg1
 ·rename_i a
  split at hg1
  ·rename_i c' fs hi
   split at hg1
   ·rename_i ec
    subst ec
    split at hg1
    ·rename_i d hl
     obtain rfl : Rs.ok d W1.S = rr := Option.some.inj hg1
     obtain ⟨dx, ps, q, n, r⟩ := s1.ok.inst hm hi
     obtain ⟨u, hu, ru⟩ := qE7 n r hl
     exact ⟨_, C, dx, ps, u, rv.2, q, hc, hn, hu, hA1.now s1.ok _ ru⟩
    ·cases hg1
   ·cases hg1
  ·cases hg1
 ·cases hg1
theorem pd_setf (hc : Cls X.K C) (hn : qC5 X.K C f) (hm : X.mg c = some (.ref C)) (ho : PDE X E o go) (hv : PDE X E value gv) (hs : swapsWith value (some (.Attribute o f pos')) pos.line X.env = pure false := by rfl) :
  PDS X E (.Assign [.Attribute o f pos'] value pos) (qBp c f go gv) := by
 try unfold PDE at *
 try unfold PDS at *
 refine PS.imp (ps_fld ho hv hs) fun D σ H ⟨W, δ, rr, hS, hδ, hg, hA⟩ => ?_
 refine Go.thn hS hδ hg hA fun d H1 W1 s1 hδ1 hg1 hA1 v rv => ?_
 refine Go.thn s1.ok hδ1 hg1 hA1 fun x H2 W2 s2 hδ2 hg2 hA2 y ry => ?_
 have rv2 := rv.mv (s2.mv s1.ok)
 unfold qFl at hg2
 split at hg2
 ·rename_i a
  split at hg2
  ·rename_i c' fs hi
   split at hg2
   ·rename_i ec
    obtain ⟨ec, hl⟩ := ec
    subst ec
    obtain rfl : Rs.ok (Fl.nx δ) (W2.S.set a (.ins c' (putD f d fs))) = rr := Option.some.inj hg2
    obtain ⟨dx, ps, q, n, r⟩ := s2.ok.inst hm hi
    refine ⟨_, C, dx, ps, ry.2, q, hc, hn, ?_, ?_⟩
    ·have := congrArg jBp n
     simp at this
     omega
    ·have mp := Mv.put (G := gx X) (W := W2) s2.ok ry.1 (.ins C dx (putF f v ps)) (.ins c' (putD f d fs))
     obtain ⟨k1, k2⟩ := put_rep (f := f) rv2 n r
     have nx : Nxt (gx X) H2 W2 (upd H2 (W2.μ a) (.ins C dx (putF f v ps))) (W2.put a (.ins c' (putD f d fs))) := Nxt.write s2.ok ry.1 ⟨C, dx, putF f v ps, hm, zW, k1, k2.mv mp⟩
     exact hA2 _ (W2.put a (.ins c' (putD f d fs))) rfl nx σ (hδ2.mv mp)
   ·cases hg2
  ·cases hg2
 ·cases hg2
theorem pd_meth (hc : Cls X.K C) (hM : Meth X.K C m fa) (hm : X.mg c = some (.ref C)) (O : FnOk X.prog X.w X.K X.mg X.base CX k fa fd ps (spF (gx X) F)) (hr : Room k X.A) (hb : zV X.K fd ps []) (hx : qBb CX X E) (ho : PDE X E o go) (ha : PDA X E (e :: es) gs)
  (hst : starEach (e :: es) X.env = (false, eval e X.env) :: starEach es X.env := by rfl) (hpl : (backTo pos (starEach es X.env)).any (·.1) = false := by rfl)
  (ht : eval (.Call (.Attribute o m apos) (e :: es) [] pos) X.env = (do
   let ov <- eval o X.env
   standAt apos.atName
   let (f, first) <- holding [ov] (getMethod ov m pl)
   callWith pos f first (backTo pos (starEach (e :: es) X.env)) (backToKw pos (keywordEach [] X.env))) := by rfl) : PDE X E (.Call (.Attribute o m apos) (e :: es) [] pos) (qAa c m F go gs) := by
 try unfold PDE at *
 try unfold PDA at *
 refine PE.imp (pe_meth ho hc hM O hr hb .nil hx ha hst hpl ht) fun σ H Q ⟨W, δ, rr, hS, hδ, hg, hA⟩ => ?_
 refine Go.thn hS hδ hg hA fun d H1 W1 s1 hδ1 hg1 hA1 v rv => ?_
 unfold qEx at hg1
 split at hg1
 ·rename_i a
  split at hg1
  ·rename_i c' fs hi
   split at hg1
   ·rename_i ec
    obtain ⟨ec, hl⟩ := ec
    subst ec
    obtain ⟨dx, qs, q, n, r⟩ := s1.ok.inst hm hi
    refine ⟨_, dx, qs, rv.2, q, qBz n hl, ?_⟩
    refine Go.thn s1.ok hδ1 hg1 hA1 fun as H2 W2 s2 hδ2 hg2 hA2 vs rvs => ?_
    rw [rv.2]
    exact ⟨W2, .ref a :: as, rr, s2.ok, by rw [jBh]; exact ⟨_, _, rfl, by rw [<- rv.2]; exact rv.mv (s2.mv s1.ok), rvs⟩, hg2, hA2⟩
   ·cases hg1
  ·cases hg1
 ·cases hg1
theorem pd_meth0 (hc : Cls X.K C) (hM : Meth X.K C m fa) (hm : X.mg c = some (.ref C)) (O : FnOk X.prog X.w X.K X.mg X.base CX k fa fd ps (spF (gx X) F)) (hr : Room k X.A) (hb : zV X.K fd ps []) (hx : qBb CX X E) (ho : PDE X E o go)
  (ht : eval (.Call (.Attribute o m apos) [] [] pos) X.env = (do
   let ov <- eval o X.env
   standAt apos.atName
   let (f, first) <- holding [ov] (getMethod ov m pl)
   callWith pos f first (backTo pos (starEach [] X.env)) (backToKw pos (keywordEach [] X.env))) := by rfl) : PDE X E (.Call (.Attribute o m apos) [] [] pos) (qAa c m F go aNil) := by
 try unfold PDE at *
 refine PE.imp (pe_meth0 ho hc hM O hr hb .nil hx ht) fun σ H Q ⟨W, δ, rr, hS, hδ, hg, hA⟩ => ?_
 refine Go.thn hS hδ hg hA fun d H1 W1 s1 hδ1 hg1 hA1 v rv => ?_
 unfold qEx at hg1
 split at hg1
 ·rename_i a
  split at hg1
  ·rename_i c' fs hi
   split at hg1
   ·rename_i ec
    obtain ⟨ec, hl⟩ := ec
    subst ec
    obtain ⟨dx, qs, q, n, r⟩ := s1.ok.inst hm hi
    refine ⟨_, dx, qs, rv.2, q, qBz n hl, ?_⟩
    rw [rv.2]
    exact ⟨W1, [.ref a], rr, s1.ok, ⟨_, _, rfl, by rw [<- rv.2]; exact rv, rfl⟩, hg1, hA1⟩
   ·cases hg1
  ·cases hg1
 ·cases hg1
theorem pd_make (hM : Mk X.K C fa) (hm : X.mg c = some (.ref C)) (O : FnOk X.prog X.w X.K X.mg X.base CX k fa fd ps (spF (gx X) F)) (hr : Room (k + 1) X.A) (hg : Gl X c) (hb : zV X.K fd ps []) (hx : qBb CX X E) (ha : PDA X E (e :: es) gs)
  (hdb : (c == ("__debug__" : Str)) = false := by decide +kernel) (he : starEach (e :: es) X.env = (false, eval e X.env) :: starEach es X.env := by rfl) (hpl : (backTo pos (starEach es X.env)).any (·.1) = false := by rfl) :
  PDE X E (.Call (.Name c p) (e :: es) [] pos) (mkE c F gs) := by
 try unfold PDE at *
 try unfold PDA at *
 refine PE.imp (pe_make hM O hr hg hm hb .nil hx ha hdb he hpl) fun σ H Q ⟨W, δ, rr, hS, hδ, hg, hA⟩ => ?_
 refine Go.thn hS hδ hg hA fun as H1 W1 s1 hδ1 hg1 hA1 vs rvs x dx nx ndx ne => ?_
 have n1 := Nxt.heap s1.ok ndx (.own x)
 have nx' : upd H1 dx (.own x) x = none := by rw [zO (Ne.symm ne)]; exact nx
 have n2 : Nxt (gx X) (upd H1 dx (.own x)) W1 (upd (upd H1 dx (.own x)) x (.ins C dx [])) (W1.push x (.ins c [])) := Nxt.alloc n1.ok nx' ⟨C, dx, [], hm, zW, rfl, rfl⟩
 have n12 := n1.trans n2
 have hμ : (W1.push x (.ins c [])).μ W1.S.length = x := if_pos rfl
 have hl : W1.S.length < (W1.push x (.ins c [])).S.length := by simp [Wd.push]
 unfold mkA at hg1
 cases hF : F (.ref W1.S.length :: as) (W1.S ++ [.ins c []]) with
 | none => rw [hF] at hg1; cases hg1
 | some r =>
  rw [hF] at hg1
  refine ⟨W1.push x (.ins c []), .ref W1.S.length :: as, r, n12.ok, ?_, hF, ?_⟩
  ·rw [jBh]
   exact ⟨_, _, rfl, ⟨hl, by rw [hμ]⟩, rvs.mv (n12.mv s1.ok)⟩
  ·cases r with
   | ok d S' =>
    cases d with
    | non =>
     obtain rfl : Rs.ok (D.ref W1.S.length) S' = rr := Option.some.inj hg1
     intro H' W' eS n3 v rv
     refine ⟨rv, hA1 H' W' eS (n12.trans n3) _ ⟨jAd hl n3.len, ?_⟩⟩
     rw [n3.old _ hl, hμ]
    | _ => cases hg1
   | er c' S' =>
    obtain rfl : Rs.er c' S' = rr := Option.some.inj hg1
    obtain ⟨C', hC', h⟩ := hA1
    exact ⟨C', hC', fun H' W' eS n3 => h H' W' eS (n12.trans n3)⟩
theorem pd_methD (hc : Cls X.K C) (hM : Meth X.K C m fa) (hm : X.mg c = some (.ref C)) (O : FnOk X.prog X.w X.K X.mg X.base CX k fa fd ps (spF (gx X) F)) (hr : Room k X.A) (hb : zV X.K fd ps [.none]) (hx : qBb CX X E) (ho : PDE X E o go) (ha : PDA X E (e :: es) gs)
  (hst : starEach (e :: es) X.env = (false, eval e X.env) :: starEach es X.env := by rfl) (hpl : (backTo pos (starEach es X.env)).any (·.1) = false := by rfl)
  (ht : eval (.Call (.Attribute o m apos) (e :: es) [] pos) X.env = (do
   let ov <- eval o X.env
   standAt apos.atName
   let (f, first) <- holding [ov] (getMethod ov m pl)
   callWith pos f first (backTo pos (starEach (e :: es) X.env)) (backToKw pos (keywordEach [] X.env))) := by rfl) : PDE X E (.Call (.Attribute o m apos) (e :: es) [] pos) (qAa c m (fnD F [.non]) go gs) := by
 try unfold PDE at *
 try unfold PDA at *
 refine PE.imp (pe_meth ho hc hM O hr hb (dvs := [.non]) (.cons (show RelV V.non Value.none from rfl) .nil) hx ha hst hpl ht) fun σ H Q ⟨W, δ, rr, hS, hδ, hg, hA⟩ => ?_
 refine Go.thn hS hδ hg hA fun d H1 W1 s1 hδ1 hg1 hA1 v rv => ?_
 unfold qEx at hg1
 split at hg1
 ·rename_i a
  split at hg1
  ·rename_i c' fs hi
   split at hg1
   ·rename_i ec
    obtain ⟨ec, hl⟩ := ec
    subst ec
    obtain ⟨dx, qs, q, n, r⟩ := s1.ok.inst hm hi
    refine ⟨_, dx, qs, rv.2, q, qBz n hl, ?_⟩
    refine Go.thn s1.ok hδ1 hg1 hA1 fun as H2 W2 s2 hδ2 hg2 hA2 vs rvs => ?_
    rw [rv.2]
    exact ⟨W2, D.ref a :: (as ++ [D.non]), rr, s2.ok, ⟨_, _, rfl, by rw [<- rv.2]; exact rv.mv (s2.mv s1.ok), rvs.append ⟨_, _, rfl, rfl, rfl⟩⟩, hg2, hA2⟩
   ·cases hg1
  ·cases hg1
 ·cases hg1
theorem cd_min : qEz G (fun xs H Q => ∃ i j, xs = [.int i, .int j] /\ Q (.int (if j < i then j else i)) H) minD := by
 intro E H W vs ds Q rr hS rl e hA
 unfold minD at e
 split at e
 ·rename_i i j
  obtain rfl : Rs.ok (D.int (if j < i then j else i)) W.S = rr := Option.some.inj e
  obtain ⟨v, r, rfl, q, v2, r2, rfl, q2, t⟩ := rl
  have q : v = .int i := q
  have q2 : v2 = .int j := q2
  have t : r2 = [] := t
  subst q q2 t
  exact ⟨i, j, rfl, hA.now hS _ rfl⟩
 ·cases e
theorem RepL.erase : ∀ {ds : List D} {vs : List V} (k : Nat), RepL G H W ds vs -> RepL G H W (ds.eraseIdx k) (vs.eraseIdx k)
 | [], _, _, h => by cases h; rfl
 | d :: ds, _, 0, h => by
  obtain ⟨v, r, rfl, q, t⟩ := h
  exact t
 | d :: ds, _, k + 1, h => by
  obtain ⟨v, r, rfl, q, t⟩ := h
  exact ⟨v, _, rfl, q, RepL.erase k t⟩
theorem pd_popAt (ho : PDE X E o go) (he : PDE X E e ge) (hbase : attributeBase o "pop" X.env (eval o X.env) = eval o X.env := by rfl)
  (hfew : ((backTo cpos (starEach (e :: []) X.env)).all (fun x => !x.1) && (backToKw cpos (keywordEach [] X.env)).all (fun x => x.1.isSome) && decide ((e :: []).length + ([] : List Keyword).length + (if ([] : List Keyword).isEmpty then 0 else 1) < 30)) = true := by rfl)
  (hline : (apos.endLine == cpos.line) = true := by rfl) (hs : starEach (e :: []) X.env = (false, eval e X.env) :: starEach [] X.env := by rfl) (hplain : (backTo cpos (starEach [] X.env)).any (·.1) = false := by rfl) :
  PDE X E (.Call (.Attribute o "pop" apos) [e] [] cpos) (opM qDh go ge) := by
 have hm := tF_meth (X := X) (E := E) (go := go) (ge := ge) (f := qDh) (r := rPopAt) fun E H W x y dx dy Q rr hS rx ry e hA => by
  unfold qDh at e
  split at e
  ·rename_i a i
   split at e
   ·rename_i xs hx
    split at e
    ·rename_i hi
     split at e
     ·rename_i d hd
      obtain rfl : Rs.ok d (W.S.set a (.lst (xs.eraseIdx i.toNat))) = rr := Option.some.inj e
      obtain ⟨us, ex, hq, rl⟩ := hS.lst rx hx
      obtain ⟨v, hv, rv⟩ := rl.get hd
      have hlt : i.toNat < xs.length := (jAr.mp hd).1
      have hl := rl.length
      refine ⟨_, us, i, i.toNat, v, ex, by rw [show y = .int i from ry], hq, by omega, by omega, ?_, hv, ?_⟩
      ·exact seqIndex_of hi.1 (by omega)
      ·exact hA _ (W.put a (.lst (xs.eraseIdx i.toNat))) rfl (Nxt.write hS rx.1 ⟨_, zW, (rl.erase i.toNat).mv (Mv.put hS rx.1 _ _)⟩) v (rv.mv (Mv.put hS rx.1 _ _))
     ·cases e
    ·cases e
   ·cases e
  ·cases e
 (try unfold PDE); exact PE.imp (pe_bm PySem.F.plainAttrs_list PySem.F.slot_list_pop PySem.F.type_list_pop mt_popAt ho.o (zB he zE hs).o hbase hfew hline hs hplain) hm
end
end Np
end
section
namespace Np
open PySem PySem.Spec PyProof.Rows L2
section
variable {P : Program} {w : World} {A : Around}
structure Itx (P : Program) (w : World) (A : Around) (i l : Addr) (St : Nat -> Heap -> Prop) (g : Nat -> Option Value) : Prop where
 ext : ∀ k h h' b, St k h -> Heap.ExtBut b h h' -> i ≠ b -> l ≠ b -> St k h'
 more : ∀ k (s : Shared) v (Q : Value -> Shared -> Prop) (E : Value -> Shared -> Prop), St k s.heap -> g k = some v -> (∀ h', St (k + 1) h' -> Heap.SameBut i s.heap h' -> Q v { s with heap := h' }) -> wpAny (model P w) A (Builtin.SmallTypes.nextOf (.ref i)) Q E s
 over : ∀ k (s : Shared) (Q : Value -> Shared -> Prop) (E : Value -> Shared -> Prop), St k s.heap -> g k = none -> (∀ h' e, Heap.ExtBut i s.heap h' -> (∃ o, h'.get? e = some o /\ o.cls = .type "StopIteration") -> E (.ref e) { s with heap := h' }) -> wpAny (model P w) A (Builtin.SmallTypes.nextOf (.ref i)) Q E s
theorem qFw (hh : A.handled = none) (i src : Addr) (xs : Array Value) : Itx P w A i src (fun k h => h.IsTupleIter i src k /\ h.IsTuple src xs) (fun k => xs[k]?) where
 ext := fun k h h' b st e h1 h2 => ⟨st.1.extBut e h1, st.2.extBut e h2⟩
 more := fun k s v Q E st hv q => by
  obtain ⟨ob, g1, g2, g3⟩ := id st.1
  obtain ⟨ot, e1, e2, nn, e3⟩ := id st.2
  have hli : src ≠ i := fun z => by
   subst z
   rw [g1] at e1
   cases e1
   rw [g2] at e2
   exact absurd e2 (by decide)
  unfold Builtin.SmallTypes.nextOf
  refine wpAny_bind (wpAny_callSpecial?_slot (name := Str.ofString "__next__") st.1.typeIs F.slot_tuple_iterator_next (wpAny_call_entry F.slot_tuple_iterator_next st.1.typeIs F.entry_tuple_iterator_next ?_ (F.args_tuple_iterator_next_1 _)))
  show wpAny _ _ (field (.ref i) 0 >>= _) _ _ s
  refine wpAny_bind (wpAny_field g1 g3 (x := .ref src) rfl ?_)
  show wpAny _ _ (if (Value.ref src == Value.none) = true then _ else _) _ _ s
  rw [if_neg (show ¬ ((Value.ref src == Value.none) = true) from Bool.false_ne_true)]
  show wpAny _ _ (field (.ref i) 1 >>= _) _ _ s
  refine wpAny_bind (wpAny_field g1 g3 (x := .int k 0) rfl ?_)
  show wpAny _ _ (seqItems? (.ref src) >>= _) _ _ s
  refine wpAny_bind (wpAny_seqItems e1 e3 ?_)
  simp only [jCt, hv]
  refine wpAny_bind (wpAny_setField g1 g3 (by simp) (wpAny_pure ⟨v, rfl, wpAny_pure (q _ ⟨?_, st.2.extBut (Heap.SameBut.update ..).extBut hli⟩ (Heap.SameBut.update ..))⟩))
  exact ⟨_, jB1 _ g1 (Obj.isFreed_of_fields (Obj.data_mapFields g3 _)), (Obj.cls_mapFields ..).trans g2, by rw [Obj.data_mapFields g3]; simp [rawInt]⟩
 over := fun k s Q E st hv q => by
  obtain ⟨ob, g1, g2, g3⟩ := id st.1
  obtain ⟨ot, e1, e2, nn, e3⟩ := id st.2
  unfold Builtin.SmallTypes.nextOf
  refine wpAny_bind (wpAny_callSpecial?_slot (name := Str.ofString "__next__") st.1.typeIs F.slot_tuple_iterator_next (wpAny_call_entry F.slot_tuple_iterator_next st.1.typeIs F.entry_tuple_iterator_next ?_ (F.args_tuple_iterator_next_1 _)))
  show wpAny _ _ (field (.ref i) 0 >>= _) _ _ s
  refine wpAny_bind (wpAny_field g1 g3 (x := .ref src) rfl ?_)
  show wpAny _ _ (if (Value.ref src == Value.none) = true then _ else _) _ _ s
  rw [if_neg (show ¬ ((Value.ref src == Value.none) = true) from Bool.false_ne_true)]
  show wpAny _ _ (field (.ref i) 1 >>= _) _ _ s
  refine wpAny_bind (wpAny_field g1 g3 (x := .int k 0) rfl ?_)
  show wpAny _ _ (seqItems? (.ref src) >>= _) _ _ s
  refine wpAny_bind (wpAny_seqItems e1 e3 ?_)
  simp only [jCt, hv]
  refine wpAny_bind (wpAny_rule (wpAny_bind (wpAny_setField g1 g3 (by simp) ?_)))
  show wpAny _ _ (newExc (.type "StopIteration") [] >>= _) _ _ _
  refine wpAny_bind ?_
  simp only [newExc, newTuple]
  refine wpAny_bind (wpAny_newObj_type ?_ (by size_fits))
  refine wpAny_bind (m := firstArgMember _ _) (wpAny_of_eq (a := Value.none) (by first | rfl | (simp only [firstArgMember]; rfl)) ?_)
  refine wpAny_newObj_type ?_ (by size_fits)
  simp only [raiseNew]
  refine wpAny_bind (wpAny_handled ?_)
  first | rw [show A.in1.handled = none from hh] | rw [hh]
  refine wpAny_bind (wpAny_pure (wpAny_throw ?_))
  exact q _ _ (((Heap.SameBut.update ..).extBut.push _).push _) ⟨_, jAw _ rfl, rfl⟩
theorem zip_more {zz ta tb ia ib la lb : Addr} {Sa Sb : Nat -> Heap -> Prop} {ga gb : Nat -> Option Value} {k1 k2 : Nat} {x y a b : Value} {s : Shared} {E : Value -> Shared -> Prop} {Q : Value -> Shared -> Prop} (D : ZipApart zz ta tb ia ib la lb) (Ia : Itx P w A ia la Sa ga) (Ib : Itx P w A ib lb Sb gb)
  (hz : IsZip s.heap zz ta tb .none) (h3 : IsPair s.heap ta (.ref ia) (.ref ib)) (h4 : IsPair s.heap tb a b) (h1 : Sa k1 s.heap) (h2 : Sb k2 s.heap) (hx : ga k1 = some x) (hy : gb k2 = some y)
  (hQ : ∀ h', IsZip h' zz ta tb (rawInt s.heap.objs.size) -> IsPair h' tb x y -> Sa (k1 + 1) h' -> Sb (k2 + 1) h' -> IsPair h' s.heap.objs.size x y ->
   (∀ c o, c ≠ zz -> c ≠ tb -> c ≠ ia -> c ≠ ib -> s.heap.get? c = some o -> h'.get? c = some o) -> Q (.ref s.heap.objs.size) { s with heap := h' }) :
  wpAny (model P w) A (Builtin.«zip.__next__» ⟨[.ref zz], []⟩) (fun fin s' => ∃ v, fin = .done (.ret v) /\ Q v s') E s := by
 show wpAny _ _ (field (.ref zz) 2 >>= _) _ _ _
 refine wpAny_bind (wpAny_field hz rfl (x := .bool false) rfl ?_)
 show wpAny _ _ (field (.ref zz) 3 >>= _) _ _ _
 refine wpAny_bind (wpAny_field hz rfl (x := .ref ta) rfl ?_)
 refine wpAny_bind (wpAny_seqItems h3 rfl ?_)
 show wpAny _ _ (Builtin.SmallTypes.ownedTupleIsFree (.ref zz) >>= _) _ _ _
 refine wpAny_bind ?_
 unfold Builtin.SmallTypes.ownedTupleIsFree
 refine wpAny_bind (wpAny_field hz rfl (x := .none) rfl (wpAny_pure ?_))
 simp only [if_true]
 refine wpAny_bind (wpAny_rule ?_)
 refine wpAny_bind (wpAny_field hz rfl (x := .ref tb) rfl ?_)
 refine wpAny_bind (wpAny_setField_rec hz (by simp) fun H1 z1 w1 => ?_)
 replace z1 : IsZip H1 zz ta tb .ellipsis := z1
 refine wpAny_bind ?_
 simp only [List.zipIdx_cons, List.zipIdx_nil, jCj, jCl]
 have a1 : Sa k1 H1 := Ia.ext _ _ _ _ h1 w1.extBut D.i1z D.l1z
 have b1 : Sb k2 H1 := Ib.ext _ _ _ _ h2 w1.extBut D.i2z D.l2z
 refine wpAny_bind (wpAny_bind (wpAny_onRaise ?_))
 show wpAny _ _ (Builtin.SmallTypes.nextOf (.ref ia) >>= _) _ _ _
 refine wpAny_bind (Ia.more k1 _ x _ _ a1 hx fun H2 a2 w2 => wpAny_pure ?_)
 have t2 : IsPair H2 tb a b := w2.extBut _ _ D.TOi1 (w1.extBut _ _ D.TOz h4)
 refine wpAny_bind (wpAny_seqItems t2 rfl ?_)
 refine wpAny_bind (wpAny_updateSeq_pair t2 fun H3 t3 w3 => ?_)
 replace t3 : IsPair H3 tb x b := t3
 refine wpAny_bind (wpAny_letGo (wpAny_pure ?_))
 have b3 : Sb k2 H3 := Ib.ext _ _ _ _ (Ib.ext _ _ _ _ b1 w2.extBut D.i12.symm D.l2i1) w3.extBut D.TOi2.symm D.l2TO
 refine wpAny_bind (wpAny_bind (wpAny_onRaise ?_))
 show wpAny _ _ (Builtin.SmallTypes.nextOf (.ref ib) >>= _) _ _ _
 refine wpAny_bind (Ib.more k2 _ y _ _ b3 hy fun H4 b4 w4 => wpAny_pure ?_)
 have t4 : IsPair H4 tb x b := w4.extBut _ _ D.TOi2 t3
 refine wpAny_bind (wpAny_seqItems t4 rfl ?_)
 refine wpAny_bind (wpAny_updateSeq_pair t4 fun H5 t5 w5 => ?_)
 replace t5 : IsPair H5 tb x y := t5
 refine wpAny_bind (wpAny_letGo (wpAny_pure (wpAny_pure ?_)))
 refine wpAny_bind (wpAny_seqItems t5 rfl ?_)
 refine wpAny_bind (wpAny_newTuple ?_)
 have ez : H5.objs.size = s.heap.objs.size := by rw [w5.1, w4.1, w3.1, w2.1, w1.1]
 have z5 : IsZip H5 zz ta tb .ellipsis := w5.extBut _ _ D.TOz.symm (w4.extBut _ _ D.i2z.symm (w3.extBut _ _ D.TOz.symm (w2.extBut _ _ D.i1z.symm z1)))
 have k5 : ∀ c o, c ≠ zz -> c ≠ tb -> c ≠ ia -> c ≠ ib -> s.heap.get? c = some o -> H5.get? c = some o := fun c o c1 c2 c3 c4 e => w5.extBut _ _ c2 (w4.extBut _ _ c4 (w3.extBut _ _ c2 (w2.extBut _ _ c3 (w1.extBut _ _ c1 e))))
 have a5 : Sa (k1 + 1) H5 := Ia.ext _ _ _ _ (Ia.ext _ _ _ _ (Ia.ext _ _ _ _ a2 w3.extBut D.TOi1.symm D.l1TO) w4.extBut D.i12 D.l1i2) w5.extBut D.TOi1.symm D.l1TO
 have b5 : Sb (k2 + 1) H5 := Ib.ext _ _ _ _ b4 w5.extBut D.TOi2.symm D.l2TO
 have lz : zz < H5.objs.size := jAc z5
 show wpAny _ _ (Builtin.SmallTypes.ownedTupleHandOut (.ref zz) (.ref H5.objs.size) >>= _) _ _ _
 refine wpAny_bind ?_
 unfold Builtin.SmallTypes.ownedTupleHandOut
 have z6 : IsZip (H5.push { cls := .type "tuple", data := .seq #[x, y] }) zz ta tb .ellipsis := jAu _ z5
 refine wpAny_bind (wpAny_setField_rec z6 (by simp) fun H7 z7 w7 => ?_)
 replace z7 : IsZip H7 zz ta tb (rawInt H5.objs.size) := z7
 refine wpAny_setField_rec z7 (by simp) fun H8 z8 w8 => ?_
 replace z8 : IsZip H8 zz ta tb (rawInt H5.objs.size) := z8
 have pu : Heap.ExtBut zz H5 H8 := fun c o c1 e => w8.extBut _ _ c1 (w7.extBut _ _ c1 (jAu _ e))
 have t8 : IsPair H8 H5.objs.size x y := w8.extBut _ _ (jAv lz) (w7.extBut _ _ (jAv lz) (jAw _ rfl))
 rw [ez] at z8 t8
 refine wpAny_pure ⟨_, rfl, ?_⟩
 show Q (.ref H5.objs.size) _
 rw [ez]
 exact hQ H8 z8 (pu _ _ D.TOz t5) (Ia.ext _ _ _ _ a5 pu D.i1z D.l1z) (Ib.ext _ _ _ _ b5 pu D.i2z D.l2z) t8 fun c o c1 c2 c3 c4 e => pu c o c1 (k5 c o c1 c2 c3 c4 e)
theorem zip_over (D : ZipApart zz ta tb ia ib la lb) (Ia : Itx P w A ia la Sa ga) (Ib : Itx P w A ib lb Sb gb)
  (hz : IsZip s.heap zz ta tb .none) (h3 : IsPair s.heap ta (.ref ia) (.ref ib)) (h4 : IsPair s.heap tb a b) (h1 : Sa k1 s.heap) (h2 : Sb k2 s.heap) (hend : ga k1 = none \/ gb k2 = none)
  (hE : ∀ h' e, (∀ c o, c ≠ zz -> c ≠ tb -> c ≠ ia -> c ≠ ib -> s.heap.get? c = some o -> h'.get? c = some o) -> (∃ o, h'.get? e = some o /\ o.cls = .type "StopIteration") -> E (.ref e) { s with heap := h' }) :
  wpAny (model P w) A (Builtin.«zip.__next__» ⟨[.ref zz], []⟩) Q E s := by
 show wpAny _ _ (field (.ref zz) 2 >>= _) _ _ _
 refine wpAny_bind (wpAny_field hz rfl (x := .bool false) rfl ?_)
 show wpAny _ _ (field (.ref zz) 3 >>= _) _ _ _
 refine wpAny_bind (wpAny_field hz rfl (x := .ref ta) rfl ?_)
 refine wpAny_bind (wpAny_seqItems h3 rfl ?_)
 show wpAny _ _ (Builtin.SmallTypes.ownedTupleIsFree (.ref zz) >>= _) _ _ _
 refine wpAny_bind ?_
 unfold Builtin.SmallTypes.ownedTupleIsFree
 refine wpAny_bind (wpAny_field hz rfl (x := .none) rfl (wpAny_pure ?_))
 simp only [if_true]
 refine wpAny_bind (wpAny_rule ?_)
 refine wpAny_bind (wpAny_field hz rfl (x := .ref tb) rfl ?_)
 refine wpAny_bind (wpAny_setField_rec hz (by simp) fun H1 z1 w1 => ?_)
 replace z1 : IsZip H1 zz ta tb .ellipsis := z1
 refine wpAny_bind ?_
 simp only [List.zipIdx_cons, List.zipIdx_nil, jCj, jCl]
 have a1 : Sa k1 H1 := Ia.ext _ _ _ _ h1 w1.extBut D.i1z D.l1z
 have b1 : Sb k2 H1 := Ib.ext _ _ _ _ h2 w1.extBut D.i2z D.l2z
 refine wpAny_bind (wpAny_bind (wpAny_onRaise ?_))
 show wpAny _ _ (Builtin.SmallTypes.nextOf (.ref ia) >>= _) _ _ _
 cases hx : ga k1 with
 | none =>
  refine wpAny_bind (Ia.over k1 _ _ _ a1 hx fun H2 e w2 he => ?_)
  obtain ⟨oe, he1, he2⟩ := he
  have z2 : IsZip H2 zz ta tb .ellipsis := w2 _ _ D.i1z.symm z1
  have nez : e ≠ zz := fun q => by
   subst q
   rw [z2] at he1
   cases he1
   simp at he2
  exact wpAny_setField_rec z2 (by simp) fun H3 _ w3 => hE H3 e (fun c o c1 _ c3 _ q => w3.extBut _ _ c1 (w2 _ _ c3 (w1.extBut _ _ c1 q))) ⟨oe, w3.extBut _ _ nez he1, he2⟩
 | some x =>
  have hy : gb k2 = none := by
   rcases hend with h | h
   ·rw [hx] at h; cases h
   ·exact h
  refine wpAny_bind (Ia.more k1 _ x _ _ a1 hx fun H2 a2 w2 => wpAny_pure ?_)
  have t2 : IsPair H2 tb a b := w2.extBut _ _ D.TOi1 (w1.extBut _ _ D.TOz h4)
  refine wpAny_bind (wpAny_seqItems t2 rfl ?_)
  refine wpAny_bind (wpAny_updateSeq_pair t2 fun H3 t3 w3 => ?_)
  refine wpAny_bind (wpAny_letGo (wpAny_pure ?_))
  have b3 : Sb k2 H3 := Ib.ext _ _ _ _ (Ib.ext _ _ _ _ b1 w2.extBut D.i12.symm D.l2i1) w3.extBut D.TOi2.symm D.l2TO
  refine wpAny_bind (wpAny_bind (wpAny_onRaise ?_))
  show wpAny _ _ (Builtin.SmallTypes.nextOf (.ref ib) >>= _) _ _ _
  refine wpAny_bind (Ib.over k2 _ _ _ b3 hy fun H4 e w4 he => ?_)
  obtain ⟨oe, he1, he2⟩ := he
  have z4 : IsZip H4 zz ta tb .ellipsis := w4 _ _ D.i2z.symm (w3.extBut _ _ D.TOz.symm (w2.extBut _ _ D.i1z.symm z1))
  have nez : e ≠ zz := fun q => by
   subst q
   rw [z4] at he1
   cases he1
   simp at he2
  exact wpAny_setField_rec z4 (by simp) fun H5 _ w5 => hE H5 e (fun c o c1 c2 c3 c4 q => w5.extBut _ _ c1 (w4 _ _ c4 (w3.extBut _ _ c2 (w2.extBut _ _ c3 (w1.extBut _ _ c1 q))))) ⟨oe, w5.extBut _ _ nez he1, he2⟩
theorem next_more (D : ZipApart zz ta tb ia ib la lb)
  (Ia : ∀ A', A'.handled = none -> Itx P w A' ia la Sa ga) (Ib : ∀ A', A'.handled = none -> Itx P w A' ib lb Sb gb) (hh : A.handled = none)
  (hz : IsZip s.heap zz ta tb .none) (h3 : IsPair s.heap ta (.ref ia) (.ref ib)) (h4 : IsPair s.heap tb a b) (h1 : Sa k1 s.heap) (h2 : Sb k2 s.heap) (hx : ga k1 = some x) (hy : gb k2 = some y)
  (hQ : ∀ h', IsZip h' zz ta tb (rawInt s.heap.objs.size) -> IsPair h' tb x y -> Sa (k1 + 1) h' -> Sb (k2 + 1) h' -> IsPair h' s.heap.objs.size x y ->
   (∀ c o, c ≠ zz -> c ≠ tb -> c ≠ ia -> c ≠ ib -> s.heap.get? c = some o -> h'.get? c = some o) -> Q (some (.ref s.heap.objs.size)) { s with heap := h' }) : wpAny (model P w) A (pyNext (.ref zz)) Q E s := by
 have ty : s.TypeIs (.ref zz) "zip" := ⟨_, hz, rfl⟩
 unfold pyNext
 refine wpAny_bind (wpAny_attempt (wpAny_callSpecial?_slot (name := Str.ofString "__next__") ty F.slot_zip_next (wpAny_call_entry F.slot_zip_next ty F.entry_zip_next ?_ (F.args_zip_next_1 _))))
 exact zip_more D (Ia _ hh) (Ib _ hh) hz h3 h4 h1 h2 hx hy fun h' q1 q2 q3 q4 q5 q6 => wpAny_pure (hQ h' q1 q2 q3 q4 q5 q6)
theorem next_over (D : ZipApart zz ta tb ia ib la lb)
  (Ia : ∀ A', A'.handled = none -> Itx P w A' ia la Sa ga) (Ib : ∀ A', A'.handled = none -> Itx P w A' ib lb Sb gb) (hh : A.handled = none)
  (hz : IsZip s.heap zz ta tb .none) (h3 : IsPair s.heap ta (.ref ia) (.ref ib)) (h4 : IsPair s.heap tb a b) (h1 : Sa k1 s.heap) (h2 : Sb k2 s.heap) (hend : ga k1 = none \/ gb k2 = none)
  (hQ : ∀ h', (∀ c o, c ≠ zz -> c ≠ tb -> c ≠ ia -> c ≠ ib -> s.heap.get? c = some o -> h'.get? c = some o) -> Q none { s with heap := h' }) : wpAny (model P w) A (pyNext (.ref zz)) Q E s := by
 have ty : s.TypeIs (.ref zz) "zip" := ⟨_, hz, rfl⟩
 unfold pyNext
 refine wpAny_bind (wpAny_attempt (wpAny_callSpecial?_slot (name := Str.ofString "__next__") ty F.slot_zip_next (wpAny_call_entry F.slot_zip_next ty F.entry_zip_next ?_ (F.args_zip_next_1 _))))
 refine zip_over D (Ia _ hh) (Ib _ hh) hz h3 h4 h1 h2 hend fun h' e hk he => ?_
 obtain ⟨o, ho, hc⟩ := he
 exact wpAny_bind (wpAny_isInstance (T := "StopIteration") (b := true) ⟨o, ho, hc⟩ isSubtype_stop (wpAny_pure (hQ _ hk)))
def zt1 (h : Heap) (la : Addr) : Heap := h.push { cls := .type "tuple_iterator", data := .fields #[.ref la, .int 0 0] }
def zt3 (h : Heap) (la lb : Addr) : Heap := (zt1 (zt1 h la) lb).push { cls := .type "tuple", data := .seq #[.ref h.objs.size, .ref (zt1 h la).objs.size] }
def zt4 (h : Heap) (la lb : Addr) : Heap := (zt3 h la lb).push { cls := .type "tuple", data := .seq #[.none, .none] }
def zt5 (h : Heap) (la lb : Addr) : Heap := (zt4 h la lb).push { cls := .type "zip", data := .fields #[.none, .bool false, .bool false, .ref (zt1 (zt1 h la) lb).objs.size, .ref (zt3 h la lb).objs.size] }
theorem zipT_meets (la lb : Addr) (xs ys : Array Value) : Meets (Builtin.«zip.__new__» ⟨[.type "zip", .ref la, .ref lb], []⟩) (fun _ R s => s.heap.IsTuple la xs /\ s.heap.IsTuple lb ys /\ R (.ok (.ret (.ref (zt4 s.heap la lb).objs.size))) { s with heap := zt5 s.heap la lb }) :=
 .of_wp fun prog w A R s h => by
  obtain ⟨hp, g, d, tk, os⟩ := s; obtain ⟨p1, p2, h⟩ := h
  have hsub := sub_zip
  have u1 : Heap.IsTuple (Shared.heap ⟨hp, g, d, tk, os⟩) la xs := p1
  have u2 : Heap.IsTuple (Shared.heap ⟨hp.push { cls := .type "tuple_iterator", data := .fields #[.ref la, .int 0 0] }, g, d, tk, os⟩) lb ys := Heap.IsTuple.push p2 _
  wp_walk using wpAny_pyIter_tuple u1, wpAny_pyIter_tuple u2
  exact ⟨_, rfl, h⟩
theorem call_zipT (hl1 : s.heap.IsTuple la xs) (hl2 : s.heap.IsTuple lb ys)
  (h : ∀ h', IsZip h' (s.heap.objs.size + 4) (s.heap.objs.size + 2) (s.heap.objs.size + 3) .none -> IsPair h' (s.heap.objs.size + 2) (.ref s.heap.objs.size) (.ref (s.heap.objs.size + 1)) ->
   IsPair h' (s.heap.objs.size + 3) .none .none -> h'.IsTupleIter s.heap.objs.size la 0 -> h'.IsTupleIter (s.heap.objs.size + 1) lb 0 -> h'.objs.size = s.heap.objs.size + 5 ->
   (∀ c o, s.heap.get? c = some o -> h'.get? c = some o) -> Q (.ref (s.heap.objs.size + 4)) { s with heap := h' }) :
  wpAny (model P w) A (call (.type "zip") [.ref la, .ref lb]) Q E s := by
 refine callType_new F.called_zip (by decide) (F.typeCall_zip_2 _ _) (F.newCall_zip_2 _ _) (fun obj => F.args_object_init_3 obj _ _) F.entry_zip_new (zipT_meets la lb xs ys) ⟨hl1, hl2, ?_⟩
 have z1 : (zt1 s.heap la).objs.size = s.heap.objs.size + 1 := jBe ..
 have z2 : (zt1 (zt1 s.heap la) lb).objs.size = s.heap.objs.size + 2 := by rw [zt1, jBe, z1]
 have z3 : (zt3 s.heap la lb).objs.size = s.heap.objs.size + 3 := by rw [zt3, jBe, z2]
 have z4 : (zt4 s.heap la lb).objs.size = s.heap.objs.size + 4 := by rw [zt4, jBe, z3]
 have z5 : (zt5 s.heap la lb).objs.size = s.heap.objs.size + 5 := by rw [zt5, jBe, z4]
 have g5 : (zt5 s.heap la lb).get? (zt4 s.heap la lb).objs.size = some _ := jAw _ rfl
 have g4 : (zt5 s.heap la lb).get? (zt3 s.heap la lb).objs.size = some _ := jAu _ (jAw _ rfl)
 have g3 : (zt5 s.heap la lb).get? (zt1 (zt1 s.heap la) lb).objs.size = some _ := jAu _ (jAu _ (jAw _ rfl))
 have g2 : (zt5 s.heap la lb).get? (zt1 s.heap la).objs.size = some _ := jAu _ (jAu _ (jAu _ (jAw _ rfl)))
 have g1 : (zt5 s.heap la lb).get? s.heap.objs.size = some _ := jAu _ (jAu _ (jAu _ (jAu _ (jAw _ rfl))))
 show _ /\ _
 rw [z2, z3, z4] at g5
 rw [z1, z2] at g3
 rw [z3] at g4
 rw [z1] at g2
 rw [z4]
 exact ⟨⟨_, g5, rfl⟩, h _ g5 g3 g4 ⟨_, g1, rfl, rfl⟩ ⟨_, g2, rfl, rfl⟩ z5 fun c o x =>
  jAu _ (jAu _ (jAu _ (jAu _ (jAu _ x))))⟩
end
def Itzt (K : PySem.W.Frag) (a b : Addr) : It :=
  ⟨fun i H => ∃ xs ys x y, SqT K H a xs /\ SqT K H b ys /\ xs[i]? = some x /\ ys[i]? = some y,
   fun i H v H' => ∃ p x y, v = .ref p /\ H p = none /\ H' = upd H p (.tup [x, y]) /\ (∀ xs, SqT K H a xs -> xs[i]? = some x) /\ ∀ ys, SqT K H b ys -> ys[i]? = some y,
   fun i H => ∃ xs ys, SqT K H a xs /\ SqT K H b ys /\ (xs.length <= i \/ ys.length <= i)⟩
theorem turn_zipT {P : Program} {w : World} {K : PySem.W.Frag} {elts : List Expr} {x1 : Nat} {tpos : Pos} {z TI TO i1 i2 l1 l2 : Addr} (D : ZipApart z TI TO i1 i2 l1 l2) :
  Turn P w K (.Tuple elts x1 tpos) (Itzt K l1 l2) [z, TI, TO, i1, i2] z (fun i h => IsZip h z TI TO .none /\ IsPair h TI (.ref i1) (.ref i2) /\ (∃ a b, IsPair h TO a b) /\ h.IsTupleIter i1 l1 i /\ h.IsTupleIter i2 l2 i) where
 mem := by simp
 obj := fun i h st b hb => by
  obtain ⟨hz, hTI, ⟨u, v, hTO⟩, h1, h2⟩ := st
  simp only [jAo, jCo, or_false] at hb
  rcases hb with rfl | rfl | rfl | rfl | rfl
  ·exact ⟨_, hz, fun v q => by cases q⟩
  ·exact ⟨_, hTI, fun v q => by cases q⟩
  ·exact ⟨_, hTO, fun v q => by cases q⟩
  ·obtain ⟨o, e, c, d⟩ := h1
   exact ⟨o, e, fun v q => by rw [d] at q; cases q⟩
  ·obtain ⟨o, e, c, d⟩ := h2
   exact ⟨o, e, fun v q => by rw [d] at q; cases q⟩
 keep := fun i h h' st k => by
  obtain ⟨hz, hTI, ⟨u, v, hTO⟩, h1, h2⟩ := st
  exact ⟨k z (by simp) _ hz, k TI (by simp) _ hTI, ⟨u, v, k TO (by simp) _ hTO⟩, h1.at fun o e => k i1 (by simp) o e, h2.at fun o e => k i2 (by simp) o e⟩
 item := by
  intro X hP hw hK hc i pins s σ H E I hf st hg
  subst hP hw hK
  obtain ⟨hz, hTI, ⟨u, v, hTO⟩, h1, h2⟩ := st
  obtain ⟨xs, ys, x, y, hqx, hqy, hx, hy⟩ := hg
  obtain ⟨its, rx, px, zx⟩ := I.tuple hqx
  obtain ⟨jts, ry, py, zy⟩ := I.tuple hqy
  obtain ⟨ux, hux, rux⟩ := rx.get hx
  obtain ⟨uy, huy, ruy⟩ := ry.get hy
  refine next_more D (fun A' hA => qFw hA i1 l1 its.toArray) (fun A' hA => qFw hA i2 l2 jts.toArray) (I.ok.hd hc) hz hTI hTO ⟨h1, px⟩ ⟨h2, py⟩ (x := ux) (y := uy) (by simpa using hux) (by simpa using huy) fun h' a1 a2 a3 a4 a5 hk => ?_
  replace a3 := a3.1
  replace a4 := a4.1
  refine ⟨_, rfl, wpAny_letOwnedTupleGo_zip a1 fun h'' hz' hs' => ?_⟩
  have hTn : s.heap.objs.size ≠ z := jAv (jAc hz)
  have kk : ∀ b o, b ∉ [z, TI, TO, i1, i2] -> s.heap.get? b = some o -> h''.get? b = some o := fun b o hb e => by
   simp only [jAo, jCo, or_false, not_or] at hb
   exact hs'.extBut _ _ hb.1 (hk b o hb.1 hb.2.2.1 hb.2.2.2.1 hb.2.2.2.2 e)
  have hp5 : IsPair h'' s.heap.objs.size ux uy := hs'.extBut _ _ hTn a5
  have new : qBm X.prog X.w (upd H s.heap.objs.size (.tup [x, y])) h'' s.heap.objs.size (.tup [x, y]) := ⟨by show 2 <= sizeLine; decide, [ux, uy], .cons rux (.cons ruy .nil), ⟨_, hp5, rfl, _, rfl⟩⟩
  have I5 := Inv.moved (s := s) (h' := h'') (t' := s.toks) I hf kk (jAx _) new
  refine ⟨.ref s.heap.objs.size, upd H s.heap.objs.size (.tup [x, y]), I5, rfl, ⟨s.heap.objs.size, x, y, rfl, I.hok.fresh (jAx _), rfl, fun ws hws => by rw [I.tuple_inj hws hqx]; exact hx, fun ws hws => by rw [I.tuple_inj hws hqy]; exact hy⟩, ?_, fun b hb => ?_⟩
  ·exact ⟨hz', hs'.extBut _ _ D.TIz (hk _ _ D.TIz D.TITO D.TIi1 D.TIi2 hTI), ⟨_, _, hs'.extBut _ _ D.TOz a2⟩, a3.extBut hs'.extBut D.i1z, a4.extBut hs'.extBut D.i2z⟩
  ·have hlt : b < s.heap.objs.size := by
    simp only [jAo, jCo, or_false] at hb
    rcases hb with rfl | rfl | rfl | rfl | rfl
    ·exact jAc hz
    ·exact jAc hTI
    ·exact jAc hTO
    ·obtain ⟨o, e, _⟩ := h1; exact jAc e
    ·obtain ⟨o, e, _⟩ := h2; exact jAc e
   rw [zO (jAf hlt)]
   exact (hf b hb).1
 done := by
  intro X hP hw hK hc i pins s σ H E I hf st hg
  subst hP hw hK
  obtain ⟨hz, hTI, ⟨u, v, hTO⟩, h1, h2⟩ := st
  obtain ⟨xs, ys, hqx, hqy, hend⟩ := hg
  obtain ⟨its, rx, px, zx⟩ := I.tuple hqx
  obtain ⟨jts, ry, py, zy⟩ := I.tuple hqy
  have lx := rx.length
  have ly := ry.length
  refine next_over D (fun A' hA => qFw hA i1 l1 its.toArray) (fun A' hA => qFw hA i2 l2 jts.toArray) (I.ok.hd hc) hz hTI hTO ⟨h1, px⟩ ⟨h2, py⟩ (by
   rcases hend with z | z
   ·exact .inl (by simp; omega)
   ·exact .inr (by simp; omega)) fun h' hk => ⟨rfl, ?_⟩
  have nch : ∀ b u, H b = some u -> b ∉ [z, TI, TO, i1, i2] := fun b u e zz => by rw [(hf b zz).1] at e; cases e
  have kk : ∀ b o, b ∉ [z, TI, TO, i1, i2] -> s.heap.get? b = some o -> h'.get? b = some o := fun b o hb e => by
   simp only [jAo, jCo, or_false, not_or] at hb
   exact hk b o hb.1 hb.2.2.1 hb.2.2.2.1 hb.2.2.2.2 e
  refine I.step (g' := s.gens) (d' := s.drawn) (t' := s.toks) (ch := [z, TI, TO, i1, i2]) (fun b hb => ⟨(hf b hb).2.2.2.1, (hf b hb).2.1, (hf b hb).2.2.2.2.1, (hf b hb).2.2.2.2.2⟩) (fun b u _ _ hc e _ => kk b u hc e) (fun b u _ _ hc e _ => ⟨u.slots, kk b u hc e⟩)
   (fun _ _ _ _ n => n) (fun b u hc e => ⟨u, kk b u hc e⟩) (fun _ _ q => q) (fun _ _ _ q => q) (fun b ps q => ⟨#[], by rw [q]; simp⟩) (fun m hm => ?_) (fun b u q => ?_) I.bare
  ·obtain ⟨ob, es, ep, ho, r⟩ := hm
   exact ⟨ob, es, ep, kk _ ob (fun z => (hf _ z).2.1 rfl) ho, r⟩
  ·refine (I.hok b u q).stay (fun c v hc zz => kk c v ?_ zz) (fun c zz => zz) fun c xs zz => zz
   rcases hc with rfl | hc
   ·exact nch _ _ q
   ·exact nch _ _ hc
 self := fun _ _ _ _ _ st h => wpAny_pyIter_zip st.1 h
section
variable {X : Cx} {E : XK}
def iZipL (K : PySem.W.Frag) (ta : TA) : TI := fun σ H R => ta σ H fun vs H1 => ∃ a b, vs = [.ref a, .ref b] /\ ((∃ xs, SqL K H1 a xs) /\ (∃ ys, SqL K H1 b ys) /\ R (Itz K a b) H1 \/ (∃ xs, SqT K H1 a xs) /\ (∃ ys, SqT K H1 b ys) /\ R (Itzt K a b) H1)
theorem pi_zipL {a b : Expr} {ta : TA} {p pos tpos : Pos} {elts : List Expr} {x1 : Nat} (hg : Gl X "zip") (hm : X.mg "zip" = none) (ha : PA X [a, b] ta) (hs : starEach [a, b] X.env = (false, eval a X.env) :: starEach [b] X.env) (hs2 : (backTo pos (starEach [b] X.env)).any (·.1) = false) :
  PI X (.Tuple elts x1 tpos) (.Call (.Name "zip" p) [a, b] [] pos) (iZipL X.K ta) := by
 intro pins s σ H R I h
 refine Call_ (qDl I hg hm boot_zip (PyProof.Rows.callWith_type1 (thn (ha pos pins s σ H _ I h) fun us s1 ⟨vs, H1, I1, r1, q1⟩ => ?_) hs hs2))
 obtain ⟨l1, l2, e, q1⟩ := q1
 subst e
 obtain ⟨u, v, rfl, ru, rv⟩ := Vals.two r1
 cases ru
 cases rv
 rcases q1 with ⟨⟨xs, hqx⟩, ⟨ys, hqy⟩, q⟩ | ⟨⟨xs, hqx⟩, ⟨ys, hqy⟩, q⟩
 ·obtain ⟨its, rx, px, zx⟩ := I1.list hqx
  obtain ⟨jts, ry, py, zy⟩ := I1.list hqy
  refine call_zip_2 px.isList py.isList fun h' a1 a2 a3 a4 a5 a6 hk => wpAny_pyIter_zip a1 ?_
  have I2 : Inv X pins σ H1 { s1 with heap := h' } := I1.kept (t' := s1.toks) hk
  have lt1 : l1 < s1.heap.objs.size := by obtain ⟨o, e, _⟩ := px.isList; exact jAc e
  have lt2 : l2 < s1.heap.objs.size := by obtain ⟨o, e, _⟩ := py.isList; exact jAc e
  generalize hn : s1.heap.objs.size = n at *
  have w1 : ∀ m : Nat, n <= m -> l1 ≠ m := fun m h => jAf (jAd lt1 h)
  have w2 : ∀ m : Nat, n <= m -> l2 ≠ m := fun m h => jAf (jAd lt2 h)
  have D : ZipApart (n + 4) (n + 2) (n + 3) n (n + 1) l1 l2 := by
   constructor <;> first
    | exact w1 _ (by show (_ : Nat) <= _; omega)
    | exact w2 _ (by show (_ : Nat) <= _; omega)
    | (show (_ : Nat) ≠ _; omega)
  refine ⟨n + 4, [n + 4, n + 2, n + 3, n, n + 1], _, _, H1, rfl, I2, turn_zip D, ⟨a1, a2, ⟨_, _, a3⟩, a4, a5⟩, fun b hb => ?_, q⟩
  have hb' : n <= b := by
   simp only [jAo, jCo, or_false] at hb
   rcases hb with rfl | rfl | rfl | rfl | rfl <;> (show (_ : Nat) <= _; omega)
  exact I1.fpOk (by rw [hn]; exact hb') (I1.hok.fresh (by rw [hn]; exact hb'))
 ·obtain ⟨its, rx, px, zx⟩ := I1.tuple hqx
  obtain ⟨jts, ry, py, zy⟩ := I1.tuple hqy
  refine call_zipT (show s1.heap.IsTuple l1 its.toArray from px) (show s1.heap.IsTuple l2 jts.toArray from py) fun h' a1 a2 a3 a4 a5 a6 hk => wpAny_pyIter_zip a1 ?_
  have I2 : Inv X pins σ H1 { s1 with heap := h' } := I1.kept (t' := s1.toks) hk
  have lt1 : l1 < s1.heap.objs.size := by obtain ⟨o, e, _⟩ := px; exact jAc e
  have lt2 : l2 < s1.heap.objs.size := by obtain ⟨o, e, _⟩ := py; exact jAc e
  generalize hn : s1.heap.objs.size = n at *
  have w1 : ∀ m : Nat, n <= m -> l1 ≠ m := fun m h => jAf (jAd lt1 h)
  have w2 : ∀ m : Nat, n <= m -> l2 ≠ m := fun m h => jAf (jAd lt2 h)
  have D : ZipApart (n + 4) (n + 2) (n + 3) n (n + 1) l1 l2 := by
   constructor <;> first
    | exact w1 _ (by show (_ : Nat) <= _; omega)
    | exact w2 _ (by show (_ : Nat) <= _; omega)
    | (show (_ : Nat) ≠ _; omega)
  refine ⟨n + 4, [n + 4, n + 2, n + 3, n, n + 1], _, _, H1, rfl, I2, turn_zipT D, ⟨a1, a2, ⟨_, _, a3⟩, a4, a5⟩, fun b hb => ?_, q⟩
  have hb' : n <= b := by
   simp only [jAo, jCo, or_false] at hb
   rcases hb with rfl | rfl | rfl | rfl | rfl <;> (show (_ : Nat) <= _; omega)
  exact I1.fpOk (by rw [hn]; exact hb') (I1.hok.fresh (by rw [hn]; exact hb'))
theorem qEc : ∀ {xs ys : List D} {i : Nat}, (qA5 xs ys)[i]? = none -> xs.length <= i \/ ys.length <= i
 | [], _, _, _ => .inl (jBg _)
 | _ :: _, [], _, _ => .inr (jBg _)
 | _ :: _, _ :: _, 0, h => by simp [qA5] at h
 | _ :: xs, _ :: ys, i + 1, h => by
  have h : (qA5 xs ys)[i]? = none := by rwa [qA5, jCg] at h
  rcases qEc h with h | h
  ·exact .inl (jB6 h)
  ·exact .inr (jB6 h)
theorem qEb : ∀ {xs ys : List D} {i : Nat} {d : D}, (qA5 xs ys)[i]? = some d -> ∃ u v, xs[i]? = some u /\ ys[i]? = some v /\ d = .tup [u, v]
 | [], _, _, _, h => by simp [qA5] at h
 | _ :: _, [], _, _, h => by simp [qA5] at h
 | x :: _, y :: _, 0, d, h => ⟨x, y, rfl, rfl, by rw [qA5, jCu] at h; exact (Option.some.inj h).symm⟩
 | _ :: xs, _ :: ys, i + 1, d, h => by
  have h : (qA5 xs ys)[i]? = some d := by rwa [qA5, jCg] at h
  obtain ⟨u, v, e1, e2, e3⟩ := qEb h
  exact ⟨u, v, by rw [jCg]; exact e1, by rw [jCg]; exact e2, e3⟩
theorem walks_zipT (hS : StOk G H W) (qa : SqT G.K H a xs) (qb : SqT G.K H b ys) (ra : RepL G H W ds xs) (rb : RepL G H W es ys) : Walks G (Itzt G.K a b) H W (.fix (qA5 ds es)) := fun i H1 W1 s1 => by
 have q1 := (s1.mv hS).sqT qa
 have q2 := (s1.mv hS).sqT qb
 have rx := ra.mv (s1.mv hS)
 have ry := rb.mv (s1.mv hS)
 refine ⟨fun h => ?_, fun d hd => ?_⟩
 ·have h : (qA5 ds es)[i]? = none := Option.some.inj h
  refine ⟨xs, ys, q1, q2, ?_⟩
  rcases qEc h with h | h
  ·exact .inl (by rw [<- rx.length]; exact h)
  ·exact .inr (by rw [<- ry.length]; exact h)
 ·have hd : (qA5 ds es)[i]? = some d := Option.some.inj hd
  obtain ⟨u, v, hu, hv, rfl⟩ := qEb hd
  obtain ⟨vx, ex, rvx⟩ := rx.get hu
  obtain ⟨vy, ey, rvy⟩ := ry.get hv
  refine ⟨⟨xs, ys, vx, vy, q1, q2, ex, ey⟩, fun z H3 hz => ?_⟩
  obtain ⟨p, x', y', rfl, hp, rfl, k1, k2⟩ := hz
  have e1 := k1 xs q1
  have e2 := k2 ys q2
  rw [ex] at e1
  rw [ey] at e2
  cases e1
  cases e2
  have sn := Nxt.heap s1.ok hp (HO.tup [vx, vy])
  exact ⟨W1, rfl, sn, p, _, rfl, SqT.of zW, ⟨vx, _, rfl, rvx.mv (sn.mv s1.ok), ⟨vy, _, rfl, rvy.mv (sn.mv s1.ok), rfl⟩⟩⟩
theorem pdi_zipL (hg : Gl X "zip") (hm : X.mg "zip" = none) (ha : PDE X E a ga) (hb : PDE X E b gb) (hs : starEach [a, b] X.env = (false, eval a X.env) :: starEach [b] X.env := by rfl) (hs2 : (backTo pos (starEach [b] X.env)).any (·.1) = false := by rfl)
  (hst2 : starEach (b :: []) X.env = (false, eval b X.env) :: starEach [] X.env := by rfl) : PDI X E (.Tuple elts x1 tpos) (.Call (.Name "zip" p) [a, b] [] pos) (itA zipLD (yF ga (yF gb aNil))) := by
 try unfold PDE
 try unfold PDI at *
 intro pins s σ H R I ⟨W, δ, rr, hS, hδ, hg', hA⟩
 refine pi_zipL hg hm (zB ha (zB hb zE hst2) hs).o hs hs2 pins s σ H R I (Go.thn hS hδ hg' hA fun ds H1 W1 s1 hδ1 hg1 hA1 vs rv => ?_)
 unfold zipLD at hg1
 split at hg1
 ·rename_i xs ys
  obtain rfl : Rs.ok (Src.fix (qA5 xs ys)) W1.S = rr := Option.some.inj hg1
  obtain ⟨v, r, e, rx, t⟩ := rv
  obtain ⟨v2, r2, e2, ry, t2⟩ := t
  have t2 : r2 = [] := t2
  obtain ⟨a, us, ea, qa, ra⟩ := rx
  obtain ⟨b, ws, eb, qb, rb⟩ := ry
  subst e e2 ea eb t2
  exact ⟨a, b, rfl, .inr ⟨⟨us, qa⟩, ⟨ws, qb⟩, hA1.now s1.ok _ (walks_zipT s1.ok qa qb ra rb)⟩⟩
 ·unfold qC6 at hg1
  split at hg1
  ·rename_i a b _
   split at hg1
   ·rename_i xs ys ea eb
    obtain rfl : Rs.ok (Src.two a b) W1.S = rr := Option.some.inj hg1
    obtain ⟨v, r, e, rx, t⟩ := rv
    obtain ⟨v2, r2, e2, ry, t2⟩ := t
    have t2 : r2 = [] := t2
    obtain ⟨us, eu, qu, _⟩ := s1.ok.lst rx ea
    obtain ⟨ws, ew, qw, _⟩ := s1.ok.lst ry eb
    subst e e2 eu ew t2
    exact ⟨_, _, rfl, .inl ⟨⟨us, .inl (.inl qu)⟩, ⟨ws, .inl (.inl qw)⟩, hA1.now s1.ok _ (walks_zip rx.1 ry.1)⟩⟩
   ·cases hg1
  ·cases hg1
end
end Np
end
section
namespace Np
open PySem PySem.Spec PyProof.Rows L2
section
variable (P : Program) (w : World) (K : PySem.W.Frag) (mg : Str -> Option Value) (base : Heap)
structure Fk (k : Nat) (x : Str) (F : List D -> Sto -> R D) : Prop where
 ex : ∃ (ps : List Str) (f : Addr) (d : FuncData), FnOk P w K mg base CX0 k f d ps (spF ⟨K, mg⟩ F) /\ zV K d ps [] /\ jBc K (.ref f) = true /\ mg x = some (.ref f)
structure Ff (c f : Str) : Prop where
 ex : ∃ C : Addr, mg c = some (.ref C) /\ Cls K C /\ qC5 K C f
structure Fme (k : Nat) (c m : Str) (ds : List Value) (F : List D -> Sto -> R D) : Prop where
 ex : ∃ (C : Addr) (ps : List Str) (f : Addr) (d : FuncData), mg c = some (.ref C) /\ Cls K C /\ Meth K C m f /\ FnOk P w K mg base CX0 k f d ps (spF ⟨K, mg⟩ F) /\ zV K d ps ds
structure Fn (k : Nat) (c : Str) (F : List D -> Sto -> R D) : Prop where
 ex : ∃ (C : Addr) (ps : List Str) (f : Addr) (d : FuncData), mg c = some (.ref C) /\ Mk K C f /\ FnOk P w K mg base CX0 k f d ps (spF ⟨K, mg⟩ F) /\ zV K d ps []
end
section
variable {X : Cx} {E : XK} {e e2 ek o value : Expr} {es : List Expr} {go ge gv g1 g2 gk : DE} {gs : DA} {pos pos' apos p kpos : Pos} {j k : Nat} {x c m fl kw : Str} {f : List D -> Sto -> R D}
theorem pd_fB (B : Fk X.prog X.w X.K X.mg X.base j x f) (hr : Room k X.A) (hg : Gl X x) (hx : qBb CX0 X E) (ha : PDA X E (e :: es) gs) (hj : j <= k := by first | decide | omega) (hdb : (x == ("__debug__" : Str)) = false := by decide +kernel) (he : starEach (e :: es) X.env = (false, eval e X.env) :: starEach es X.env := by rfl)
  (hpl : (backTo pos (starEach es X.env)).any (·.1) = false := by rfl) : PDE X E (.Call (.Name x p) (e :: es) [] pos) (fnE f gs) := by
 obtain ⟨ps, fa, fd, O, hb, hk, hm⟩ := B.ex
 exact pd_fn (O.mono hj) hr hg hm hk hb hx ha hdb he hpl
theorem pd_ff (B : Ff X.K X.mg c fl) (he : PDE X E e ge) (hb : attributeBase e fl X.env (eval e X.env) = eval e X.env := by rfl) : PDE X E (.Attribute e fl pos) (op1 (fldD c fl) ge) := by
 obtain ⟨C, hm, hc, hn⟩ := B.ex
 exact pd_fld hc hn hm he hb
theorem pd_fs (B : Ff X.K X.mg c fl) (ho : PDE X E o go) (hv : PDE X E value gv) (hs : swapsWith value (some (.Attribute o fl pos')) pos.line X.env = pure false := by rfl) : PDS X E (.Assign [.Attribute o fl pos'] value pos) (qBp c fl go gv) := by
 obtain ⟨C, hm, hc, hn⟩ := B.ex
 exact pd_setf hc hn hm ho hv hs
theorem pd_fm (B : Fme X.prog X.w X.K X.mg X.base j c m [] f) (hr : Room k X.A) (hx : qBb CX0 X E) (ho : PDE X E o go) (ha : PDA X E (e :: es) gs) (hj : j <= k := by decide)
  (hst : starEach (e :: es) X.env = (false, eval e X.env) :: starEach es X.env := by rfl) (hpl : (backTo pos (starEach es X.env)).any (·.1) = false := by rfl)
  (ht : eval (.Call (.Attribute o m apos) (e :: es) [] pos) X.env = (do
   let ov <- eval o X.env
   standAt apos.atName
   let (f, first) <- holding [ov] (getMethod ov m pl)
   callWith pos f first (backTo pos (starEach (e :: es) X.env)) (backToKw pos (keywordEach [] X.env))) := by rfl) : PDE X E (.Call (.Attribute o m apos) (e :: es) [] pos) (qAa c m f go gs) := by
 obtain ⟨C, ps, fa, fd, hm, hc, hM, O, hb⟩ := B.ex
 exact pd_meth hc hM hm (O.mono hj) hr hb hx ho ha hst hpl ht
theorem pd_fmD (B : Fme X.prog X.w X.K X.mg X.base j c m [.none] f) (hr : Room k X.A) (hx : qBb CX0 X E) (ho : PDE X E o go) (ha : PDA X E (e :: es) gs) (hj : j <= k := by decide)
  (hst : starEach (e :: es) X.env = (false, eval e X.env) :: starEach es X.env := by rfl) (hpl : (backTo pos (starEach es X.env)).any (·.1) = false := by rfl)
  (ht : eval (.Call (.Attribute o m apos) (e :: es) [] pos) X.env = (do
   let ov <- eval o X.env
   standAt apos.atName
   let (f, first) <- holding [ov] (getMethod ov m pl)
   callWith pos f first (backTo pos (starEach (e :: es) X.env)) (backToKw pos (keywordEach [] X.env))) := by rfl) : PDE X E (.Call (.Attribute o m apos) (e :: es) [] pos) (qAa c m (fnD f [.non]) go gs) := by
 obtain ⟨C, ps, fa, fd, hm, hc, hM, O, hb⟩ := B.ex
 exact pd_methD hc hM hm (O.mono hj) hr hb hx ho ha hst hpl ht
theorem pd_fm0 (B : Fme X.prog X.w X.K X.mg X.base j c m [] f) (hr : Room k X.A) (hx : qBb CX0 X E) (ho : PDE X E o go) (hj : j <= k := by decide)
  (ht : eval (.Call (.Attribute o m apos) [] [] pos) X.env = (do
   let ov <- eval o X.env
   standAt apos.atName
   let (f, first) <- holding [ov] (getMethod ov m pl)
   callWith pos f first (backTo pos (starEach [] X.env)) (backToKw pos (keywordEach [] X.env))) := by rfl) : PDE X E (.Call (.Attribute o m apos) [] [] pos) (qAa c m f go aNil) := by
 obtain ⟨C, ps, fa, fd, hm, hc, hM, O, hb⟩ := B.ex
 exact pd_meth0 hc hM hm (O.mono hj) hr hb hx ho ht
theorem pd_fn' (B : Fn X.prog X.w X.K X.mg X.base j c f) (hr : Room k X.A) (hg : Gl X c) (hx : qBb CX0 X E) (ha : PDA X E (e :: es) gs) (hj : j + 1 <= k := by decide)
  (hdb : (c == ("__debug__" : Str)) = false := by decide +kernel) (he : starEach (e :: es) X.env = (false, eval e X.env) :: starEach es X.env := by rfl) (hpl : (backTo pos (starEach es X.env)).any (·.1) = false := by rfl) :
  PDE X E (.Call (.Name c p) (e :: es) [] pos) (mkE c f gs) := by
 obtain ⟨C, ps, fa, fd, hm, hM, O, hb⟩ := B.ex
 obtain ⟨i, rfl⟩ : ∃ i, k = i + 1 := ⟨k - 1, by omega⟩
 exact pd_make hM hm (O.mono (Nat.le_of_succ_le_succ hj)) hr hg hb hx ha hdb he hpl
end
def ownN : Expr -> List Str
 | .Name x _ => [x]
 | .Tuple es _ _ => es.filterMap fun e => match e with
  | .Name x _ => some x
  | _ => none
 | _ => []
def CokP (N : List Str) (fsc : Scope) (N' : List Str) (scope : Scope) : Prop :=
 (∀ x ∈ scope.names, x.2 = .local -> scope.names.lookup x.1 = some .local) /\ (∀ x ∈ scope.names, x.2 = .cell -> scope.names.lookup x.1 = some .cell) /\
 (∀ x ∈ scope.names, x.2 = .free -> scope.names.lookup x.1 = some .free /\ (fsc.names.lookup x.1 = some .cell \/ fsc.names.lookup x.1 = some .free)) /\
 ((jAg N.length).all fun i => match N'[i]? with
  | some x => (match scope.names.lookup x with
   | some .local => false
   | some .cell => false
   | some .free => N[i]? == some x
   | _ => true)
  | none => true) = true /\ N'.Nodup
instance {N N' : List Str} {fsc scope : Scope} : Decidable (CokP N fsc N' scope) := by unfold CokP; infer_instance
theorem cok (hk : scope.kind = .function) (h : decide (CokP N fsc (N ++ own) scope) = true) : qBx N fsc (N ++ own) scope := by
 obtain ⟨a, b, c, d, e⟩ := of_decide_eq_true h
 exact ⟨hk, a, b, c, d, by rw [jBw]; exact Nat.le_add_right .., e⟩
section
variable {X : Cx} {E : XK} {elt iter tg ce : Expr} {scope : Scope} {pos spos py : Pos} {y : Str} {gi : DI} {g : DG} {gc : DT} {ge : DE} {k : Nat}
theorem pd_cB (hcal : X.calm = true) (hi : PDI X E tg iter gi) (hg : (X.N ++ ownN tg).Nodup -> ∀ C s₃ H₃ ex pn, PDG (qAc X (X.N ++ ownN tg) scope C s₃ H₃ ex pn) E0 tg g) (he : ∀ C s₃ H₃ ex pn, PDE (qAc X (X.N ++ ownN tg) scope C s₃ H₃ ex pn) E0 elt ge)
  (hk : scope.kind = .function := by rfl) (h : decide (CokP X.N X.env.scope (X.N ++ ownN tg) scope) = true := by kernel_rfl) (hlen : X.N.length + k = (X.N ++ ownN tg).length := by rfl) (hs : ∀ x, foldedSetIterable iter X.env x = pure x := by intro _; rfl) : PDE X E (.ListComp elt [⟨tg, iter, [], 0⟩] scope pos) (qAj gi k g ge) :=
 pd_comp k (cok hk h) hcal hi (hg (cok hk h).nd) he hlen hs
theorem pd_cI (hcal : X.calm = true) (hi : PDI X E tg iter gi) (hg : (X.N ++ ownN tg).Nodup -> ∀ C s₃ H₃ ex pn, PDG (qAc X (X.N ++ ownN tg) scope C s₃ H₃ ex pn) E0 tg g) (hc : ∀ C s₃ H₃ ex pn, PDT (qAc X (X.N ++ ownN tg) scope C s₃ H₃ ex pn) E0 ce gc) (he : ∀ C s₃ H₃ ex pn, PDE (qAc X (X.N ++ ownN tg) scope C s₃ H₃ ex pn) E0 elt ge)
  (hk : scope.kind = .function := by rfl) (h : decide (CokP X.N X.env.scope (X.N ++ ownN tg) scope) = true := by kernel_rfl) (hlen : X.N.length + k = (X.N ++ ownN tg).length := by rfl) (hs : ∀ x, foldedSetIterable iter X.env x = pure x := by intro _; rfl) : PDE X E (.ListComp elt [⟨tg, iter, [ce], 0⟩] scope pos) (qC1 gi k g gc ge) :=
 pd_compI k (cok hk h) hcal hi (hg (cok hk h).nd) hc he hlen hs
theorem pd_sB (hcal : X.calm = true) (hi : PDI X E tg iter gi) (hg : (X.N ++ ownN tg).Nodup -> ∀ C s₃ H₃ ex pn, PDG (qAc X (X.N ++ ownN tg) scope C s₃ H₃ ex pn) E0 tg g) (he : ∀ C s₃ H₃ ex pn, PDE (qAc X (X.N ++ ownN tg) scope C s₃ H₃ ex pn) E0 elt ge)
  (hN : X.N.Nodup) (hk : scope.kind = .function := by rfl) (h : decide (CokP X.N X.env.scope (X.N ++ ownN tg) scope) = true := by kernel_rfl) (hj : X.N[j]? = some y := by rfl) (hy : X.env.scope.names.lookup y = some .local := by rfl) (hsw : swapsWith (.ListComp elt [⟨tg, iter, [], 0⟩] scope pos) (some (.Name y py)) spos.line X.env = pure true := by rfl)
  (hlen : X.N.length + k = (X.N ++ ownN tg).length := by rfl) (hs : ∀ x, foldedSetIterable iter X.env x = pure x := by intro _; rfl) : PDS X E (.Assign [.Name y py] (.ListComp elt [⟨tg, iter, [], 0⟩] scope pos) spos) (setS j (qAj gi k g ge)) :=
 pd_setComp j k (cok hk h) hcal hi (hg (cok hk h).nd) he hN hj hy hsw hlen hs
theorem pd_sI (hcal : X.calm = true) (hi : PDI X E tg iter gi) (hg : (X.N ++ ownN tg).Nodup -> ∀ C s₃ H₃ ex pn, PDG (qAc X (X.N ++ ownN tg) scope C s₃ H₃ ex pn) E0 tg g) (hc : ∀ C s₃ H₃ ex pn, PDT (qAc X (X.N ++ ownN tg) scope C s₃ H₃ ex pn) E0 ce gc) (he : ∀ C s₃ H₃ ex pn, PDE (qAc X (X.N ++ ownN tg) scope C s₃ H₃ ex pn) E0 elt ge)
  (hN : X.N.Nodup) (hk : scope.kind = .function := by rfl) (h : decide (CokP X.N X.env.scope (X.N ++ ownN tg) scope) = true := by kernel_rfl) (hj : X.N[j]? = some y := by rfl) (hy : X.env.scope.names.lookup y = some .local := by rfl) (hsw : swapsWith (.ListComp elt [⟨tg, iter, [ce], 0⟩] scope pos) (some (.Name y py)) spos.line X.env = pure true := by rfl)
  (hlen : X.N.length + k = (X.N ++ ownN tg).length := by rfl) (hs : ∀ x, foldedSetIterable iter X.env x = pure x := by intro _; rfl) : PDS X E (.Assign [.Name y py] (.ListComp elt [⟨tg, iter, [ce], 0⟩] scope pos) spos) (setS j (qC1 gi k g gc ge)) :=
 pd_setCompI j k (cok hk h) hcal hi (hg (cok hk h).nd) hc he hN hj hy hsw hlen hs
end
def Fd (K : PySem.W.Frag) (x q : Str) (st : Stmt) (f : Addr) (dV : Value) : Prop := ∃ (oc : Value) (od : Option Addr) (kV dc pm : Value) (an : Option Addr) (cd ct : Value) (sl : Array (Option Value)), K.lookup f = some ⟨oc, od, .func (jBy x q (zI st) (zG st) (zC st) dV kV dc pm an cd ct), sl⟩ /\ jBz K cd q = true /\ jBc K (.ref f) = true
def Ga (K : PySem.W.Frag) (x : Str) (st : Stmt) : Prop := ∃ f, jCv K mainGlobals x = some (some (.ref f)) /\ Fd K x x st f .none
def Ge (K : PySem.W.Frag) (x : Str) (st : Stmt) : Prop := ∃ (f T : Addr) (dT : Option Addr) (nT : Nat) (sT : Array (Option Value)), jCv K mainGlobals x = some (some (.ref f)) /\ Fd K x x st f (.ref T) /\ K.lookup T = some ⟨.type "tuple", dT, .seq #[.none] nT, sT⟩
def Gc (K : PySem.W.Frag) (c : Str) : Prop := ∃ C : Addr, jCv K mainGlobals c = some (some (.ref C)) /\ jA0 K C Str.empty = true /\ jA1 K C = true /\ jA5 K C = true /\ jA2 K (.ref C) "__setattr__" = some (some (.builtin "object.__setattr__"))
def Gn (K : PySem.W.Frag) (c : Str) : Prop := ∃ C : Addr, jCv K mainGlobals c = some (some (.ref C)) /\ jA8 K C = true /\ jBc K (.ref C) = true
def Gf (K : PySem.W.Frag) (c f : Str) : Prop := ∃ C : Addr, jCv K mainGlobals c = some (some (.ref C)) /\ jA2 K (.ref C) f = some none
def Gm (K : PySem.W.Frag) (c m q : Str) (st : Stmt) : Prop := ∃ C f : Addr, jCv K mainGlobals c = some (some (.ref C)) /\ jA2 K (.ref C) m = some (some (.ref f)) /\ jA4 K (.ref f) = true /\ Fd K m q st f .none
def Gd (K : PySem.W.Frag) (c m q : Str) (st : Stmt) : Prop := ∃ (C f T : Addr) (dT : Option Addr) (nT : Nat) (sT : Array (Option Value)), jCv K mainGlobals c = some (some (.ref C)) /\ jA2 K (.ref C) m = some (some (.ref f)) /\ jA4 K (.ref f) = true /\ Fd K m q st f (.ref T) /\ K.lookup T = some ⟨.type "tuple", dT, .seq #[.none] nT, sT⟩
def allU : Nat -> (List Value -> Prop) -> Prop
 | 0, p => p []
 | n + 1, p => ∀ v, allU n fun us => p (v :: us)
theorem qDf : ∀ {n : Nat} {p : List Value -> Prop}, allU n p -> ∀ us, us.length = n -> p us
 | 0, p, h, [], _ => h
 | n + 1, p, h, v :: us, e => qDf (h v) us (Nat.succ.inj e)
section
variable {P : Program} {w : World} {K : PySem.W.Frag} {mg : Str -> Option Value} {base h : Heap} {x c m q : Str} {st : Stmt} {k : Nat} {F : List D -> Sto -> R D} {g : DSt} {f : Addr}
def Bo (P : Program) (w : World) (K : PySem.W.Frag) (mg : Str -> Option Value) (base : Heap) (q : Str) (st : Stmt) (N : List Str) (k : Nat) (g : DSt) : Prop := ∀ (f : Addr) (cdv : Value) (A : Around) (outer : List Env) (s : Shared) (H : Hp), Room k (A.deeper (envOfC q (zC st) s.heap.objs.size f cdv)) -> N.Nodup -> PDSs (cxOf CX0 P w K mg base N q (zC st) f cdv A outer s H E0).nox E0 (zG st) g
theorem Bo.ok (B : Bo P w K mg base q st N k g) (G : FunG K x q st f fd) (S : zN N (N.take i) (zC st)) (hi : (N.take i).length = i) (hF : F = fnF N.length i g) : FnOk P w K mg base CX0 (k + 1) f fd (N.take i) (spF ⟨K, mg⟩ F) := by
 cases FunG.ex G with
 | intro dV r => 
  have hq : ∀ (cdv : Value) (A : Around) (outer : List Env) (s : Shared) (H : Hp), Room k (A.deeper (envOfC q (zC st) s.heap.objs.size f cdv)) -> PDSs (cxOf CX0 P w K mg base N q (zC st) f cdv A outer s H E0).nox E0 (zG st) g := fun cdv A outer s H hr => B f cdv A outer s H hr S.nd
  exact fn_N N.length i g hF G S rfl hi hq
theorem Ga.fk (P : Program) (w : World) (base : Heap) (G : Ga K x st) (hX : K.In h) (hG : h.Ns mainGlobals mg) (B : Bo P w K mg base x st N k g) (hF : F = fnF N.length i g := by rfl) (S : zN N (N.take i) (zC st) := by exact ⟨rfl, rfl, rfl, by decide +kernel, rfl, by decide +kernel, by decide +kernel⟩) (hi : (N.take i).length = i := by rfl)
  (hb : ∀ (kV doc pm : Value) (an : Option Addr) (cdv ct : Value), allU i fun us => bindArgs (jBy x x (zI st) (zG st) (zC st) .none kV doc pm an cdv ct) ⟨us, []⟩ = pure ((N.take i).zip us) := by intros; (repeat intro _); rfl) : Fk P w K mg base (k + 1) x F := by
 obtain ⟨f, a, oc, od, kV, dc, pm, an, cd, ct, sl, l, c, kp⟩ := G
 have R := yC (st := st) l c kp
 exact ⟨⟨_, f, _, B.ok R.g S hi hF, R.binds fun kV doc pm an cdv ct us hl => qDf (hb kV doc pm an cdv ct) us (hl.trans hi), kp, jCw hX hG a⟩⟩
theorem Ga.fk0 (P : Program) (w : World) (base : Heap) (G : Ga K x st) (hX : K.In h) (hG : h.Ns mainGlobals mg) (S : zN N (N.take i) (zC st) := by exact ⟨rfl, rfl, rfl, by decide +kernel, rfl, by decide +kernel, by decide +kernel⟩) (hi : (N.take i).length = i := by rfl)
  (hb : ∀ (kV doc pm : Value) (an : Option Addr) (cdv ct : Value), allU i fun us => bindArgs (jBy x x (zI st) (zG st) (zC st) .none kV doc pm an cdv ct) ⟨us, []⟩ = pure ((N.take i).zip us) := by intros; (repeat intro _); rfl) (hF : F = fun _ _ => none := by rfl) : Fk P w K mg base (k + 1) x F := by
 subst hF
 obtain ⟨f, a, oc, od, kV, dc, pm, an, cd, ct, sl, l, c, kp⟩ := G
 have R := yC (st := st) l c kp
 have B : Bo P w K mg base x st N k nevS := fun _ _ _ _ _ _ _ _ => pds_never
 exact ⟨⟨_, f, _, (B.ok (F := fnF N.length i nevS) R.g S hi rfl).imp fun vs H Q E h => (by obtain ⟨W, ds, rr, _, _, e, _⟩ := h; cases e), R.binds fun kV doc pm an cdv ct us hl => qDf (hb kV doc pm an cdv ct) us (hl.trans hi), kp, jCw hX hG a⟩⟩
theorem Gm.fm (P : Program) (w : World) (base : Heap) (G : Gm K c m q st) (hc : Gc K c) (hX : K.In h) (hG : h.Ns mainGlobals mg) (B : Bo P w K mg base q st N k g) (hF : F = fnF N.length i g := by rfl) (S : zN N (N.take i) (zC st) := by exact ⟨rfl, rfl, rfl, by decide +kernel, rfl, by decide +kernel, by decide +kernel⟩) (hi : (N.take i).length = i := by rfl)
  (hb : ∀ (kV doc pm : Value) (an : Option Addr) (cdv ct : Value), allU i fun us => bindArgs (jBy m q (zI st) (zG st) (zC st) .none kV doc pm an cdv ct) ⟨us, []⟩ = pure ((N.take i).zip us) := by intros; (repeat intro _); rfl) : Fme P w K mg base (k + 1) c m [] F := by
 obtain ⟨C, f, aC, a, fn, oc, od, kV, dc, pm, an, cd, ct, sl, l, c', kp⟩ := G
 obtain ⟨C', aC', pg, hd, po, sa⟩ := hc
 rw [aC] at aC'
 cases aC'
 have R := yC (st := st) l c' kp
 exact ⟨⟨C, _, f, _, jCw hX hG aC, ⟨pg, hd, po, sa⟩, ⟨a, fn, kp⟩, B.ok R.g S hi hF, R.binds fun kV doc pm an cdv ct us hl => qDf (hb kV doc pm an cdv ct) us (hl.trans hi)⟩⟩
theorem Gm.fn (P : Program) (w : World) (base : Heap) (G : Gm K c "__init__" q st) (hn : Gn K c) (hX : K.In h) (hG : h.Ns mainGlobals mg) (B : Bo P w K mg base q st N k g) (hF : F = fnF N.length i g := by rfl) (S : zN N (N.take i) (zC st) := by exact ⟨rfl, rfl, rfl, by decide +kernel, rfl, by decide +kernel, by decide +kernel⟩) (hi : (N.take i).length = i := by rfl)
  (hb : ∀ (kV doc pm : Value) (an : Option Addr) (cdv ct : Value), allU i fun us => bindArgs (jBy "__init__" q (zI st) (zG st) (zC st) .none kV doc pm an cdv ct) ⟨us, []⟩ = pure ((N.take i).zip us) := by intros; (repeat intro _); rfl) : Fn P w K mg base (k + 1) c F := by
 obtain ⟨C, f, aC, a, fn, oc, od, kV, dc, pm, an, cd, ct, sl, l, c', kp⟩ := G
 obtain ⟨C', aC', mk, kC⟩ := hn
 rw [aC] at aC'
 cases aC'
 have R := yC (st := st) l c' kp
 exact ⟨⟨C, _, f, _, jCw hX hG aC, ⟨mk, a, fn, kC⟩, B.ok R.g S hi hF, R.binds fun kV doc pm an cdv ct us hl => qDf (hb kV doc pm an cdv ct) us (hl.trans hi)⟩⟩
theorem Gf.ff (G : Gf K c fl) (hc : Gc K c) (hX : K.In h) (hG : h.Ns mainGlobals mg) : Ff K mg c fl := by
 obtain ⟨C, aC, n⟩ := G
 obtain ⟨C', aC', pg, hd, po, sa⟩ := hc
 rw [aC] at aC'
 cases aC'
 exact ⟨⟨C, jCw hX hG aC, ⟨pg, hd, po, sa⟩, n⟩⟩
theorem FunD.b0 {ps : List Str} {fd : FuncData} {T : Addr} {items : Array Value} {i : Nat} {ds : List Value} (R : FunD K x q st f fd T items) (hi : ps.length = i + ds.length)
  (hb : ∀ (kV doc pm : Value) (an : Option Addr) (cdv ct : Value), allU i fun us => ∃ k' : Option (Array Value) -> Sem (List (Str × Value)), bindArgs (jBy x q (zI st) (zG st) (zC st) (.ref T) kV doc pm an cdv ct) ⟨us, []⟩ = seqItems? (.ref T) >>= k' /\ k' (some items) = pure (ps.zip (us ++ ds))) : zV K fd ps ds := fun s us KX hl =>
 R.bindsTo KX fun kV doc pm an cdv ct => qDf (hb kV doc pm an cdv ct) us (by rw [jBw, hi] at hl; exact Nat.add_right_cancel hl)
theorem Ge.fk (P : Program) (w : World) (base : Heap) (G : Ge K x st) (hX : K.In h) (hG : h.Ns mainGlobals mg) (B : Bo P w K mg base x st N k g) (hF : F = fnF N.length i g := by rfl) (S : zN N (N.take i) (zC st) := by exact ⟨rfl, rfl, rfl, by decide +kernel, rfl, by decide +kernel, by decide +kernel⟩) (hi : (N.take i).length = i := by rfl)
  (hb : ∀ (T : Addr) (kV doc pm : Value) (an : Option Addr) (cdv ct : Value), allU i fun us => ∃ k' : Option (Array Value) -> Sem (List (Str × Value)), bindArgs (jBy x x (zI st) (zG st) (zC st) (.ref T) kV doc pm an cdv ct) ⟨us, []⟩ = seqItems? (.ref T) >>= k' /\ k' (some #[.none]) = pure ((N.take i).zip (us ++ [])) := by intros; (repeat intro _); exact ⟨_, rfl, rfl⟩) : Fk P w K mg base (k + 1) x F := by
 obtain ⟨f, T, dT, nT, sT, a, ⟨oc, od, kV, dc, pm, an, cd, ct, sl, l, c, kp⟩, lT⟩ := G
 have R := funD_mk (st := st) l c lT rfl
 exact ⟨⟨_, f, _, B.ok R.g S hi hF, R.b0 (i := i) hi (hb T), kp, jCw hX hG a⟩⟩
theorem Gd.fm (P : Program) (w : World) (base : Heap) (j : Nat) (G : Gd K c m q st) (hc : Gc K c) (hX : K.In h) (hG : h.Ns mainGlobals mg) (B : Bo P w K mg base q st N k g) (hF : F = fnF N.length i g := by rfl) (S : zN N (N.take i) (zC st) := by exact ⟨rfl, rfl, rfl, by decide +kernel, rfl, by decide +kernel, by decide +kernel⟩) (hi : (N.take i).length = i := by rfl) (hj : (N.take i).length = j + ds.length := by rfl)
  (hb : ∀ (T : Addr) (kV doc pm : Value) (an : Option Addr) (cdv ct : Value), allU j fun us => ∃ k' : Option (Array Value) -> Sem (List (Str × Value)), bindArgs (jBy m q (zI st) (zG st) (zC st) (.ref T) kV doc pm an cdv ct) ⟨us, []⟩ = seqItems? (.ref T) >>= k' /\ k' (some #[.none]) = pure ((N.take i).zip (us ++ ds)) := by intros; (repeat intro _); exact ⟨_, rfl, rfl⟩) : Fme P w K mg base (k + 1) c m ds F := by
 obtain ⟨C, f, T, dT, nT, sT, aC, a, fn, ⟨oc, od, kV, dc, pm, an, cd, ct, sl, l, c', kp⟩, lT⟩ := G
 obtain ⟨C', aC', pg, hd, po, sa⟩ := hc
 rw [aC] at aC'
 cases aC'
 have R := funD_mk (st := st) l c' lT rfl
 exact ⟨⟨C, _, f, _, jCw hX hG aC, ⟨pg, hd, po, sa⟩, ⟨a, fn, kp⟩, B.ok R.g S hi hF, R.b0 hj (hb T)⟩⟩
end
section
variable {K : PySem.W.Frag} {x c m q fl : Str} {st : Stmt} {f C T : Addr} {dV oc : Value} {od : Option Addr} {kV dc pm : Value} {an : Option Addr} {cd ct : Value} {sl : Array (Option Value)} {dT : Option Addr} {nT : Nat} {sT : Array (Option Value)}
theorem Ga.of (a : jCv K mainGlobals x = some (some (.ref f))) (l : K.lookup f = some ⟨oc, od, .func (jBy x x (zI st) (zG st) (zC st) .none kV dc pm an cd ct), sl⟩) (c : jBz K cd x = true) (k : jBc K (.ref f) = true) : Ga K x st := ⟨f, a, oc, od, kV, dc, pm, an, cd, ct, sl, l, c, k⟩
theorem Ge.of (a : jCv K mainGlobals x = some (some (.ref f))) (l : K.lookup f = some ⟨oc, od, .func (jBy x x (zI st) (zG st) (zC st) (.ref T) kV dc pm an cd ct), sl⟩) (c : jBz K cd x = true) (k : jBc K (.ref f) = true) (t : K.lookup T = some ⟨.type "tuple", dT, .seq #[.none] nT, sT⟩) : Ge K x st := ⟨f, T, dT, nT, sT, a, ⟨oc, od, kV, dc, pm, an, cd, ct, sl, l, c, k⟩, t⟩
theorem Gm.of (a : jCv K mainGlobals c = some (some (.ref C))) (b : jA2 K (.ref C) m = some (some (.ref f))) (i : jA4 K (.ref f) = true) (l : K.lookup f = some ⟨oc, od, .func (jBy m q (zI st) (zG st) (zC st) .none kV dc pm an cd ct), sl⟩) (c' : jBz K cd q = true) (k : jBc K (.ref f) = true) : Gm K c m q st := ⟨C, f, a, b, i, oc, od, kV, dc, pm, an, cd, ct, sl, l, c', k⟩
theorem Gd.of (a : jCv K mainGlobals c = some (some (.ref C))) (b : jA2 K (.ref C) m = some (some (.ref f))) (i : jA4 K (.ref f) = true) (l : K.lookup f = some ⟨oc, od, .func (jBy m q (zI st) (zG st) (zC st) (.ref T) kV dc pm an cd ct), sl⟩) (c' : jBz K cd q = true) (k : jBc K (.ref f) = true) (t : K.lookup T = some ⟨.type "tuple", dT, .seq #[.none] nT, sT⟩) : Gd K c m q st := ⟨C, f, T, dT, nT, sT, a, b, i, ⟨oc, od, kV, dc, pm, an, cd, ct, sl, l, c', k⟩, t⟩
theorem Gc.of (a : jCv K mainGlobals c = some (some (.ref C))) (b : jA0 K C Str.empty = true) (d : jA1 K C = true) (e : jA5 K C = true) (g : jA2 K (.ref C) "__setattr__" = some (some (.builtin "object.__setattr__"))) : Gc K c := ⟨C, a, b, d, e, g⟩
theorem Gn.of (a : jCv K mainGlobals c = some (some (.ref C))) (b : jA8 K C = true) (d : jBc K (.ref C) = true) : Gn K c := ⟨C, a, b, d⟩
theorem Gf.of (a : jCv K mainGlobals c = some (some (.ref C))) (b : jA2 K (.ref C) fl = some none) : Gf K c fl := ⟨C, a, b⟩
end
abbrev kh (P : Params) (x : Str) (n : Nat) (v : Value) : DictEntry := ⟨PySem.PyData.keyHash P x, .str x n, v⟩
abbrev cb (x q : Str) (n l i r1 r2 : Nat) (v3 v4 : Value) (r5 u : Nat) : Obj :=
 ⟨.type "code", none, .fields [.str x n, .str q (n + 1), .str "/claim/cut.py" (n + 2), .int l 0, .int i 0, .int 0 0, .int 0 0, .int 3 0, .ref r1, .bool true, .int 181 0, .ref r2, .none, v3, v4, .ref r5, .int u 0, .int l 0, .str "/claim/cut.py" (u + 1)].toArray, [].toArray⟩
abbrev fo (x q : Str) (st : Stmt) (dV pm : Value) (a : Nat) : Obj := ⟨.type "function", none, .func (jBy x q (zI st) (zG st) (zC st) dV .none .none pm none (.ref a) .none), [].toArray⟩
end Np
end
section
namespace Np
open PySem PySem.Spec PyProof.Rows L2
section
variable {X : Cx} {E : XK} {e : Expr} {ge g1 g2 : DE} {c : Str} {C : Addr} {p p2 pos : Pos}
theorem pd_orE (h1 : PDE X E e g1) (h2 : PDE X E e g2) : PDE X E e (orE g1 g2) := by
 unfold PDE at *
 intro pins s σ H Q I hw
 obtain ⟨W, δ, r, hS, hδ, hg, hA⟩ := hw
 unfold orE at hg
 cases e1 : g1 δ W.S with
 | some r' =>
  rw [e1] at hg
  cases hg
  exact h1 pins s σ H Q I ⟨W, δ, _, hS, hδ, e1, hA⟩
 | none =>
  rw [e1] at hg
  exact h2 pins s σ H Q I ⟨W, δ, r, hS, hδ, hg, hA⟩
def rIso (C : Addr) : List V -> Hp -> VK -> Prop := fun vs H Q => ∃ a dx ps, vs = [.ref a, .ref C] /\ H a = some (.ins C dx ps) /\ Q (.bl true) H
theorem call_iso : qBy X (.builtin "isinstance") (rIso C) := by
 intro pins s σ H vs us Q I r h
 obtain ⟨a, dx, ps, rfl, ho, q⟩ := h
 cases r with
 | cons r1 r2 =>
  cases r2 with
  | cons r2 r3 =>
   cases r3
   have e1 : _ = Value.ref a := r1
   have e2 : _ = Value.ref C := r2
   subst e1 e2
   have hoo := (show qBm X.prog X.w H s.heap a (.ins C dx ps) from I.hok a _ ho).2.2.2.1
   refine isx_call (t := .ref C) I.kIn (fun M => ?_) (by unfold jCs; rw [if_pos (by simp)]) (fun z => nomatch z) ⟨.bl true, H, I, rfl, q⟩
   have := (PySem.W.Looks.ld (M := M) (part := none) hoo).andThen (f := fun o => (pure o.cls : Sem Value)) .now
   exact this
theorem pd_iso (hg : Gl X "isinstance") (hm : X.mg "isinstance" = none) (hgT : Gl X c) (hmT : X.mg c = some (.ref C)) (he : PDE X E e ge)
  (hv : bootBuiltins "isinstance" = some (.builtin "isinstance") := by decide +kernel) (hdT : (c == ("__debug__" : Str)) = false := by decide +kernel)
  (hst : starEach (e :: [.Name c p2]) X.env = (false, eval e X.env) :: starEach [.Name c p2] X.env := by rfl) (hst2 : starEach (.Name c p2 :: []) X.env = (false, eval (.Name c p2) X.env) :: starEach [] X.env := by rfl)
  (hpl : (backTo pos (starEach [.Name c p2] X.env)).any (·.1) = false := by rfl) :
  PDE X E (.Call (.Name "isinstance" p) [e, .Name c p2] [] pos) (op1 (isoD c) ge) := by
 unfold PDE at *
 refine PE.imp (qDt (call_iso (C := C)) hg hm hv (qCq he (qCq (pe_glob (v := .ref C) hgT hmT rfl hdT) pa_nil hst2) hst) (by decide +kernel) (by decide +kernel) hst hpl) fun σ H Q ⟨W, δ, rr, hS, hδ, hg, hA⟩ => ?_
 refine Go.thn hS hδ hg hA fun d H1 W1 s1 hδ1 hg1 hA1 v rv => ?_
 unfold isoD at hg1
 split at hg1
 ·rename_i a
  split at hg1
  ·rename_i c' fs hi
   split at hg1
   ·rename_i ec
    subst ec
    obtain rfl : Rs.ok (D.bl true) W1.S = rr := Option.some.inj hg1
    obtain ⟨dx, ps, q, n, r⟩ := s1.ok.inst hmT hi
    have e1 := rv.2
    subst e1
    exact ⟨_, dx, ps, rfl, q, hA1.now s1.ok _ rfl⟩
   ·cases hg1
  ·cases hg1
 ·cases hg1
theorem pd_isoB (hg : Gl X "isinstance") (hm : X.mg "isinstance" = none) (hgT : Gl X c) (B : Ff X.K X.mg c fl) (he : PDE X E e ge)
  (hv : bootBuiltins "isinstance" = some (.builtin "isinstance") := by decide +kernel) (hdT : (c == ("__debug__" : Str)) = false := by decide +kernel)
  (hst : starEach (e :: [.Name c p2]) X.env = (false, eval e X.env) :: starEach [.Name c p2] X.env := by rfl) (hst2 : starEach (.Name c p2 :: []) X.env = (false, eval (.Name c p2) X.env) :: starEach [] X.env := by rfl)
  (hpl : (backTo pos (starEach [.Name c p2] X.env)).any (·.1) = false := by rfl) :
  PDE X E (.Call (.Name "isinstance" p) [e, .Name c p2] [] pos) (op1 (isoD c) ge) := by
 obtain ⟨C, hC, _⟩ := B.ex
 exact pd_iso hg hm hgT hC he hv hdT hst hst2 hpl
end
end Np
end
section
namespace Np
open PySem
@[irreducible] def W {α : Type} (m : R α) (Q : α -> Sto -> Prop) : Prop := match m with
 | some (.ok a S) => Q a S
 | some (.er _ _) => False
 | none => False
theorem W_ok (a : α) (S : Sto) (Q : α -> Sto -> Prop) : W (some (.ok a S)) Q = Q a S := by with_unfolding_all exact rfl
theorem W.out (h : W m Q) : ∃ a S, m = some (.ok a S) /\ Q a S := by
 unfold W at h
 cases m with
 | none => exact h.elim
 | some r =>
  cases r with
  | ok a S => exact ⟨a, S, rfl, h⟩
  | er c S => exact h.elim
theorem W_bnd (m : R α) (k : α -> Sto -> R β) (Q : β -> Sto -> Prop) : W (bnd m k) Q = W m (fun a S => W (k a S) Q) := by
 unfold W
 cases m with
 | none => rfl
 | some r => cases r <;> rfl
theorem W.mono (h : W m Q) (hi : ∀ a S, Q a S -> Q' a S) : W m Q' := by
 unfold W at h ⊢
 cases m with
 | none => exact h
 | some r =>
  cases r with
  | ok a S => exact hi a S h
  | er c S => exact h
theorem W.intro (e : m = some (.ok a S)) (q : Q a S) : W m Q := by
 subst e
 rw [W_ok]
 exact q
theorem ifEK_t (a b : DE) (δ : DS) (S : Sto) : ifEK a b δ true S = a δ S := rfl
theorem ifEK_f (a b : DE) (δ : DS) (S : Sto) : ifEK a b δ false S = b δ S := rfl
theorem andTK_t (b : DT) (δ : DS) (S : Sto) : andTK b δ true S = b δ S := rfl
theorem andTK_f (b : DT) (δ : DS) (S : Sto) : andTK b δ false S = ok false S := rfl
theorem orTK_t (b : DT) (δ : DS) (S : Sto) : orTK b δ true S = ok true S := rfl
theorem orTK_f (b : DT) (δ : DS) (S : Sto) : orTK b δ false S = b δ S := rfl
theorem andVB_t (b : DE) (δ : DS) (S : Sto) : andVB b δ true S = b δ S := rfl
theorem andVB_f (b : DE) (δ : DS) (S : Sto) : andVB b δ false S = ok (.bl false) S := rfl
theorem orVB_t (b : DE) (δ : DS) (S : Sto) : orVB b δ true S = ok (.bl true) S := rfl
theorem orVB_f (b : DE) (δ : DS) (S : Sto) : orVB b δ false S = b δ S := rfl
theorem chnB_t (g : D -> D -> Sto -> R D) (b : DE) (δ : DS) (y : D) (S : Sto) : chnB g b δ y true S = bnd (b δ S) (g y) := rfl
theorem chnB_f (g : D -> D -> Sto -> R D) (b : DE) (δ : DS) (y : D) (S : Sto) : chnB g b δ y false S = ok (.bl false) S := rfl
def outQ (Q : D -> Sto -> Prop) : Fl -> Sto -> Prop
 | .nx _, S => Q .non S
 | .rt d, S => Q d S
 | .bk _, _ => False
 | .ct _, _ => False
theorem W_outF (m : R Fl) (Q : D -> Sto -> Prop) : W (outF m) Q = W m (outQ Q) := by
 unfold W
 cases m with
 | none => rfl
 | some r =>
  cases r with
  | er c S => rfl
  | ok f S => cases f <;> rfl
theorem W_ifK (a b : DSt) (δ : DS) (c : Bool) (S : Sto) (Q : Fl -> Sto -> Prop) : W (ifK a b δ c S) Q = if c = true then W (a δ S) Q else W (b δ S) Q := by cases c <;> rfl
theorem W_ifEK (a b : DE) (δ : DS) (c : Bool) (S : Sto) (Q : D -> Sto -> Prop) : W (ifEK a b δ c S) Q = if c = true then W (a δ S) Q else W (b δ S) Q := by cases c <;> rfl
theorem W_andTK (b : DT) (δ : DS) (c : Bool) (S : Sto) (Q : Bool -> Sto -> Prop) : W (andTK b δ c S) Q = if c = true then W (b δ S) Q else Q false S := by cases c <;> first | rfl | exact W_ok ..
theorem W_orTK (b : DT) (δ : DS) (c : Bool) (S : Sto) (Q : Bool -> Sto -> Prop) : W (orTK b δ c S) Q = if c = true then Q true S else W (b δ S) Q := by cases c <;> first | rfl | exact W_ok ..
theorem W_andVB (b : DE) (δ : DS) (c : Bool) (S : Sto) (Q : D -> Sto -> Prop) : W (andVB b δ c S) Q = if c = true then W (b δ S) Q else Q (.bl false) S := by cases c <;> first | rfl | exact W_ok ..
theorem W_orVB (b : DE) (δ : DS) (c : Bool) (S : Sto) (Q : D -> Sto -> Prop) : W (orVB b δ c S) Q = if c = true then Q (.bl true) S else W (b δ S) Q := by cases c <;> first | rfl | exact W_ok ..
theorem W_chnB (g : D -> D -> Sto -> R D) (b : DE) (δ : DS) (y : D) (c : Bool) (S : Sto) (Q : D -> Sto -> Prop) : W (chnB g b δ y c S) Q = if c = true then W (bnd (b δ S) (g y)) Q else Q (.bl false) S := by cases c <;> first | rfl | exact W_ok ..
def SLe (S S' : Sto) : Prop := ∃ X, S' = S ++ X
theorem SLe.rfl : SLe S S := ⟨[], by simp⟩
theorem SLe.trans (h : SLe S S') (k : SLe S' S'') : SLe S S'' := by
 obtain ⟨X, rfl⟩ := h
 obtain ⟨Y, rfl⟩ := k
 exact ⟨X ++ Y, by simp⟩
theorem SLe.push (o : O) (h : SLe S S') : SLe S (S' ++ [o]) := h.trans ⟨[o], by rfl⟩
theorem SLe.app (X : Sto) : SLe S (S ++ X) := ⟨X, by rfl⟩
theorem SLe.len (h : SLe S S') : S.length <= S'.length := by
 obtain ⟨X, rfl⟩ := h
 simp
theorem SLe.get (h : SLe S S') (ha : a < S.length) : S'[a]? = S[a]? := by
 obtain ⟨X, rfl⟩ := h
 exact jBt ha
theorem SLe.set (h : SLe S S') (ha : S.length <= a) (o : O) : SLe S (S'.set a o) := by
 obtain ⟨X, rfl⟩ := h
 exact ⟨X.set (a - S.length) o, by rw [jCx _ _ ha]⟩
theorem qAd (h : zH S a = some xs) : a < S.length := by
 unfold zH at h
 split at h
 ·rename_i e
  exact (jAr.mp e).1
 ·cases h
theorem qDv (h : S'[a]? = S[a]?) : zH S' a = zH S a := by unfold zH; rw [h]
theorem SLe.lst (h : SLe S S') (e : zH S a = some xs) : zH S' a = some xs := by
 rw [qDv (h.get (qAd e))]
 exact e
@[simp] theorem qAb (S : Sto) (xs : List D) : zH (S ++ [.lst xs]) S.length = some xs := by simp [zH]
theorem qBj (h : zH S a = some xs) : zH (S.set a (.lst ys)) a = some ys := by
 unfold zH
 rw [jAs (qAd h)]
theorem qDk (h : a ≠ b) : zH (S.set a o) b = zH S b := qDv (jAt h)
def loopQ (Q : Fl -> Sto -> Prop) (J : DS -> Sto -> Prop) : Fl -> Sto -> Prop
 | .nx δ, S => J δ S
 | .ct δ, S => J δ S
 | .bk δ, S => Q (.nx δ) S
 | .rt d, S => Q (.rt d) S
theorem W_for (xs : List D) (I : Nat -> DS -> Sto -> Prop)
  (hs : ∀ i δ S, I i δ S -> src.get S i = some xs[i]?)
  (step : ∀ i x δ S, xs[i]? = some x -> I i δ S -> W (g x δ S) fun δ' S' => W (b δ' S') (loopQ Q (I (i + 1))))
  (fin : ∀ δ S, I xs.length δ S -> Q (.nx δ) S) : ∀ n i δ S, i <= xs.length -> xs.length <= i + n -> I i δ S -> W (forD src g b n i δ S) Q
 | 0, i, δ, S, hi, hn, h => by
  have e : i = xs.length := by omega
  have hg := hs i δ S h
  rw [jCy (by omega)] at hg
  unfold forD
  rw [hg, W_ok]
  subst e
  exact fin δ S h
 | n + 1, i, δ, S, hi, hn, h => by
  have hg := hs i δ S h
  unfold forD
  rw [hg]
  cases q : xs[i]? with
  | none =>
   have e : i = xs.length := by have := jCf.mp q; omega
   subst e
   show W (some (.ok (Fl.nx δ) S)) Q
   rw [W_ok]
   exact fin δ S h
  | some x =>
   have hlt : i < xs.length := (jAr.mp q).1
   show W (bnd (g x δ S) (turnK b (forD src g b n (i + 1)))) Q
   rw [W_bnd]
   refine (step i x δ S q h).mono fun δ' S' h' => ?_
   unfold turnK
   rw [W_bnd]
   refine h'.mono fun f S'' h'' => ?_
   cases f with
   | nx δ2 => exact W_for xs I hs step fin n (i + 1) δ2 S'' hlt (by omega) h''
   | ct δ2 => exact W_for xs I hs step fin n (i + 1) δ2 S'' hlt (by omega) h''
   | bk δ2 => exact W.intro rfl h''
   | rt d => exact W.intro rfl h''
theorem qDo (xs : List D) (I : Nat -> DS -> Sto -> Prop) (hl : xs.length <= src.len S) (h0 : I 0 δ S)
  (hs : ∀ i δ S, I i δ S -> src.get S i = some xs[i]?)
  (step : ∀ i x δ S, xs[i]? = some x -> I i δ S -> W (g x δ S) fun δ' S' => W (b δ' S') (loopQ Q (I (i + 1))))
  (fin : ∀ δ S, I xs.length δ S -> Q (.nx δ) S) : W (forK g b δ src S) Q :=
 W_for xs I hs step fin _ 0 δ S (jBg _) (by omega) h0
theorem W_while (I : DS -> Sto -> Prop) (μ : DS -> Sto -> Nat)
  (step : ∀ δ S, I δ S -> W (t δ S) fun c S' => if c = true then W (b δ S') (loopQ Q fun δ2 S2 => I δ2 S2 /\ μ δ2 S2 < μ δ S) else Q (.nx δ) S') : ∀ n δ S, μ δ S < n -> I δ S -> W (qA4 t b n δ S) Q
 | 0, _, _, h, _ => by omega
 | n + 1, δ, S, h, hI => by
  unfold qA4
  rw [W_bnd]
  refine (step δ S hI).mono fun c S' h' => ?_
  cases c with
  | false => exact W.intro rfl (by simpa using h')
  | true =>
   rw [if_pos rfl] at h'
   show W (bnd (b δ S') (loopK (qA4 t b n))) Q
   rw [W_bnd]
   refine h'.mono fun f S2 h2 => ?_
   cases f with
   | nx δ2 => exact W_while I μ step n δ2 S2 (jAd h2.2 (by omega)) h2.1
   | ct δ2 => exact W_while I μ step n δ2 S2 (jAd h2.2 (by omega)) h2.1
   | bk δ2 => exact W.intro rfl h2
   | rt d => exact W.intro rfl h2
theorem W_whileS (I : DS -> Sto -> Prop) (μ : DS -> Sto -> Nat) (h0 : I δ S)
  (step : ∀ δ S, I δ S -> W (t δ S) fun c S' => if c = true then W (b δ S') (loopQ Q fun δ2 S2 => I δ2 S2 /\ μ δ2 S2 < μ δ S) else Q (.nx δ) S') : W (qCu t b δ S) Q := by
 obtain ⟨f, S', e, q⟩ := (W_while I μ step (μ δ S + 1) δ S (jBf _) h0).out
 exact W.intro (whileS_of e) q
def Tg (g : DG) (k : Nat) (vals : D -> List (Option D)) (base : DS) (P : D -> Prop) : Prop := ∀ x os S, os.length = k -> P x -> g x (base ++ os) S = ok (base ++ vals x) S /\ (vals x).length = k
theorem W_compD {src : Src} {g : DG} {e : DE} {base : DS} {k : Nat} {vals : D -> List (Option D)} {Q : List D -> Sto -> Prop} (xs : List D) (I : Nat -> List D -> Sto -> Prop) (P : D -> Prop) (hP : ∀ x ∈ xs, P x) (hg : Tg g k vals base P)
  (hs : ∀ i acc S, I i acc S -> src.get S i = some xs[i]?)
  (step : ∀ i x acc S, xs[i]? = some x -> acc.length = i -> I i acc S -> W (e (base ++ vals x) S) fun d S' => I (i + 1) (acc ++ [d]) S')
  (fin : ∀ acc S, I xs.length acc S -> acc.length = xs.length -> Q acc S) : ∀ n i acc os S, os.length = k -> acc.length = i -> i <= xs.length -> xs.length <= i + n -> I i acc S -> W (qC2 src g e n i (base ++ os) S) fun ds S' => Q (acc ++ ds) S'
 | 0, i, acc, os, S, ho, ha, hi, hn, h => by
  have e : i = xs.length := by omega
  have hg := hs i acc S h
  rw [jCy (by omega)] at hg
  unfold qC2
  rw [hg, W_ok, jBh]
  subst e
  exact fin acc S h ha
 | n + 1, i, acc, os, S, ho, ha, hi, hn, h => by
  have hgt := hs i acc S h
  unfold qC2
  rw [hgt]
  cases q : xs[i]? with
  | none =>
   have e : i = xs.length := by have := jCf.mp q; omega
   subst e
   show W (some (.ok [] S)) _
   rw [W_ok, jBh]
   exact fin acc S h ha
  | some x =>
   have hlt : i < xs.length := (jAr.mp q).1
   show W (bnd (g x (base ++ os) S) (compK e (qC2 src g e n (i + 1)))) _
   obtain ⟨e1, e2⟩ := hg x os S ho (hP x (jBv q))
   rw [e1, bnd_ok]
   unfold compK
   rw [W_bnd]
   refine (step i x acc S q ha h).mono fun d S' h' => ?_
   unfold qC0
   rw [W_bnd]
   refine (W_compD xs I P hP hg hs step fin n (i + 1) (acc ++ [d]) (vals x) S' e2 (by simp [ha]) hlt (by omega) h').mono fun ds S2 h2 => ?_
   unfold consK
   rw [W_ok]
   simpa using h2
theorem W_noer (m : R α) (Q : α -> Sto -> Prop) : W (noer m) Q = W m Q := by
 unfold W
 cases m with
 | none => rfl
 | some r => cases r <;> rfl
theorem qCs (vals : D -> List (Option D)) (xs : List D) (I : Nat -> List D -> Sto -> Prop) (P : D -> Prop) (hP : ∀ x ∈ xs, P x) (hg : Tg g k vals base P)
  (hit : W (it base S) fun src S' => xs.length <= src.len S' /\ src.len S' <= 1000000 /\ I 0 [] S' /\ ∀ i acc S, I i acc S -> src.get S i = some xs[i]?)
  (step : ∀ i x acc S, xs[i]? = some x -> acc.length = i -> I i acc S -> W (e (base ++ vals x) S) fun d S' => I (i + 1) (acc ++ [d]) S')
  (fin : ∀ acc S, I xs.length acc S -> acc.length = xs.length -> Q (.ref S.length) (S ++ [.lst acc])) : W (qAj it k g e base S) Q := by
 unfold qAj
 rw [W_bnd]
 refine hit.mono fun src S' ⟨h1, h2, h3, h4⟩ => ?_
 unfold compL
 rw [if_pos h2, W_bnd, W_noer]
 refine (W_compD (Q := fun ds S => Q (.ref S.length) (S ++ [.lst ds])) xs I P hP hg h4 step fin _ 0 [] (jBm k none) S' (by simp) rfl (jBg _) (by omega) h3).mono fun ds S2 h => ?_
 exact W.intro rfl (by simpa using h)
theorem qBh (base : DS) : Tg (setG base.length) 1 (fun x => [some x]) base fun _ => True := fun x os S ho _ => by
 match os, ho with
 | [o], _ => exact ⟨by show ok ((base ++ [o]).set base.length (some x)) S = _; simp, rfl⟩
def pr1 : D -> Option D
 | .tup (x :: _) => some x
 | _ => none
def pr2 : D -> Option D
 | .tup (_ :: y :: _) => some y
 | _ => none
theorem tg_two (base : DS) : Tg (tupG [setG base.length, setG (base.length + 1)]) 2 (fun x => [pr1 x, pr2 x]) base fun x => ∃ p q, x = .tup [p, q] := fun x os S ho hp => by
 obtain ⟨p, q, rfl⟩ := hp
 match os, ho with
 | [o, o'], _ => exact ⟨by simp [tupG, tupGs, setG, pr1, pr2, jCx], rfl⟩
end Np
end
section
open Np PySem
noncomputable section
def Den.greatest_common : DSt :=
 (seqS (setS 2 (vr 0)) (seqS (setS 3 (vr 1)) (seqS (qCu (tv (op2 neD (vr 3) (cst (.int 0)))) (seqS (setS 4 (op2 modD (vr 2) (vr 3))) (seqS (setS 2 (vr 3)) (setS 3 (vr 4))))) (retS (vr 2)))))
def F.greatest_common : List D -> Sto -> R D := fnF 5 2 Den.greatest_common
def Den.ratio : DSt :=
 (seqS (ifS (tv (op2 eqD (vr 1) (cst (.int 0)))) nevS nxS) (seqS (setS 2 (fnE F.greatest_common (yF (fnE absD (yF (vr 0) aNil)) (yF (fnE absD (yF (vr 1) aNil)) aNil)))) (seqS (ifS (tv (op2 ltD (vr 1) (cst (.int 0)))) (setS 2 (op1 negD (vr 2))) nxS) (retS (fnE tupD (yF (op2 qCm (vr 0) (vr 2)) (yF (op2 qCm (vr 1) (vr 2)) aNil)))))))
def F.ratio : List D -> Sto -> R D := fnF 3 2 Den.ratio
def Den.plus : DSt :=
 (retS (fnE F.ratio (yF (op2 addD (op2 mulD (op2 ixD (vr 0) (cst (.int 0))) (op2 ixD (vr 1) (cst (.int 1)))) (op2 mulD (op2 ixD (vr 1) (cst (.int 0))) (op2 ixD (vr 0) (cst (.int 1))))) (yF (op2 mulD (op2 ixD (vr 0) (cst (.int 1))) (op2 ixD (vr 1) (cst (.int 1)))) aNil))))
def F.plus : List D -> Sto -> R D := fnF 2 2 Den.plus
def Den.minus : DSt :=
 (retS (fnE F.ratio (yF (op2 subD (op2 mulD (op2 ixD (vr 0) (cst (.int 0))) (op2 ixD (vr 1) (cst (.int 1)))) (op2 mulD (op2 ixD (vr 1) (cst (.int 0))) (op2 ixD (vr 0) (cst (.int 1))))) (yF (op2 mulD (op2 ixD (vr 0) (cst (.int 1))) (op2 ixD (vr 1) (cst (.int 1)))) aNil))))
def F.minus : List D -> Sto -> R D := fnF 2 2 Den.minus
def Den.times : DSt :=
 (retS (fnE F.ratio (yF (op2 mulD (op2 ixD (vr 0) (cst (.int 0))) (op2 ixD (vr 1) (cst (.int 0)))) (yF (op2 mulD (op2 ixD (vr 0) (cst (.int 1))) (op2 ixD (vr 1) (cst (.int 1)))) aNil))))
def F.times : List D -> Sto -> R D := fnF 2 2 Den.times
def Den.k02_whole : DSt :=
 (retS (andV (op1 (isiD .int) (vr 0)) (notV (op1 (isiD .bool) (vr 0)))))
def F.k02_whole : List D -> Sto -> R D := fnF 1 1 Den.k02_whole
end
end
section
open Np PySem
noncomputable section
def Den.added : DSt :=
 (retS (qAj (itA qC6 (yF (vr 0) (yF (vr 1) aNil))) 2 (tupG [(setG 2), (setG 3)]) (fnE F.plus (yF (vr 2) (yF (vr 3) aNil)))))
def F.added : List D -> Sto -> R D := fnF 2 2 Den.added
def Den.taken : DSt :=
 (retS (qAj (itA qC6 (yF (vr 0) (yF (vr 1) aNil))) 2 (tupG [(setG 2), (setG 3)]) (fnE F.minus (yF (vr 2) (yF (vr 3) aNil)))))
def F.taken : List D -> Sto -> R D := fnF 2 2 Den.taken
def Den.scaled : DSt :=
 (retS (qAj (itE itL (vr 0)) 1 (setG 2) (fnE F.times (yF (vr 2) (yF (vr 1) aNil)))))
def F.scaled : List D -> Sto -> R D := fnF 2 2 Den.scaled
def Den.is_still : DSt :=
 (retS (fnE allD (yF (qAj (itE itL (vr 0)) 1 (setG 1) (op2 eqD (vr 1) (cst (.tup [(.int 0), (.int 1)])))) aNil)))
def F.is_still : List D -> Sto -> R D := fnF 1 1 Den.is_still
def Den.k11_cell_at : DSt :=
 (seqS (ifS (tv (op2 ltD (vr 1) (fnE lenD (yF (vr 0) aNil)))) (retS (op2 ixD (vr 0) (vr 1))) nxS) (retS (cst (.int 0))))
def F.k11_cell_at : List D -> Sto -> R D := fnF 2 2 Den.k11_cell_at
end
end
section
open Np PySem
noncomputable section
def Den.multiplied : DSt :=
 (retS (qAj (itA qC6 (yF (vr 0) (yF (vr 1) aNil))) 2 (tupG [(setG 2), (setG 3)]) (fnE F.times (yF (vr 2) (yF (vr 3) aNil)))))
def F.multiplied : List D -> Sto -> R D := fnF 2 2 Den.multiplied
def Den.dot : DSt :=
 (seqS (setS 3 (fnE F.multiplied (yF (vr 0) (yF (vr 1) aNil)))) (seqS (ifS (tv (op2 isNND (vr 2) (cst .non))) (setS 3 (fnE F.multiplied (yF (vr 3) (yF (vr 2) aNil)))) nxS) (seqS (setS 4 (cst (.tup [(.int 0), (.int 1)]))) (seqS (forS (itE itL (vr 3)) (setG 5) (setS 4 (fnE F.plus (yF (vr 4) (yF (vr 5) aNil))))) (retS (vr 4))))))
def F.dot : List D -> Sto -> R D := fnF 6 3 Den.dot
end
end
section
open Np PySem
noncomputable section
def Den.mixed : DSt :=
 (seqS (setS 3 (op2 mulD (fnE lstD (yF (cst (.tup [(.int 0), (.int 1)])) aNil)) (vr 2))) (seqS (forS (itA qC6 (yF (vr 0) (yF (vr 1) aNil))) (tupG [(setG 4), (setG 5)]) (setS 3 (fnE F.added (yF (vr 3) (yF (fnE F.scaled (yF (vr 4) (yF (vr 5) aNil))) aNil))))) (retS (vr 3))))
def F.mixed : List D -> Sto -> R D := fnF 6 3 Den.mixed
end
end
section
open Np PySem
noncomputable section
def Den.column_of : DSt :=
 (retS (qAj (itE itL (vr 0)) 1 (setG 2) (op2 ixD (vr 2) (vr 1))))
def F.column_of : List D -> Sto -> R D := fnF 2 2 Den.column_of
def Den.turned : DSt :=
 (retS (qAj (itA qC9 (yF (vr 1) aNil)) 1 (setG 2) (fnE F.column_of (yF (vr 0) (yF (vr 2) aNil)))))
def F.turned : List D -> Sto -> R D := fnF 2 2 Den.turned
def Den.unit_row : DSt :=
 (retS (qAj (itA qC9 (yF (vr 0) aNil)) 1 (setG 2) (ifE (tv (op2 eqD (vr 2) (vr 1))) (cst (.tup [(.int 1), (.int 1)])) (cst (.tup [(.int 0), (.int 1)])))))
def F.unit_row : List D -> Sto -> R D := fnF 2 2 Den.unit_row
end
end
section
open Np PySem
noncomputable section
def Den.is_ratio : DSt :=
 (seqS (ifS (orT (notT (tv (op1 (isiD .tup) (vr 0)))) (tv (op2 neD (fnE lenD (yF (vr 0) aNil)) (cst (.int 2))))) (retS (cst (.bl false))) nxS) (seqS (ifS (orT (notT (tv (fnE F.k02_whole (yF (op2 ixD (vr 0) (cst (.int 0))) aNil)))) (notT (tv (fnE F.k02_whole (yF (op2 ixD (vr 0) (cst (.int 1))) aNil))))) (retS (cst (.bl false))) nxS) (retS (andV (op2 geD (op2 ixD (vr 0) (cst (.int 1))) (cst (.int 1))) (op2 eqD (fnE F.greatest_common (yF (fnE absD (yF (op2 ixD (vr 0) (cst (.int 0))) aNil)) (yF (op2 ixD (vr 0) (cst (.int 1))) aNil))) (cst (.int 1)))))))
def F.is_ratio : List D -> Sto -> R D := fnF 1 1 Den.is_ratio
end
end
section
open Np PySem
noncomputable section
def Den.over : DSt :=
 (retS (fnE F.ratio (yF (op2 mulD (op2 ixD (vr 0) (cst (.int 0))) (op2 ixD (vr 1) (cst (.int 1)))) (yF (op2 mulD (op2 ixD (vr 0) (cst (.int 1))) (op2 ixD (vr 1) (cst (.int 0)))) aNil))))
def F.over : List D -> Sto -> R D := fnF 2 2 Den.over
end
end
section
open Np PySem
noncomputable section
def Den.square : DSt :=
 (retS (fnE F.dot (yF (vr 0) (yF (vr 0) (yF (vr 1) aNil)))))
def F.square : List D -> Sto -> R D := fnF 2 2 Den.square
end
end
section
open Np PySem
noncomputable section
def Den.amount : DSt :=
 (seqS (ifS (tv (fnE F.is_still (yF (vr 1) aNil))) (retS (cst (.tup [(.int 0), (.int 1)]))) nxS) (retS (fnE F.over (yF (fnE F.dot (yF (vr 0) (yF (vr 1) (yF (vr 2) aNil)))) (yF (fnE F.square (yF (vr 1) (yF (vr 2) aNil))) aNil)))))
def F.amount : List D -> Sto -> R D := fnF 3 3 Den.amount
def Den.mix_of_left : DSt :=
 (retS (fnE F.taken (yF (fnE F.unit_row (yF (vr 1) (yF (fnE lenD (yF (vr 0) aNil)) aNil))) (yF (op2 addD (vr 0) (op2 mulD (fnE lstD (yF (cst (.tup [(.int 0), (.int 1)])) aNil)) (op2 subD (vr 1) (fnE lenD (yF (vr 0) aNil))))) aNil))))
def F.mix_of_left : List D -> Sto -> R D := fnF 2 2 Den.mix_of_left
def Den.parted : DSt :=
 (seqS (setS 3 (qAj (itE itL (vr 1)) 1 (setG 6) (fnE F.amount (yF (vr 0) (yF (op2 ixD (vr 6) (cst (.int 0))) (yF (vr 2) aNil)))))) (seqS (setS 4 (fnE F.mixed (yF (qAj (itE itL (vr 1)) 1 (setG 6) (op2 ixD (vr 6) (cst (.int 0)))) (yF (vr 3) (yF (fnE lenD (yF (vr 0) aNil)) aNil))))) (seqS (setS 5 (fnE F.mixed (yF (qAj (itE itL (vr 1)) 1 (setG 6) (fnE F.mix_of_left (yF (op2 ixD (vr 6) (cst (.int 1))) (yF (fnE lenD (yF (vr 1) aNil)) aNil)))) (yF (vr 3) (yF (fnE lenD (yF (vr 1) aNil)) aNil))))) (retS (fnE tupD (yF (fnE F.taken (yF (vr 0) (yF (vr 4) aNil))) (yF (vr 5) aNil)))))))
def F.parted : List D -> Sto -> R D := fnF 6 3 Den.parted
def Den.lefts : DSt :=
 (seqS (setS 2 (fnE lstD aNil)) (seqS (forS (itE itL (vr 0)) (setG 3) (dropS (opM appD (vr 2) (fnE F.parted (yF (vr 3) (yF (vr 2) (yF (vr 1) aNil))))))) (retS (vr 2))))
def F.lefts : List D -> Sto -> R D := fnF 4 2 Den.lefts
end
end
section
open Np PySem
noncomputable section
def Den.less : DSt :=
 (retS (op2 ltD (op2 mulD (op2 ixD (vr 0) (cst (.int 0))) (op2 ixD (vr 1) (cst (.int 1)))) (op2 mulD (op2 ixD (vr 1) (cst (.int 0))) (op2 ixD (vr 0) (cst (.int 1))))))
def F.less : List D -> Sto -> R D := fnF 2 2 Den.less
def DenX.ratio : DSt :=
 (seqS (ifS (tv (op2 eqD (vr 1) (cst (.int 0)))) (raiseS "NoRatio") nxS) (seqS (noerS (setS 2 (fnE F.greatest_common (yF (fnE absD (yF (vr 0) aNil)) (yF (fnE absD (yF (vr 1) aNil)) aNil))))) (seqS (noerS (ifS (tv (op2 ltD (vr 1) (cst (.int 0)))) (setS 2 (op1 negD (vr 2))) nxS)) (noerS (retS (fnE tupD (yF (op2 qCm (vr 0) (vr 2)) (yF (op2 qCm (vr 1) (vr 2)) aNil))))))))
def X.ratio : List D -> Sto -> R D := fnX 3 2 DenX.ratio
def DenX.over : DSt :=
 (retS (fnE X.ratio (yF (op2 mulD (op2 ixD (vr 0) (cst (.int 0))) (op2 ixD (vr 1) (cst (.int 1)))) (yF (op2 mulD (op2 ixD (vr 0) (cst (.int 1))) (op2 ixD (vr 1) (cst (.int 0)))) aNil))))
def X.over : List D -> Sto -> R D := fnX 2 2 DenX.over
end
end
section
open Np PySem
noncomputable section
def Den.is_row : DSt :=
 (seqS (ifS (orT (notT (tv (op1 (isiD .lst) (vr 0)))) (tv (op2 neD (fnE lenD (yF (vr 0) aNil)) (vr 1)))) (retS (cst (.bl false))) nxS) (retS (fnE allD (yF (qAj (itE itL (vr 0)) 1 (setG 2) (fnE F.is_ratio (yF (vr 2) aNil))) aNil))))
def F.is_row : List D -> Sto -> R D := fnF 2 2 Den.is_row
end
end
section
open Np PySem
noncomputable section
def Den.is_wide : DSt :=
 (retS (andV (fnE F.k02_whole (yF (vr 0) aNil)) (chn leD leD (cst (.int 0)) (vr 0) (cst (.int 12)))))
def F.is_wide : List D -> Sto -> R D := fnF 1 1 Den.is_wide
def Den.is_weight : DSt :=
 (retS (andV (fnE F.is_ratio (yF (vr 0) aNil)) (fnE F.less (yF (cst (.tup [(.int 0), (.int 1)])) (yF (vr 0) aNil)))))
def F.is_weight : List D -> Sto -> R D := fnF 1 1 Den.is_weight
def Den.is_point : DSt :=
 (seqS (ifS (orT (notT (tv (op1 (isiD .tup) (vr 0)))) (tv (op2 neD (fnE lenD (yF (vr 0) aNil)) (cst (.int 3))))) (retS (cst (.bl false))) nxS) (retS (andV (fnE F.is_row (yF (op2 ixD (vr 0) (cst (.int 0))) (yF (vr 1) aNil))) (andV (fnE F.is_ratio (yF (op2 ixD (vr 0) (cst (.int 1))) aNil)) (fnE F.is_weight (yF (op2 ixD (vr 0) (cst (.int 2))) aNil))))))
def F.is_point : List D -> Sto -> R D := fnF 2 2 Den.is_point
def Den.State___init__ : DSt :=
 (seqS (qBp "State" "wide" (vr 0) (vr 1)) (seqS (qBp "State" "laid" (vr 0) (vr 2)) (qBp "State" "kept" (vr 0) (vr 3))))
def F.State___init__ : List D -> Sto -> R D := fnF 4 4 Den.State___init__
def Den.Plane___init__ : DSt :=
 (seqS (ifS (notT (tv (fnE F.is_wide (yF (vr 1) aNil)))) nevS nxS) (qBp "Plane" "states" (vr 0) (fnE lstD (yF (mkE "State" F.State___init__ (yF (vr 1) (yF (cst (.int 0)) (yF (fnE lstD aNil) aNil)))) aNil))))
def F.Plane___init__ : List D -> Sto -> R D := fnF 2 2 Den.Plane___init__
def Den.Plane_lay : DSt :=
 (seqS (setS 4 (op2 ixD (op1 (fldD "Plane" "states") (vr 0)) (op1 negD (cst (.int 1))))) (seqS (setS 5 (op1 (fldD "State" "laid") (vr 4))) (seqS (setS 6 (ifE (tv (op2 isND (vr 3) (cst .non))) (cst (.tup [(.int 1), (.int 1)])) (vr 3))) (seqS (ifS (notT (tv (fnE F.is_point (yF (fnE tupD (yF (vr 1) (yF (vr 2) (yF (vr 6) aNil)))) (yF (op1 (fldD "State" "wide") (vr 4)) aNil))))) nevS nxS) (seqS (setS 7 (fnE tupD (yF (vr 5) (yF (fnE lofD (yF (vr 1) aNil)) (yF (vr 2) (yF (vr 6) aNil)))))) (seqS (dropS (opM appD (op1 (fldD "Plane" "states") (vr 0)) (mkE "State" F.State___init__ (yF (op1 (fldD "State" "wide") (vr 4)) (yF (op2 addD (vr 5) (cst (.int 1))) (yF (op2 addD (op1 (fldD "State" "kept") (vr 4)) (fnE lstD (yF (vr 7) aNil))) aNil)))))) (retS (vr 5))))))))
def F.Plane_lay : List D -> Sto -> R D := fnF 8 4 Den.Plane_lay
def Den.Plane_take : DSt :=
 (seqS (setS 2 (op2 ixD (op1 (fldD "Plane" "states") (vr 0)) (op1 negD (cst (.int 1))))) (seqS (ifS (orT (notT (tv (fnE F.k02_whole (yF (vr 1) aNil)))) (tv (op2 notinD (vr 1) (qAj (itE itL (op1 (fldD "State" "kept") (vr 2))) 1 (setG 4) (op2 ixD (vr 4) (cst (.int 0))))))) nevS nxS) (seqS (setS 3 (qC1 (itE itL (op1 (fldD "State" "kept") (vr 2))) 1 (setG 4) (tv (op2 neD (op2 ixD (vr 4) (cst (.int 0))) (vr 1))) (vr 4))) (dropS (opM appD (op1 (fldD "Plane" "states") (vr 0)) (mkE "State" F.State___init__ (yF (op1 (fldD "State" "wide") (vr 2)) (yF (op1 (fldD "State" "laid") (vr 2)) (yF (vr 3) aNil)))))))))
def F.Plane_take : List D -> Sto -> R D := fnF 4 2 Den.Plane_take
def Den.with_row : DSt :=
 (retS (fnE tupD (yF (op2 ixD (vr 0) (cst (.int 0))) (yF (vr 1) (yF (op2 ixD (vr 0) (cst (.int 2))) (yF (op2 ixD (vr 0) (cst (.int 3))) aNil))))))
def F.with_row : List D -> Sto -> R D := fnF 2 2 Den.with_row
def Den.Plane_widen : DSt :=
 (seqS (setS 2 (op2 ixD (op1 (fldD "Plane" "states") (vr 0)) (op1 negD (cst (.int 1))))) (seqS (ifS (notT (tv (fnE F.is_wide (yF (op2 addD (op1 (fldD "State" "wide") (vr 2)) (cst (.int 1))) aNil)))) nevS nxS) (seqS (ifS (notT (tv (fnE F.is_row (yF (vr 1) (yF (fnE lenD (yF (op1 (fldD "State" "kept") (vr 2)) aNil)) aNil))))) nevS nxS) (seqS (setS 3 (qAj (itA qC6 (yF (op1 (fldD "State" "kept") (vr 2)) (yF (vr 1) aNil))) 2 (tupG [(setG 4), (setG 5)]) (fnE F.with_row (yF (vr 4) (yF (op2 addD (op2 ixD (vr 4) (cst (.int 1))) (fnE lstD (yF (vr 5) aNil))) aNil))))) (dropS (opM appD (op1 (fldD "Plane" "states") (vr 0)) (mkE "State" F.State___init__ (yF (op2 addD (op1 (fldD "State" "wide") (vr 2)) (cst (.int 1))) (yF (op1 (fldD "State" "laid") (vr 2)) (yF (vr 3) aNil))))))))))
def F.Plane_widen : List D -> Sto -> R D := fnF 4 2 Den.Plane_widen
def Den.Plane_narrow : DSt :=
 (seqS (setS 1 (op2 ixD (op1 (fldD "Plane" "states") (vr 0)) (op1 negD (cst (.int 1))))) (seqS (ifS (tv (op2 eqD (op1 (fldD "State" "wide") (vr 1)) (cst (.int 0)))) nevS nxS) (seqS (setS 2 (qAj (itE itL (op1 (fldD "State" "kept") (vr 1))) 1 (setG 3) (fnE F.with_row (yF (vr 3) (yF (slE (op2 ixD (vr 3) (cst (.int 1))) noP (atP (op1 negD (cst (.int 1))))) aNil))))) (dropS (opM appD (op1 (fldD "Plane" "states") (vr 0)) (mkE "State" F.State___init__ (yF (op2 subD (op1 (fldD "State" "wide") (vr 1)) (cst (.int 1))) (yF (op1 (fldD "State" "laid") (vr 1)) (yF (vr 2) aNil)))))))))
def F.Plane_narrow : List D -> Sto -> R D := fnF 3 1 Den.Plane_narrow
def Den.Plane_points : DSt :=
 (retS (qAj (itE itL (op1 (fldD "State" "kept") (op2 ixD (op1 (fldD "Plane" "states") (vr 0)) (op1 negD (cst (.int 1)))))) 1 (setG 1) (fnE F.with_row (yF (vr 1) (yF (fnE lofD (yF (op2 ixD (vr 1) (cst (.int 1))) aNil)) aNil)))))
def F.Plane_points : List D -> Sto -> R D := fnF 1 1 Den.Plane_points
def Den.Plane_width : DSt :=
 (retS (op1 (fldD "State" "wide") (op2 ixD (op1 (fldD "Plane" "states") (vr 0)) (op1 negD (cst (.int 1))))))
def F.Plane_width : List D -> Sto -> R D := fnF 1 1 Den.Plane_width
def Den.k52_mixed : DSt :=
 (seqS (setS 2 (op2 modD (op2 mulD (op2 addD (op2 addD (op2 modD (vr 0) (cst (.int 2147483629))) (op2 mulD (cst (.int 7)) (vr 1))) (cst (.int 3))) (cst (.int 48271))) (cst (.int 2147483647)))) (seqS (setS 3 (cst (.int 0))) (seqS (forS (itA qC9 (yF (cst (.int 6)) aNil)) (setG 4) (seqS (setS 2 (op2 modD (op2 addD (op2 addD (op2 mulD (vr 2) (cst (.int 69621))) (op2 mulD (cst (.int 11)) (vr 4))) (cst (.int 5))) (cst (.int 2147483647)))) (setS 3 (op2 addD (op2 mulD (vr 3) (cst (.int 2147483647))) (vr 2))))) (retS (vr 3)))))
def F.k52_mixed : List D -> Sto -> R D := fnF 5 2 Den.k52_mixed
def Den.k52_lowest : DSt :=
 (seqS (setS 2 (fnE absD (yF (vr 0) aNil))) (seqS (setS 3 (vr 1)) (seqS (qCu (tv (op2 neD (vr 3) (cst (.int 0)))) (parS 2 3 (vr 3) (op2 modD (vr 2) (vr 3)))) (retS (fnE tupD (yF (op2 qCm (vr 0) (vr 2)) (yF (op2 qCm (vr 1) (vr 2)) aNil)))))))
def F.k52_lowest : List D -> Sto -> R D := fnF 4 2 Den.k52_lowest
def Den.k52_plus : DSt :=
 (retS (fnE F.k52_lowest (yF (op2 addD (op2 mulD (op2 ixD (vr 0) (cst (.int 0))) (op2 ixD (vr 1) (cst (.int 1)))) (op2 mulD (op2 ixD (vr 1) (cst (.int 0))) (op2 ixD (vr 0) (cst (.int 1))))) (yF (op2 mulD (op2 ixD (vr 0) (cst (.int 1))) (op2 ixD (vr 1) (cst (.int 1)))) aNil))))
def F.k52_plus : List D -> Sto -> R D := fnF 2 2 Den.k52_plus
def Den.k52_fresh : DSt :=
 (retS (fnE lstD (yF (vr 0) (yF (fnE lstD aNil) (yF (cst (.int 0)) aNil)))))
def F.k52_fresh : List D -> Sto -> R D := fnF 1 1 Den.k52_fresh
def Den.k52_alike (self : List D -> Sto -> R D) : DSt :=
 (seqS (ifS (orT (tv (op1 (isiD .lst) (vr 1))) (tv (op1 (isiD .tup) (vr 1)))) (seqS (ifS (orT (tv (op2 neD (op1 (isiD .lst) (vr 1)) (op1 (isiD .lst) (vr 0)))) (tv (op2 neD (op1 (isiD .tup) (vr 1)) (op1 (isiD .tup) (vr 0))))) (retS (cst (.bl false))) nxS) (retS (andV (op2 eqD (fnE lenD (yF (vr 0) aNil)) (fnE lenD (yF (vr 1) aNil))) (fnE allD (yF (qAj (itA zipLD (yF (vr 0) (yF (vr 1) aNil))) 2 (tupG [(setG 2), (setG 3)]) (fnE self (yF (vr 2) (yF (vr 3) aNil)))) aNil))))) nxS) (retS (andV (op1 (isiD .int) (vr 0)) (andV (notV (op1 (isiD .bool) (vr 0))) (op2 eqD (vr 0) (vr 1))))))
def F.k52_alike : Nat -> List D -> Sto -> R D
 | 0, _, _ => none
 | n + 1, ds, S => fnF 2 2 (Den.k52_alike (F.k52_alike n)) ds S
def Den.k52_stands : DSt :=
 (seqS (ifS (notT (tv (fnE (F.k52_alike 7) (yF (qAa "Plane" "width" F.Plane_width (vr 0) aNil) (yF (op2 ixD (vr 1) (cst (.int 0))) aNil))))) (retS (cst (.bl false))) nxS) (retS (fnE (F.k52_alike 7) (yF (qAa "Plane" "points" F.Plane_points (vr 0) aNil) (yF (op2 ixD (vr 1) (cst (.int 1))) aNil)))))
def F.k52_stands : List D -> Sto -> R D := fnF 2 2 Den.k52_stands
def Den.k52_taken : DSt :=
 (seqS (setS 3 (op2 modD (vr 2) (fnE lenD (yF (op2 ixD (vr 1) (cst (.int 1))) aNil)))) (seqS (dropS (qAa "Plane" "take" F.Plane_take (vr 0) (yF (op2 ixD (op2 ixD (op2 ixD (vr 1) (cst (.int 1))) (vr 3)) (cst (.int 0))) aNil))) (dropS (opM qDh (op2 ixD (vr 1) (cst (.int 1))) (vr 3)))))
def F.k52_taken : List D -> Sto -> R D := fnF 4 3 Den.k52_taken
def Den.k52_narrowed : DSt :=
 (seqS (dropS (qAa "Plane" "narrow" F.Plane_narrow (vr 0) aNil)) (seqS (forS (itE itL (op2 ixD (vr 1) (cst (.int 1)))) (setG 2) (dropS (op1 popD (op2 ixD (vr 2) (cst (.int 1)))))) (asgS (op2 subD (op2 ixD (vr 1) (cst (.int 0))) (cst (.int 1))) (qEv (vr 1) (cst (.int 0))))))
def F.k52_narrowed : List D -> Sto -> R D := fnF 3 2 Den.k52_narrowed
end
end
section
open Np PySem
noncomputable section
def Den.are_points : DSt :=
 (retS (andV (op1 (isiD .lst) (vr 0)) (fnE allD (yF (qAj (itE itL (vr 0)) 1 (setG 2) (fnE F.is_point (yF (vr 2) (yF (vr 1) aNil)))) aNil))))
def F.are_points : List D -> Sto -> R D := fnF 2 2 Den.are_points
def Den.Fit___init__ : DSt :=
 (seqS (ifS (orT (notT (tv (fnE F.is_wide (yF (vr 2) aNil)))) (notT (tv (fnE F.are_points (yF (vr 1) (yF (vr 2) aNil)))))) nevS nxS) (seqS (qBp "Fit" "wide" (vr 0) (vr 2)) (seqS (qBp "Fit" "columns" (vr 0) (fnE F.turned (yF (qAj (itE itL (vr 1)) 1 (setG 3) (op2 ixD (vr 3) (cst (.int 0)))) (yF (vr 2) aNil)))) (seqS (qBp "Fit" "wants" (vr 0) (qAj (itE itL (vr 1)) 1 (setG 3) (op2 ixD (vr 3) (cst (.int 1))))) (seqS (qBp "Fit" "weights" (vr 0) (qAj (itE itL (vr 1)) 1 (setG 3) (op2 ixD (vr 3) (cst (.int 2))))) (seqS (qBp "Fit" "parts" (vr 0) (fnE F.lefts (yF (op1 (fldD "Fit" "columns") (vr 0)) (yF (op1 (fldD "Fit" "weights") (vr 0)) aNil)))) (qBp "Fit" "near" (vr 0) (fnE F.parted (yF (op1 (fldD "Fit" "wants") (vr 0)) (yF (op1 (fldD "Fit" "parts") (vr 0)) (yF (op1 (fldD "Fit" "weights") (vr 0)) aNil)))))))))))
def F.Fit___init__ : List D -> Sto -> R D := fnF 3 3 Den.Fit___init__
def Den.Fit_told : DSt :=
 (retS (fnE lofD (yF (op2 ixD (op1 (fldD "Fit" "near") (vr 0)) (cst (.int 1))) aNil)))
def F.Fit_told : List D -> Sto -> R D := fnF 1 1 Den.Fit_told
def Den.Plane_fit : DSt :=
 (seqS (setS 1 (op2 ixD (op1 (fldD "Plane" "states") (vr 0)) (op1 negD (cst (.int 1))))) (retS (mkE "Fit" F.Fit___init__ (yF (qAj (itE itL (op1 (fldD "State" "kept") (vr 1))) 1 (setG 2) (slE (vr 2) (atP (cst (.int 1))) noP)) (yF (op1 (fldD "State" "wide") (vr 1)) aNil)))))
def F.Plane_fit : List D -> Sto -> R D := fnF 2 1 Den.Plane_fit
def Den.Plane_told : DSt :=
 (retS (qAa "Fit" "told" F.Fit_told (qAa "Plane" "fit" F.Plane_fit (vr 0) aNil) aNil))
def F.Plane_told : List D -> Sto -> R D := fnF 1 1 Den.Plane_told
end
end
section
open Np PySem
noncomputable section
def Den.Fit_free : DSt :=
 (retS (qC1 (itA enumD (yF (op1 (fldD "Fit" "parts") (vr 0)) aNil)) 2 (tupG [(setG 1), (setG 2)]) (tv (fnE F.is_still (yF (op2 ixD (vr 2) (cst (.int 0))) aNil))) (vr 1)))
def F.Fit_free : List D -> Sto -> R D := fnF 1 1 Den.Fit_free
def Den.Fit_squares : DSt :=
 (retS (fnE F.square (yF (op2 ixD (op1 (fldD "Fit" "near") (vr 0)) (cst (.int 0))) (yF (op1 (fldD "Fit" "weights") (vr 0)) aNil))))
def F.Fit_squares : List D -> Sto -> R D := fnF 1 1 Den.Fit_squares
def Den.Fit_ways : DSt :=
 (retS (qAj (itE itL (qAa "Fit" "free" F.Fit_free (vr 0) aNil)) 1 (setG 1) (fnE F.mix_of_left (yF (op2 ixD (op2 ixD (op1 (fldD "Fit" "parts") (vr 0)) (vr 1)) (cst (.int 1))) (yF (op1 (fldD "Fit" "wide") (vr 0)) aNil)))))
def F.Fit_ways : List D -> Sto -> R D := fnF 1 1 Den.Fit_ways
def Den.Plane_free : DSt :=
 (retS (qAa "Fit" "free" F.Fit_free (qAa "Plane" "fit" F.Plane_fit (vr 0) aNil) aNil))
def F.Plane_free : List D -> Sto -> R D := fnF 1 1 Den.Plane_free
def Den.Plane_ways : DSt :=
 (retS (qAa "Fit" "ways" F.Fit_ways (qAa "Plane" "fit" F.Plane_fit (vr 0) aNil) aNil))
def F.Plane_ways : List D -> Sto -> R D := fnF 1 1 Den.Plane_ways
def Den.Plane_squares : DSt :=
 (retS (qAa "Fit" "squares" F.Fit_squares (qAa "Plane" "fit" F.Plane_fit (vr 0) aNil) aNil))
def F.Plane_squares : List D -> Sto -> R D := fnF 1 1 Den.Plane_squares
end
end
section
open Np PySem
noncomputable section
def Den.Fit_rests : DSt :=
 (retS (fnE lofD (yF (op2 ixD (op1 (fldD "Fit" "near") (vr 0)) (cst (.int 0))) aNil)))
def F.Fit_rests : List D -> Sto -> R D := fnF 1 1 Den.Fit_rests
def Den.k54_ratio : DSt :=
 (seqS (asgS (fnE dvmD (yF (vr 0) (yF (cst (.int 16)) aNil))) (tupG [(setG 0), (setG 1)])) (seqS (asgS (fnE dvmD (yF (vr 0) (yF (cst (.int 8)) aNil))) (tupG [(setG 0), (setG 2)])) (seqS (ifS (tv (op2 eqD (vr 1) (cst (.int 3)))) (retS (fnE tupD (yF (op2 subD (op2 mulD (vr 0) (cst (.int 1000))) (cst (.int 500000))) (yF (cst (.int 1)) aNil)))) nxS) (retS (fnE F.k52_lowest (yF (op2 subD (op2 modD (vr 0) (cst (.int 19))) (cst (.int 9))) (yF (op2 ixD (fnE lstD (yF (cst (.int 1)) (yF (cst (.int 1)) (yF (cst (.int 1)) (yF (cst (.int 2)) (yF (cst (.int 3)) (yF (cst (.int 4)) (yF (cst (.int 6)) (yF (cst (.int 12)) aNil))))))))) (vr 2)) aNil)))))))
def F.k54_ratio : List D -> Sto -> R D := fnF 3 1 Den.k54_ratio
def Den.k54_row : DSt :=
 (seqS (setS 2 (fnE lstD aNil)) (seqS (forS (itA qC9 (yF (vr 1) aNil)) (setG 3) (dropS (opM appD (vr 2) (fnE F.k54_ratio (yF (op2 modD (fnE F.k52_mixed (yF (vr 0) (yF (op2 addD (cst (.int 31)) (vr 3)) aNil))) (cst (.int 100003))) aNil))))) (retS (vr 2))))
def F.k54_row : List D -> Sto -> R D := fnF 4 2 Den.k54_row
def Den.k54_point : DSt :=
 (seqS (asgS (fnE dvmD (yF (vr 0) (yF (cst (.int 100003)) aNil))) (tupG [(setG 0), (setG 3)])) (seqS (asgS (fnE dvmD (yF (vr 0) (yF (cst (.int 6)) aNil))) (tupG [(setG 0), (setG 4)])) (seqS (setS 5 (fnE F.k54_row (yF (vr 0) (yF (vr 1) aNil)))) (seqS (ifS (andT (tv (vr 2)) (tv (op2 gtD (vr 1) (cst (.int 1))))) (asgS (fnE F.k52_plus (yF (op2 ixD (vr 5) (cst (.int 0))) (yF (op2 ixD (vr 5) (op2 subD (vr 1) (cst (.int 2)))) aNil))) (qEv (vr 5) (op2 subD (vr 1) (cst (.int 1))))) nxS) (retS (fnE tupD (yF (vr 5) (yF (fnE F.k54_ratio (yF (vr 3) aNil)) (yF (op2 ixD (fnE lstD (yF (fnE tupD (yF (cst (.int 1)) (yF (cst (.int 1)) aNil))) (yF (fnE tupD (yF (cst (.int 1)) (yF (cst (.int 1)) aNil))) (yF (fnE tupD (yF (cst (.int 1)) (yF (cst (.int 2)) aNil))) (yF (fnE tupD (yF (cst (.int 2)) (yF (cst (.int 1)) aNil))) (yF (fnE tupD (yF (cst (.int 3)) (yF (cst (.int 1)) aNil))) (yF (fnE tupD (yF (cst (.int 5)) (yF (cst (.int 7)) aNil))) aNil))))))) (vr 4)) aNil)))))))))
def F.k54_point : List D -> Sto -> R D := fnF 6 3 Den.k54_point
def Den.k54_laid : DSt :=
 (seqS (asgS (fnE F.k54_point (yF (vr 2) (yF (op2 ixD (vr 1) (cst (.int 0))) (yF (vr 3) aNil)))) (tupG [(setG 4), (setG 5), (setG 6)])) (seqS (ifS (andT (tv (op2 gtD (fnE lenD (yF (op2 ixD (vr 1) (cst (.int 1))) aNil)) (cst (.int 0)))) (tv (op2 eqD (op2 modD (vr 2) (cst (.int 5))) (cst (.int 1))))) (setS 4 (fnE lofD (yF (op2 ixD (op2 ixD (op2 ixD (vr 1) (cst (.int 1))) (op2 modD (op2 qCm (vr 2) (cst (.int 5))) (fnE lenD (yF (op2 ixD (vr 1) (cst (.int 1))) aNil)))) (cst (.int 1))) aNil))) nxS) (seqS (setS 7 (fnE lofD (yF (vr 4) aNil))) (seqS (ifS (tv (op2 eqD (vr 6) (fnE tupD (yF (cst (.int 1)) (yF (cst (.int 1)) aNil))))) (setS 8 (qAa "Plane" "lay" (fnD F.Plane_lay [.non]) (vr 0) (yF (vr 7) (yF (vr 5) aNil)))) (setS 8 (qAa "Plane" "lay" F.Plane_lay (vr 0) (yF (vr 7) (yF (vr 5) (yF (vr 6) aNil)))))) (seqS (ifS (tv (op2 neD (vr 7) (vr 4))) (retS (cst (.bl false))) nxS) (seqS (dropS (opM appD (vr 7) (fnE tupD (yF (cst (.int 7)) (yF (cst (.int 1)) aNil))))) (seqS (dropS (opM appD (op2 ixD (vr 1) (cst (.int 1))) (fnE tupD (yF (op2 ixD (vr 1) (cst (.int 2))) (yF (vr 4) (yF (vr 5) (yF (vr 6) aNil))))))) (seqS (asgS (op2 addD (op2 ixD (vr 1) (cst (.int 2))) (cst (.int 1))) (qEv (vr 1) (cst (.int 2)))) (retS (fnE (F.k52_alike 7) (yF (vr 8) (yF (op2 subD (op2 ixD (vr 1) (cst (.int 2))) (cst (.int 1))) aNil))))))))))))
def F.k54_laid : List D -> Sto -> R D := fnF 9 4 Den.k54_laid
def Den.k54_widened : DSt :=
 (seqS (setS 3 (fnE F.k54_row (yF (vr 2) (yF (fnE lenD (yF (op2 ixD (vr 1) (cst (.int 1))) aNil)) aNil)))) (seqS (setS 4 (fnE lofD (yF (vr 3) aNil))) (seqS (dropS (qAa "Plane" "widen" F.Plane_widen (vr 0) (yF (vr 4) aNil))) (seqS (dropS (opM appD (vr 4) (fnE tupD (yF (cst (.int 7)) (yF (cst (.int 1)) aNil))))) (seqS (forS (itA qC9 (yF (fnE lenD (yF (vr 3) aNil)) aNil)) (setG 5) (dropS (opM appD (op2 ixD (op2 ixD (op2 ixD (vr 1) (cst (.int 1))) (vr 5)) (cst (.int 1))) (op2 ixD (vr 3) (vr 5))))) (asgS (op2 addD (op2 ixD (vr 1) (cst (.int 0))) (cst (.int 1))) (qEv (vr 1) (cst (.int 0)))))))))
def F.k54_widened : List D -> Sto -> R D := fnF 6 3 Den.k54_widened
def Den.k54_same : DSt :=
 (seqS (ifS (tv (vr 2)) (ifS (orT (notT (tv (fnE (F.k52_alike 7) (yF (orE (qAa "Plane" "squares" F.Plane_squares (vr 0) aNil) (qAa "Fit" "squares" F.Fit_squares (vr 0) aNil)) (yF (qAa "Fit" "squares" F.Fit_squares (vr 1) aNil) aNil))))) (notT (tv (fnE (F.k52_alike 7) (yF (orE (qAa "Plane" "ways" F.Plane_ways (vr 0) aNil) (qAa "Fit" "ways" F.Fit_ways (vr 0) aNil)) (yF (qAa "Fit" "ways" F.Fit_ways (vr 1) aNil) aNil)))))) (retS (cst (.bl false))) nxS) nxS) (seqS (setS 3 (orE (qAa "Plane" "told" F.Plane_told (vr 0) aNil) (qAa "Fit" "told" F.Fit_told (vr 0) aNil))) (seqS (ifS (orT (notT (tv (fnE (F.k52_alike 7) (yF (vr 3) (yF (qAa "Fit" "told" F.Fit_told (vr 1) aNil) aNil))))) (notT (tv (fnE (F.k52_alike 7) (yF (orE (qAa "Plane" "free" F.Plane_free (vr 0) aNil) (qAa "Fit" "free" F.Fit_free (vr 0) aNil)) (yF (qAa "Fit" "free" F.Fit_free (vr 1) aNil) aNil)))))) (retS (cst (.bl false))) nxS) (seqS (dropS (opM appD (vr 3) (fnE tupD (yF (cst (.int 1)) (yF (cst (.int 1)) aNil))))) (seqS (ifS (orT (notT (tv (fnE (F.k52_alike 7) (yF (orE (qAa "Plane" "ways" F.Plane_ways (vr 0) aNil) (qAa "Fit" "ways" F.Fit_ways (vr 0) aNil)) (yF (qAa "Fit" "ways" F.Fit_ways (vr 1) aNil) aNil))))) (notT (tv (fnE (F.k52_alike 7) (yF (orE (qAa "Plane" "squares" F.Plane_squares (vr 0) aNil) (qAa "Fit" "squares" F.Fit_squares (vr 0) aNil)) (yF (qAa "Fit" "squares" F.Fit_squares (vr 1) aNil) aNil)))))) (retS (cst (.bl false))) nxS) (retS (fnE (F.k52_alike 7) (yF (orE (qAa "Plane" "told" F.Plane_told (vr 0) aNil) (qAa "Fit" "told" F.Fit_told (vr 0) aNil)) (yF (qAa "Fit" "told" F.Fit_told (vr 1) aNil) aNil)))))))))
def F.k54_same : List D -> Sto -> R D := fnF 4 3 Den.k54_same
def Den.k54_asked : DSt :=
 (seqS (setS 3 (mkE "Fit" F.Fit___init__ (yF (qAj (itE itL (op2 ixD (vr 1) (cst (.int 1)))) 4 (tupG [(setG 5), (setG 6), (setG 7), (setG 8)]) (fnE tupD (yF (fnE lofD (yF (vr 6) aNil)) (yF (vr 7) (yF (vr 8) aNil))))) (yF (op2 ixD (vr 1) (cst (.int 0))) aNil)))) (seqS (setS 4 (qAa "Plane" "fit" F.Plane_fit (vr 0) aNil)) (seqS (ifS (orT (notT (tv (op1 (isoD "Fit") (vr 4)))) (orT (notT (tv (fnE (F.k52_alike 7) (yF (op1 (fldD "Fit" "wide") (vr 4)) (yF (op2 ixD (vr 1) (cst (.int 0))) aNil))))) (notT (tv (fnE (F.k52_alike 7) (yF (qAa "Fit" "rests" F.Fit_rests (vr 4) aNil) (yF (qAa "Fit" "rests" F.Fit_rests (vr 3) aNil) aNil))))))) (retS (cst (.bl false))) nxS) (retS (andV (fnE F.k54_same (yF (vr 0) (yF (vr 3) (yF (op2 eqD (op2 modD (vr 2) (cst (.int 2))) (cst (.int 0))) aNil)))) (fnE F.k54_same (yF (vr 4) (yF (vr 3) (yF (op2 ltD (op2 modD (vr 2) (cst (.int 4))) (cst (.int 2))) aNil)))))))))
def F.k54_asked : List D -> Sto -> R D := fnF 5 3 Den.k54_asked
def Den.k54_law : DSt :=
 (seqS (setS 1 (op2 mulD (cst (.int 9)) (fnE intD (yF (op2 eqD (op2 modD (op2 qCm (fnE F.k11_cell_at (yF (vr 0) (yF (cst (.int 0)) aNil))) (cst (.int 8))) (cst (.int 8))) (cst (.int 1))) aNil)))) (seqS (setS 2 (op2 addD (op2 modD (fnE F.k11_cell_at (yF (vr 0) (yF (cst (.int 0)) aNil))) (cst (.int 4))) (op2 qCm (vr 1) (cst (.int 3))))) (seqS (setS 3 (op2 eqD (op2 modD (op2 qCm (fnE F.k11_cell_at (yF (vr 0) (yF (cst (.int 0)) aNil))) (cst (.int 4))) (cst (.int 2))) (cst (.int 1)))) (seqS (setS 4 (mkE "Plane" F.Plane___init__ (yF (vr 2) aNil))) (seqS (setS 5 (fnE F.k52_fresh (yF (vr 2) aNil))) (seqS (setS 6 (cst .non)) (seqS (forS (itA rng2D (yF (cst (.int 1)) (yF (fnE minD (yF (cst (.int 16)) (yF (fnE lenD (yF (vr 0) aNil)) aNil))) aNil))) (setG 7) (seqS (asgS (fnE dvmD (yF (fnE F.k52_mixed (yF (op2 ixD (vr 0) (vr 7)) (yF (vr 7) aNil))) (yF (cst (.int 7)) aNil))) (tupG [(setG 8), (setG 9)])) (seqS (ifS (orT (andT (tv (op2 eqD (vr 9) (cst (.int 0)))) (tv (op2 gtD (fnE lenD (yF (op2 ixD (vr 5) (cst (.int 1))) aNil)) (cst (.int 0))))) (tv (op2 eqD (fnE lenD (yF (op2 ixD (vr 5) (cst (.int 1))) aNil)) (op2 addD (cst (.int 5)) (vr 1))))) (dropS (fnE F.k52_taken (yF (vr 4) (yF (vr 5) (yF (vr 8) aNil))))) (ifS (andT (tv (op2 eqD (vr 9) (cst (.int 1)))) (tv (op2 ltD (op2 ixD (vr 5) (cst (.int 0))) (op2 addD (cst (.int 3)) (op2 qCm (vr 1) (cst (.int 3))))))) (dropS (fnE F.k54_widened (yF (vr 4) (yF (vr 5) (yF (vr 8) aNil))))) (ifS (andT (tv (op2 eqD (vr 9) (cst (.int 2)))) (tv (op2 gtD (op2 ixD (vr 5) (cst (.int 0))) (cst (.int 0))))) (dropS (fnE F.k52_narrowed (yF (vr 4) (yF (vr 5) aNil)))) (ifS (notT (tv (fnE F.k54_laid (yF (vr 4) (yF (vr 5) (yF (vr 8) (yF (vr 3) aNil))))))) (retS (cst (.bl false))) nxS)))) (seqS (ifS (andT (tv (op2 isNND (vr 6) (cst .non))) (notT (tv (fnE (F.k52_alike 7) (yF (qAa "Fit" "told" F.Fit_told (op2 ixD (vr 6) (cst (.int 0))) aNil) (yF (op2 ixD (vr 6) (cst (.int 1))) aNil)))))) (retS (cst (.bl false))) nxS) (ifS (tv (op2 eqD (vr 7) (cst (.int 8)))) (seqS (ifS (notT (tv (fnE F.k54_asked (yF (vr 4) (yF (vr 5) (yF (vr 8) aNil)))))) (retS (cst (.bl false))) nxS) (seqS (setS 10 (qAa "Plane" "fit" F.Plane_fit (vr 4) aNil)) (setS 6 (fnE lstD (yF (vr 10) (yF (qAa "Fit" "told" F.Fit_told (vr 10) aNil) aNil)))))) nxS))))) (retS (andV (fnE F.k54_asked (yF (vr 4) (yF (vr 5) (yF (cst (.int 0)) aNil)))) (fnE F.k52_stands (yF (vr 4) (yF (vr 5) aNil))))))))))))
def F.k54_law : List D -> Sto -> R D := fnF 11 1 Den.k54_law
end
end
section
namespace Np
open PySem
def ratD (r : Rat) : D := .tup [.int r.num, .int (r.den : Int)]
def asRat : D -> Option Rat
 | .tup [.int n, .int d] => if (jCz n d).num = n /\ ((jCz n d).den : Int) = d then some (jCz n d) else none
 | _ => none
@[simp] theorem qDe (r : Rat) : asRat (ratD r) = some r := by
 have h : jCz r.num (r.den : Int) = r := jC0 r
 simp [asRat, ratD, h]
def Le (n : Nat) (r : Rat) : Prop := r.num.natAbs < 2 ^ n /\ r.den < 2 ^ n
theorem Le.mono (h : Le m r) (k : m <= n) : Le n r := by
 have : 2 ^ m <= 2 ^ n := jC1 (by decide) k
 exact ⟨jAd h.1 this, jAd h.2 this⟩
theorem qEj (h : k < 2 ^ n) : k.log2 <= n := by
 rcases jC2 k with z | z
 ·subst z; simp
 ·exact jAk ((Nat.log2_lt (jAv z)).mpr h)
theorem Le.num (h : Le n r) : r.num.natAbs.log2 <= n := qEj h.1
theorem Le.den (h : Le n r) : ((r.den : Int)).natAbs.log2 <= n := by
 rw [jC3]; exact qEj h.2
theorem qFp (a b : Int) : (jCz a b).num.natAbs <= a.natAbs := by
 rw [Rat.num_divInt]
 by_cases hb : b = 0
 ·subst hb; simp
 ·have e : (b.sign * a / (b.gcd a : Int)).natAbs <= (b.sign * a).natAbs := by
   rw [Int.natAbs_ediv_of_dvd]
   ·exact Nat.div_le_self _ _
   ·exact Int.dvd_mul_of_dvd_right (Int.gcd_dvd_right ..)
  refine jAj e ?_
  rw [jC4, Int.natAbs_sign_of_ne_zero hb, Nat.one_mul]
  exact jAx _
theorem qF5 (hb : b ≠ 0) : (jCz a b).den <= b.natAbs := by
 rw [Rat.den_divInt, if_neg hb]
 exact Nat.div_le_self _ _
theorem Le.divInt (hb : b ≠ 0) (h1 : a.natAbs < 2 ^ n) (h2 : b.natAbs < 2 ^ n) : Le n (jCz a b) :=
 ⟨jCm (qFp a b) h1, jCm (qF5 hb) h2⟩
theorem qB4 (r : Rat) : (0 : Int) < r.den := by have := r.den_pos; omega
theorem qCk (a b : Rat) : a + b = jCz (a.num * b.den + b.num * a.den) (a.den * b.den) := by
 rw [Rat.add_def', <- jC5]
 norm_cast
theorem sub_divInt (a b : Rat) : a - b = jCz (a.num * b.den - b.num * a.den) (a.den * b.den) := by
 rw [Rat.sub_def', <- jC5]
 norm_cast
theorem qE5 (a b : Rat) : a * b = jCz (a.num * b.num) (a.den * b.den) := by
 rw [Rat.mul_def', <- jC5]
 norm_cast
theorem qEs (a b : Rat) : (a.den : Int) * b.den ≠ 0 := Int.mul_ne_zero (by have := qB4 a; omega) (by have := qB4 b; omega)
theorem qBg (h1 : x < 2 ^ m) (h2 : y < 2 ^ n) : x * y < 2 ^ (m + n) := by
 rw [jC6]
 exact Nat.mul_lt_mul'' h1 h2
theorem Le.add (ha : Le m a) (hb : Le n b) : Le (m + n + 1) (a + b) := by
 rw [qCk]
 refine Le.divInt (qEs a b) ?_ ?_
 ·have h1 : (a.num * (b.den : Int)).natAbs < 2 ^ (m + n) := by rw [jC4, jC3]; exact qBg ha.1 hb.2
  have h2 : (b.num * (a.den : Int)).natAbs < 2 ^ (m + n) := by rw [jC4, jC3, Nat.add_comm]; exact qBg hb.1 ha.2
  have h3 := jC7 (a.num * (b.den : Int)) (b.num * (a.den : Int))
  rw [jC8]
  omega
 ·rw [jC4, jC3, jC3]
  exact Nat.lt_trans (qBg ha.2 hb.2) (jC9 (by decide) (jBf _))
theorem Le.neg (ha : Le n a) : Le n (-a) := by
 refine ⟨?_, ?_⟩
 ·show (-a.num).natAbs < _
  rw [Int.natAbs_neg]; exact ha.1
 ·show a.den < _
  exact ha.2
theorem Le.mul (ha : Le m a) (hb : Le n b) : Le (m + n) (a * b) := by
 rw [qE5]
 refine Le.divInt (qEs a b) ?_ ?_
 ·rw [jC4]; exact qBg ha.1 hb.1
 ·rw [jC4, jC3, jC3]; exact qBg ha.2 hb.2
def sm (r : Rat) : Prop := r.num.natAbs.log2 <= 40000000 /\ r.den.log2 <= 40000000
theorem Le.sm (h : Le n r) (k : n <= 40000000) : sm r := ⟨jAj (qEj h.1) k, jAj (qEj h.2) k⟩
theorem div_divInt : a / b = jCz (a.num * b.den) (a.den * b.num) := by
 rw [jDa, Rat.inv_def]
 conv => lhs; lhs; rw [<- jC0 a]
 rw [Rat.divInt_mul_divInt]
theorem Le.one (h : 0 < n) : Le n 1 := ⟨by
 show (1 : Nat) < 2 ^ n
 exact jDb (by omega), by
 show (1 : Nat) < 2 ^ n
 exact jDb (by omega)⟩
theorem Le.zero (h : 0 < n) : Le n 0 := ⟨by
 show (0 : Nat) < 2 ^ n
 exact jDc n, by
 show (1 : Nat) < 2 ^ n
 exact jDb (by omega)⟩
theorem W_fnF (h : ds.length = k) (q : W (outF (g (startD n ds) S)) Q) : W (fnF n k g ds S) Q := by unfold fnF; rw [if_pos h, W_noer]; exact q
theorem qD8 (n : Nat) (S : Sto) (i : Int) : rd n S (.int i) = some (.int i) := by cases n <;> rfl
theorem rd_bl (n : Nat) (S : Sto) (b : Bool) : rd n S (.bl b) = some (.bl b) := by cases n <;> rfl
theorem eqD_int (i j : Int) (S : Sto) : eqD (.int i) (.int j) S = ok (.bl (decide (i = j))) S := by
 unfold eqD; rw [qD8, qD8]; rfl
theorem neD_int (i j : Int) (S : Sto) : neD (.int i) (.int j) S = ok (.bl (!decide (i = j))) S := by
 unfold neD; rw [qD8, qD8]; rfl
theorem eqD_bl (i j : Bool) (S : Sto) : eqD (.bl i) (.bl j) S = ok (.bl (i == j)) S := by
 unfold eqD; rw [rd_bl, rd_bl]; rfl
def ratT (q : Rat) : T := .tup [.int q.num, .int q.den]
theorem rd_rat (n : Nat) (S : Sto) (q : Rat) : rd (n + 1) S (ratD q) = some (ratT q) := by
 simp [rd, rdl, ratD, ratT, qD8]
theorem rat_ext {p q : Rat} (h1 : p.num = q.num) (h2 : (p.den : Int) = q.den) : p = q := Rat.ext h1 (by omega)
theorem eqT_rat (p q : Rat) : eqT (ratT p) (ratT q) = decide (p = q) := by
 simp only [ratT, eqT, eqTs, Bool.and_true]
 by_cases h : p = q
 ·subst h; simp
 ·rw [decide_eq_false h]
  by_cases h1 : p.num = q.num
  ·have h2 : ¬ (p.den : Int) = q.den := fun h2 => h (rat_ext h1 h2)
   simp [h1]
   exact fun h3 => h2 h3
  ·simp [h1]
theorem eqD_rat (p q : Rat) (S : Sto) : eqD (ratD p) (ratD q) S = ok (.bl (decide (p = q))) S := by
 unfold eqD; rw [rd_rat, rd_rat]
 show ok (D.bl (eqT (ratT p) (ratT q))) S = _
 rw [eqT_rat]
theorem neD_rat (p q : Rat) (S : Sto) : neD (ratD p) (ratD q) S = ok (.bl (!decide (p = q))) S := by
 unfold neD; rw [rd_rat, rd_rat]
 show ok (D.bl (!eqT (ratT p) (ratT q))) S = _
 rw [eqT_rat]
theorem rat0 : D.tup [.int 0, .int 1] = ratD 0 := rfl
theorem rat1 : D.tup [.int 1, .int 1] = ratD 1 := rfl
theorem tup2 (x y : D) (S : Sto) : tupD [x, y] S = ok (.tup [x, y]) S := rfl
theorem rdl_map (g : α -> D) (h : α -> T) (hf : ∀ x, f (g x) = some (h x)) : ∀ xs : List α, rdl f (xs.map g) = some (xs.map h)
 | [] => rfl
 | x :: xs => by simp [rdl, hf, rdl_map g h hf xs]
theorem eqTs_rat : ∀ xs ys : List Rat, eqTs (xs.map ratT) (ys.map ratT) = decide (xs = ys)
 | [], [] => by simp [eqTs]
 | [], _ :: _ => by simp [eqTs]
 | _ :: _, [] => by simp [eqTs]
 | x :: xs, y :: ys => by
  simp only [jBb, eqTs, eqT_rat, eqTs_rat xs ys, List.cons.injEq]
  by_cases h1 : x = y <;> by_cases h2 : xs = ys <;> simp [h1, h2]
abbrev RowA (S : Sto) (a : Nat) (xs : List Rat) : Prop := zH S a = some (xs.map ratD)
theorem rd_row (n : Nat) (h : RowA S a xs) : rd (n + 2) S (.ref a) = some (.lst (xs.map ratT)) := by
 show (match zH S a with | some ds => (rdl (rd (n + 1) S) ds).map T.lst | none => none) = _
 rw [h]
 show (rdl (rd (n + 1) S) (xs.map ratD)).map T.lst = _
 rw [rdl_map ratD ratT (rd_rat n S)]
 rfl
theorem neD_row (ha : RowA S a xs) (hb : RowA S b ys) : neD (.ref a) (.ref b) S = ok (.bl (!decide (xs = ys))) S := by
 unfold neD; rw [rd_row 7 ha, rd_row 7 hb]
 show ok (D.bl (!eqTs (xs.map ratT) (ys.map ratT))) S = _
 rw [eqTs_rat]
theorem addD_int (i j : Int) (S : Sto) : addD (.int i) (.int j) S = ok (.int (i + j)) S := rfl
theorem subD_int (i j : Int) (S : Sto) : subD (.int i) (.int j) S = ok (.int (i - j)) S := rfl
theorem negD_int (i : Int) (S : Sto) : negD (.int i) S = ok (.int (-i)) S := rfl
theorem absD_int (i : Int) (S : Sto) : absD [.int i] S = ok (.int (if i < 0 then -i else i)) S := rfl
theorem ltD_int (i j : Int) (S : Sto) : ltD (.int i) (.int j) S = ok (.bl (decide (i < j))) S := rfl
theorem leD_int (i j : Int) (S : Sto) : leD (.int i) (.int j) S = ok (.bl (decide (i <= j))) S := rfl
theorem gtD_int (i j : Int) (S : Sto) : gtD (.int i) (.int j) S = ok (.bl (decide (j < i))) S := rfl
theorem geD_int (i j : Int) (S : Sto) : geD (.int i) (.int j) S = ok (.bl (decide (j <= i))) S := rfl
theorem qA0 (h : j ≠ 0) (S : Sto) : qCm (.int i) (.int j) S = ok (.int (i.fdiv j)) S := by show (if _ then _ else _) = _; rw [if_neg h]
theorem qAi (h : j ≠ 0) (S : Sto) : modD (.int i) (.int j) S = ok (.int (i.fmod j)) S := by show (if _ then _ else _) = _; rw [if_neg h]
theorem qAf (h : i.natAbs.log2 + j.natAbs.log2 <= 100000000) (S : Sto) : mulD (.int i) (.int j) S = ok (.int (i * j)) S := by
 show (if _ then _ else _) = _
 rw [if_pos h]
theorem atPK_int (i : Int) (S : Sto) : atPK (.int i) S = ok (some i) S := rfl
theorem isND_non (x : D) (S : Sto) : isND x .non S = ok (.bl (qBr x)) S := rfl
theorem isNND_non (x : D) (S : Sto) : isNND x .non S = ok (.bl (!qBr x)) S := rfl
theorem noneB_non : qBr .non = true := rfl
theorem noneB_ref (a : Nat) : qBr (.ref a) = false := rfl
theorem noneB_tup (a : List D) : qBr (.tup a) = false := rfl
theorem noneB_int (a : Int) : qBr (.int a) = false := rfl
theorem noneB_rat (a : Rat) : qBr (ratD a) = false := rfl
theorem isi_int_int (i : Int) (S : Sto) : isiD .int (.int i) S = ok (.bl true) S := rfl
theorem isi_bool_int (i : Int) (S : Sto) : isiD .bool (.int i) S = ok (.bl false) S := rfl
theorem isi_bool_bl (i : Bool) (S : Sto) : isiD .bool (.bl i) S = ok (.bl true) S := rfl
theorem isi_tup_rat (p : Rat) (S : Sto) : isiD .tup (ratD p) S = ok (.bl true) S := rfl
theorem isi_tup_tup (p : List D) (S : Sto) : isiD .tup (.tup p) S = ok (.bl true) S := rfl
theorem qB1 (h : zH S a = some xs) : isiD .lst (.ref a) S = ok (.bl true) S := by
 unfold zH at h
 split at h
 ·rename_i e
  show (match (match S[a]? with | some (.lst _) => some true | some (.dct _) => some false | _ => none) with | some b => ok (D.bl b) S | none => none) = _
  rw [e]
 ·cases h
theorem qAe (h : zH S a = some xs) : lenD [.ref a] S = ok (.int xs.length) S := by
 show lenK (zH S a) S = _
 rw [h]; rfl
theorem lenD_rat (p : Rat) (S : Sto) : lenD [ratD p] S = ok (.int 2) S := rfl
theorem lenD_tup (xs : List D) (S : Sto) : lenD [.tup xs] S = ok (.int xs.length) S := rfl
theorem lenD_scr (xs : List D) (S : Sto) : lenD [.scr xs] S = ok (.int xs.length) S := rfl
theorem qFv (h : i < n) : ixA n (i : Int) = some i := by
 unfold ixA
 rw [if_pos (by omega), if_pos (by omega)]
 rfl
theorem qAg {S : Sto} {a i : Nat} {xs : List D} {d : D} (h : zH S a = some xs) (hi : xs[i]? = some d) : ixD (.ref a) (.int i) S = ok d S := by
 have hl : i < xs.length := (jAr.mp hi).1
 show ixK (zH S a) i S = _
 rw [h]
 unfold ixK
 simp only [qFv hl, jDd, hi]
theorem ixD_scr {S : Sto} {i : Nat} {xs : List D} {d : D} (hi : xs[i]? = some d) : ixD (.scr xs) (.int i) S = ok d S := by
 have hl : i < xs.length := (jAr.mp hi).1
 show ixK (some xs) i S = _
 unfold ixK
 simp only [qFv hl, jDd, hi]
theorem ix0 (p : Rat) (S : Sto) : ixD (ratD p) (.int 0) S = ok (.int p.num) S := rfl
theorem ix1 (p : Rat) (S : Sto) : ixD (ratD p) (.int 1) S = ok (.int p.den) S := rfl
theorem qAn (h : zH S a = some xs) : itL (.ref a) S = ok (.one a) S := by
 show (match zH S a with | some _ => ok (Src.one a) S | none => none) = _
 rw [h]
theorem itL_scr (xs : List D) (S : Sto) : itL (.scr xs) S = ok (.fix xs) S := rfl
theorem qA9 (h : zH S a = some xs) : lofD [.ref a] S = ok (.ref S.length) (S ++ [.lst xs]) := by
 show (match zH S a with | some xs => newO (.lst xs) S | none => none) = _
 rw [h]; rfl
theorem qGc (d : D) (h : zH S a = some xs) (hl : xs.length < 1000000) : appD (.ref a) d S = ok .non (S.set a (.lst (xs ++ [d]))) := by
 show (match zH S a with | some xs => _ | none => none) = _
 rw [h]
 show (if _ then _ else _) = _
 rw [if_pos hl]
theorem qAv (h : zH S a = some xs) (f : D -> D -> Sto -> R D) (b : DE) (δ : DS) : opMK f b δ (.ref a) S = bnd (b δ S) (f (.ref a)) := by
 unfold opMK isL
 simp only [h, Option.isSome_some, if_true]
theorem sm.nn (ha : sm a) (hb : sm b) : a.num.natAbs.log2 + b.num.natAbs.log2 <= 100000000 := by have := ha.1; have := hb.1; omega
theorem sm.nd (ha : sm a) (hb : sm b) : a.num.natAbs.log2 + ((b.den : Int)).natAbs.log2 <= 100000000 := by have := ha.1; have := hb.2; rw [jC3]; omega
theorem sm.dn (ha : sm a) (hb : sm b) : ((a.den : Int)).natAbs.log2 + b.num.natAbs.log2 <= 100000000 := by have := ha.2; have := hb.1; rw [jC3]; omega
theorem sm.dd (ha : sm a) (hb : sm b) : ((a.den : Int)).natAbs.log2 + ((b.den : Int)).natAbs.log2 <= 100000000 := by have := ha.2; have := hb.2; rw [jC3, jC3]; omega
end Np
end
local macro_rules
  | `(tactic| simp_all [$xs,*]) => do
    let ys : Lean.Syntax.TSepArray [`Lean.Parser.Tactic.simpStar, `Lean.Parser.Tactic.simpErase, `Lean.Parser.Tactic.simpLemma] "," := ⟨xs.elemsAndSeps⟩
    `(tactic| simp only [Np.ifK_t, Np.ifK_f, Np.ifEK_t, Np.ifEK_f, Np.andTK_t, Np.andTK_f, Np.orTK_t, Np.orTK_f, Np.andVB_t, Np.andVB_f, Np.orVB_t, Np.orVB_f, Np.chnB_t, Np.chnB_f, Np.W_bnd, Np.W_ok, Np.W_outF, Np.outQ, Np.seqS, Np.asgS, Np.asgK, Np.setS, Np.setG, Np.retS, Np.retK, Np.ifS, Np.dropS, Np.dropK, Np.nxS, Np.seqK_nx, Np.seqK_rt, Np.vr, Np.cst, Np.op1, Np.op2, Np.op2K, Np.opM, Np.opM3, Np.op3, Np.op3J, Np.op3K, Np.op3K2, Np.fnE, Np.fnD, Np.yF, Np.aConsK, Np.consK, Np.aNil, Np.tv, Np.truV_bl,
  Np.andT, Np.orT, Np.notT, Np.notK, Np.andV, Np.andVK, Np.orV, Np.orVK, Np.notV, Np.notVK, Np.notVB, Np.ifE, Np.chn, Np.chnK, Np.chnK2, Np.chnT, Np.parS, Np.parK, Np.parK2, Np.tupGs, Np.bnd_ok, Np.itE, Np.itA, Np.forS, Np.cntS, Np.brkS,
  Np.startD, jBb, jCc, jA7, jCq, jBm, jDe, jCa, jCu, jCg, List.set_cons_zero, List.set_cons_succ, jDf, Nat.reduceSub, Nat.zero_add,
  Np.addD_int, Np.subD_int, Np.negD_int, Np.absD_int, Np.ltD_int, Np.leD_int, Np.gtD_int, Np.geD_int, Np.isi_int_int, Np.isi_bool_int, Np.isi_bool_bl, Np.isi_tup_rat, Np.isi_tup_tup, Np.isND_non, Np.isNND_non, Np.noneB_non, Np.noneB_ref, Np.noneB_tup, Np.noneB_int, Np.noneB_rat, Np.eqD_int, Np.neD_int, Np.eqD_bl, Np.eqD_rat, Np.neD_rat, Np.tup2, Np.rat0, Np.rat1, Np.slE, Np.slK, Np.slK1, Np.slK2, Np.noP, Np.atP, Np.atPK_int,
  Np.lenD_rat, Np.lenD_tup, Np.lenD_scr, Np.ix0, Np.ix1, Np.itL_scr,
  decide_true, decide_false, Bool.not_true, Bool.not_false, Bool.not_not, decide_eq_true_eq, Bool.not_eq_true', decide_eq_false_iff_not, Bool.false_eq_true, if_true, if_false, Bool.not_eq_eq_eq_not, reduceIte, reduceCtorEq, ne_eq, not_true_eq_false, not_false_eq_true, and_self, $ys,*])
section
namespace Nm
open Np PySem
theorem gcd_step (hb : 0 < b) (ha : 0 <= a) : 0 <= a.fmod b /\ a.fmod b < b /\ jDg b (a.fmod b) = jDg a b := by
 rw [jDh a (by omega)]
 refine ⟨Int.emod_nonneg _ (by omega), Int.emod_lt_of_pos _ hb, ?_⟩
 obtain ⟨x, rfl⟩ := jDi ha
 obtain ⟨y, rfl⟩ := jDi (Int.le_of_lt hb)
 rw [<- Int.natCast_emod, jDj, jDj, Nat.gcd_comm y, <- Nat.gcd_rec, Nat.gcd_comm]
theorem W_eq (h : W m fun b S' => b = a /\ S' = S) : m = ok a S := by
 obtain ⟨b, S', e, rfl, rfl⟩ := h.out
 exact e
theorem qBo (ha : 0 <= a) (hb : 0 <= b) (S : Sto) : F.greatest_common [.int a, .int b] S = ok (.int (jDg a b)) S := by
 refine W_eq ?_
 (unfold F.greatest_common; refine Np.W_fnF rfl ?_; unfold Den.greatest_common; simp_all [])
 refine W_whileS (fun δ S' => S' = S /\ ∃ x y o, δ = [some (.int a), some (.int b), some (.int x), some (.int y), o] /\ 0 <= x /\ 0 <= y /\ jDg x y = jDg a b) (fun δ _ => match δ with | [_, _, _, some (.int y), _] => y.natAbs | _ => 0) ⟨rfl, a, b, none, rfl, ha, hb, rfl⟩ ?_
 rintro δ S' ⟨rfl, x, y, o, rfl, hx, hy, hg⟩
 simp_all []
 by_cases h0 : y = 0
 ·subst h0
  simp_all []
  rw [<- hg]
  simp
  omega
 ·rw [if_pos h0]
  obtain ⟨h1, h2, h3⟩ := gcd_step (a := x) (b := y) (by omega) hx
  simp_all [qAi h0]
  simp only [loopQ]
  refine ⟨⟨trivial, y, x.fmod y, _, rfl, hy, h1, by rw [h3, hg]⟩, by omega⟩
theorem gcd_abs (a b : Int) : jDg (if a < 0 then -a else a) (if b < 0 then -b else b) = jDg b a := by
 rw [Int.gcd_comm b a]
 unfold jDg
 congr 1 <;> split <;> simp
theorem qCi {a b : Int} (h : b ∣ a) (hb : b ≠ 0) : a.fdiv b = a / b := by
 obtain ⟨c, rfl⟩ := h
 rw [Int.mul_fdiv_cancel_left _ hb, Int.mul_ediv_cancel_left _ hb]
theorem qCp {a b : Int} (hb : b ≠ 0) : ∀ c : Int, c = (if b < 0 then -((jDg b a : Nat) : Int) else ((jDg b a : Nat) : Int)) -> c ≠ 0 /\ a.fdiv c = (jCz a b).num /\ b.fdiv c = ((jCz a b).den : Int) := by
 intro c hc
 have g0 : jDg b a ≠ 0 := fun z => hb (Int.eq_zero_of_gcd_eq_zero_left z)
 have g1 : ((jDg b a : Nat) : Int) ∣ a := Int.gcd_dvd_right ..
 have g2 : ((jDg b a : Nat) : Int) ∣ b := Int.gcd_dvd_left ..
 have g3 : ((jDg b a : Nat) : Int) ≠ 0 := by omega
 rw [Rat.num_divInt, Rat.den_divInt, if_neg hb]
 split at hc
 ·rename_i hn
  subst hc
  refine ⟨by omega, ?_, ?_⟩
  ·rw [qCi (Int.neg_dvd.mpr g1) (by omega), Int.ediv_neg, Int.sign_eq_neg_one_of_neg hn, Int.neg_one_mul, Int.neg_ediv_of_dvd g1]
  ·rw [qCi (Int.neg_dvd.mpr g2) (by omega), Int.ediv_neg, Int.natCast_ediv, Int.ofNat_natAbs_of_nonpos (by omega), Int.neg_ediv_of_dvd g2]
 ·rename_i hn
  subst hc
  refine ⟨g3, ?_, ?_⟩
  ·rw [qCi g1 g3, Int.sign_eq_one_of_pos (by omega), Int.one_mul]
  ·rw [qCi g2 g3, Int.natCast_ediv, Int.natAbs_of_nonneg (by omega)]
theorem qCl (a : Int) : 0 <= (if a < 0 then -a else a) := by split <;> omega
theorem qDs (hb : b ≠ 0) (S : Sto) : F.ratio [.int a, .int b] S = ok (ratD (jCz a b)) S := by
 refine W_eq ?_
 (unfold F.ratio; refine Np.W_fnF rfl ?_; unfold Den.ratio; simp_all [])
 simp_all [hb, qBo (qCl _) (qCl _), gcd_abs]
 by_cases hn : b < 0
 ·obtain ⟨c0, c1, c2⟩ := qCp (a := a) hb (-((jDg b a : Nat) : Int)) (by rw [if_pos hn])
  simp_all [hn, qA0 c0]
  simp only [c1, c2, ratD, and_self]
 ·obtain ⟨c0, c1, c2⟩ := qCp (a := a) hb (((jDg b a : Nat) : Int)) (by rw [if_neg hn])
  simp_all [hn, qA0 c0]
  simp only [c1, c2, ratD, and_self]
theorem plus_eq (hp : sm p) (hq : sm q) (S : Sto) : F.plus [ratD p, ratD q] S = ok (ratD (p + q)) S := by
 refine W_eq ?_
 (unfold F.plus; refine Np.W_fnF rfl ?_; unfold Den.plus; simp_all [])
 simp_all [qAf (hp.nd hq), qAf (hq.nd hp), qAf (hp.dd hq), qDs (qEs p q), <- qCk]
theorem minus_eq (hp : sm p) (hq : sm q) (S : Sto) : F.minus [ratD p, ratD q] S = ok (ratD (p - q)) S := by
 refine W_eq ?_
 (unfold F.minus; refine Np.W_fnF rfl ?_; unfold Den.minus; simp_all [])
 simp_all [qAf (hp.nd hq), qAf (hq.nd hp), qAf (hp.dd hq), qDs (qEs p q), <- sub_divInt]
theorem times_eq (hp : sm p) (hq : sm q) (S : Sto) : F.times [ratD p, ratD q] S = ok (ratD (p * q)) S := by
 refine W_eq ?_
 (unfold F.times; refine Np.W_fnF rfl ?_; unfold Den.times; simp_all [])
 simp_all [qAf (hp.nn hq), qAf (hp.dd hq), qDs (qEs p q), <- qE5]
theorem over_eq (hp : sm p) (hq : sm q) (h : q ≠ 0) (S : Sto) : F.over [ratD p, ratD q] S = ok (ratD (p / q)) S := by
 refine W_eq ?_
 (unfold F.over; refine Np.W_fnF rfl ?_; unfold Den.over; simp_all [])
 have h2 : (p.den : Int) * q.num ≠ 0 := Int.mul_ne_zero (by have := qB4 p; omega) fun z => h (Rat.num_eq_zero.mp z)
 simp_all [qAf (hp.nd hq), qAf (hp.dn hq), qDs h2, <- div_divInt]
def Has (src : Src) (S : Sto) (xs : List D) : Prop := xs.length <= src.len S /\ ∀ i, src.get S i = some xs[i]?
theorem Has.fix (xs : List D) (S : Sto) : Has (.fix xs) S xs := ⟨jAx _, fun _ => rfl⟩
theorem qBs (h : zH S a = some xs) (i : Nat) : (Src.one a).get S i = some xs[i]? := by
 show (match zH S a with | some xs => some xs[i]? | none => none) = _
 rw [h]
theorem qAk (h : zH S a = some xs) : (Src.one a).len S = xs.length := by
 show (match zH S a with | some xs => xs.length | none => 0) = _
 rw [h]
theorem Has.one (h : zH S a = some xs) : Has (.one a) S xs := ⟨by rw [qAk h]; exact jAx _, qBs h⟩
def qAy (xs ys : List D) : List D := jDk (fun x y => .tup [x, y]) xs ys
theorem qFz (h : zH S a = some xs) (k : zH S b = some ys) (i : Nat) : (Src.two a b).get S i = some (qAy xs ys)[i]? := by
 show (match zH S a, zH S b with | some xs, some ys => some (two1 xs[i]? ys[i]?) | _, _ => none) = _
 rw [h, k]
 show some (two1 xs[i]? ys[i]?) = _
 unfold qAy
 rw [jDl]
 cases xs[i]? <;> cases ys[i]? <;> rfl
theorem qCr (h : zH S a = some xs) : (Src.two a b).len S = xs.length := by
 show (match zH S a with | some xs => xs.length | none => 0) = _
 rw [h]
theorem Has.two (h : zH S a = some xs) (k : zH S b = some ys) : Has (.two a b) S (qAy xs ys) := ⟨by
 rw [qCr h]; unfold qAy; rw [jDm]; omega, qFz h k⟩
theorem qCt (h : zH S a = some xs) (k : zH S b = some ys) : qC6 [.ref a, .ref b] S = ok (.two a b) S := by
 show (match zH S a, zH S b with | some _, some _ => ok (Src.two a b) S | _, _ => none) = _
 rw [h, k]
theorem qCv {n : Nat} (h : n < 1000000) (S : Sto) : qC9 [.int n] S = ok (.fix (qB2 0 n)) S := by
 have hlim := lim_eq
 simp only [qC9]
 rw [if_pos (by omega)]
 rfl
theorem qEp : ∀ (n : Nat) (lo : Nat), qB2 lo n = (jDn lo n).map fun i => D.int (i : Nat)
 | 0, _ => rfl
 | n + 1, lo => by
  have := qEp n (lo + 1)
  simp only [List.range'_succ, jBb, qB2]
  rw [<- this]
  rfl
theorem qBw (n : Nat) : qB2 0 n = (jAg n).map fun i => D.int (i : Nat) := by
 have := qEp n 0
 rw [List.range_eq_range']
 exact this
theorem qCd (vals : D -> List (Option D)) (hg : Tg g k vals base P) (hit : it base S = ok src S) (hs : Has src S xs) (hl : src.len S <= 1000000) (hP : ∀ x ∈ xs, P x)
  (step : ∀ x ∈ xs, e (base ++ vals x) S = ok (f x) S) : qAj it k g e base S = ok (.ref S.length) (S ++ [.lst (xs.map f)]) := by
 refine W_eq ?_
 refine qCs vals xs (fun i acc S' => S' = S /\ acc = (xs.take i).map f) P hP hg ?_ ?_ ?_
 ·rw [hit, W_ok]
  exact ⟨hs.1, hl, ⟨rfl, rfl⟩, fun i acc S' ⟨h, _⟩ => by rw [h]; exact hs.2 i⟩
 ·rintro i x acc S' hx ha ⟨rfl, he⟩
  rw [step x (jBv hx), W_ok]
  refine ⟨rfl, ?_⟩
  rw [he, jDo, hx]
  simp
 ·rintro acc S' ⟨rfl, he⟩ _
  rw [he, jDp]
  exact ⟨rfl, rfl⟩
theorem W_compX (vals : D -> List (Option D)) (xs : List D) (Rl : D -> D -> Prop) (P : D -> Prop) (hg : Tg g k vals base P) (hP : ∀ x ∈ xs, P x)
  (hit : W (it base S) fun src S' => xs.length <= src.len S' /\ src.len S' <= 1000000 /\ SLe S S' /\ ∀ i S'', SLe S' S'' -> src.get S'' i = some xs[i]?)
  (step : ∀ x S', x ∈ xs -> SLe S S' -> W (e (base ++ vals x) S') fun d S'' => Rl x d /\ SLe S' S'')
  (fin : ∀ ds S', SLe S S' -> ds.length = xs.length -> (∀ (i : Nat) x d, xs[i]? = some x -> ds[i]? = some d -> Rl x d) -> Q (.ref S'.length) (S' ++ [.lst ds])) : W (qAj it k g e base S) Q := by
 obtain ⟨src, S0, e0, h1, h2, h3, h4⟩ := hit.out
 refine qCs vals xs (fun i acc S' => SLe S0 S' /\ acc.length = i /\ ∀ (j : Nat) x d, xs[j]? = some x -> acc[j]? = some d -> Rl x d) P hP hg ?_ ?_ ?_
 ·rw [e0, W_ok]
  exact ⟨h1, h2, ⟨SLe.rfl, rfl, fun j x d _ h => by simp at h⟩, fun i acc S'' h => h4 i S'' h.1⟩
 ·intro i x acc S' hx ha ⟨hS, _, he⟩
  refine (step x S' (jBv hx) (h3.trans hS)).mono fun d S'' ⟨h1, h2⟩ => ⟨hS.trans h2, by simp [ha], fun j y d' hy hd => ?_⟩
  by_cases hj : j < acc.length
  ·rw [jBt hj] at hd
   exact he j y d' hy hd
  ·rw [jBr (by omega)] at hd
   have : j = i := by
    have := (jAr.mp hd).1
    simp at this
    omega
   subst this
   rw [hx] at hy
   cases hy
   rw [<- ha] at hd
   simp at hd
   rw [<- hd]
   exact h1
 ·intro acc S' ⟨hS, hl, he⟩ hl'
  exact fin acc S' (h3.trans hS) hl' he
theorem qCz (h : z ∈ qAy xs ys) : ∃ p q, z = .tup [p, q] := by
 unfold qAy at h
 obtain ⟨i, hi, rfl⟩ := jDq h
 rw [jDr]
 exact ⟨_, _, rfl⟩
theorem pairs_map (f : D -> D) (g : Rat -> Rat -> Rat) (hf : ∀ p q : Rat, f (.tup [ratD p, ratD q]) = ratD (g p q)) : ∀ xs ys : List Rat, (qAy (xs.map ratD) (ys.map ratD)).map f = (jDk g xs ys).map ratD
 | [], _ => rfl
 | _ :: _, [] => rfl
 | x :: xs, y :: ys => by
  have := pairs_map f g hf xs ys
  unfold qAy at this ⊢
  simp [hf, this]
noncomputable def pr (g : Rat -> Rat -> Rat) (d : D) : D := match d with
 | .tup [p, q] => match asRat p, asRat q with
  | some a, some b => ratD (g a b)
  | _, _ => .non
 | _ => .non
theorem pr_eq (g : Rat -> Rat -> Rat) (p q : Rat) : pr g (.tup [ratD p, ratD q]) = ratD (g p q) := by
 show (match asRat (ratD p), asRat (ratD q) with | some a, some b => ratD (g a b) | _, _ => .non) = _
 rw [qDe, qDe]
theorem zip_step {f : List D -> Sto -> R D} {g : Rat -> Rat -> Rat} {S : Sto} {xs ys : List Rat} (hf : ∀ p ∈ xs, ∀ q ∈ ys, f [ratD p, ratD q] S = ok (ratD (g p q)) S) : ∀ z ∈ qAy (xs.map ratD) (ys.map ratD), ∃ p ∈ xs, ∃ q ∈ ys, z = .tup [ratD p, ratD q] /\ f [ratD p, ratD q] S = ok (pr g z) S := by
 intro z hz
 unfold qAy at hz
 obtain ⟨i, hi, rfl⟩ := jDq hz
 rw [jDr, List.getElem_map, List.getElem_map]
 rw [jDm, jBd, jBd] at hi
 exact ⟨_, jDs _, _, jDs _, rfl, by rw [pr_eq]; exact hf _ (jDs _) _ (jDs _)⟩
theorem qF6 {f : List D -> Sto -> R D} {g : Rat -> Rat -> Rat} {S : Sto} {a b : Nat} {xs ys : List Rat} (ha : RowA S a xs) (hb : RowA S b ys) (hl : xs.length <= 1000000) (hf : ∀ p ∈ xs, ∀ q ∈ ys, f [ratD p, ratD q] S = ok (ratD (g p q)) S) :
  qAj (itA qC6 (yF (vr 0) (yF (vr 1) aNil))) 2 (tupG [(setG 2), (setG 3)]) (fnE f (yF (vr 2) (yF (vr 3) aNil))) [some (.ref a), some (.ref b)] S = ok (.ref S.length) (S ++ [.lst ((jDk g xs ys).map ratD)]) := by
 have := qCd (it := itA qC6 (yF (vr 0) (yF (vr 1) aNil))) (e := fnE f (yF (vr 2) (yF (vr 3) aNil))) (f := pr g) _ (tg_two [some (.ref a), some (.ref b)]) (src := .two a b) (S := S) (by
   simp only [itA, yF, aConsK, aNil, consK, vr, jCu, jCg, bnd_ok]
   exact qCt ha hb) (Has.two ha hb) (by rw [qCr ha, jBd]; exact hl) (fun x hx => qCz hx) (fun z hz => by
   obtain ⟨p, _, q, _, rfl, h⟩ := zip_step hf z hz
   exact h)
 rw [pairs_map (pr g) g (pr_eq g)] at this
 exact this
theorem added_eq (ha : RowA S a xs) (hb : RowA S b ys) (hl : xs.length <= 1000000) (sx : ∀ x ∈ xs, sm x) (sy : ∀ y ∈ ys, sm y) : F.added [.ref a, .ref b] S = ok (.ref S.length) (S ++ [.lst ((jDk (· + ·) xs ys).map ratD)]) := by
 refine W_eq ?_
 (unfold F.added; refine Np.W_fnF rfl ?_; unfold Den.added; simp_all [])
 rw [qF6 ha hb hl fun p hp q hq => plus_eq (sx p hp) (sy q hq) S]
 simp_all []
theorem taken_eq (ha : RowA S a xs) (hb : RowA S b ys) (hl : xs.length <= 1000000) (sx : ∀ x ∈ xs, sm x) (sy : ∀ y ∈ ys, sm y) : F.taken [.ref a, .ref b] S = ok (.ref S.length) (S ++ [.lst ((jDk (· - ·) xs ys).map ratD)]) := by
 refine W_eq ?_
 (unfold F.taken; refine Np.W_fnF rfl ?_; unfold Den.taken; simp_all [])
 rw [qF6 ha hb hl fun p hp q hq => minus_eq (sx p hp) (sy q hq) S]
 simp_all []
theorem qCx (ha : RowA S a xs) (hb : RowA S b ys) (hl : xs.length <= 1000000) (sx : ∀ x ∈ xs, sm x) (sy : ∀ y ∈ ys, sm y) : F.multiplied [.ref a, .ref b] S = ok (.ref S.length) (S ++ [.lst ((jDk (· * ·) xs ys).map ratD)]) := by
 refine W_eq ?_
 (unfold F.multiplied; refine Np.W_fnF rfl ?_; unfold Den.multiplied; simp_all [])
 rw [qF6 ha hb hl fun p hp q hq => times_eq (sx p hp) (sy q hq) S]
 simp_all []
noncomputable def on1 (g : Rat -> D) (d : D) : D := match asRat d with
 | some a => g a
 | none => .non
theorem on1_eq (g : Rat -> D) (p : Rat) : on1 g (ratD p) = g p := by unfold on1; rw [qDe]
theorem map_on1 (g : Rat -> D) (xs : List Rat) : (xs.map ratD).map (on1 g) = xs.map g := by
 rw [jCh]
 exact List.map_congr_left fun x _ => on1_eq g x
theorem qF7 (hit : it base S = ok (.one a) S) (ha : RowA S a xs) (hl : xs.length <= 1000000) (he : ∀ x ∈ xs, e (base ++ [some (ratD x)]) S = ok (g x) S) :
  qAj it 1 (setG base.length) e base S = ok (.ref S.length) (S ++ [.lst (xs.map g)]) := by
 rw [qCd _ (qBh base) hit (Has.one ha) (by rw [qAk ha, jBd]; exact hl) (fun _ _ => trivial) (f := on1 g) fun x hx => by
  obtain ⟨q, hq, rfl⟩ := jCe.mp hx
  rw [on1_eq]
  exact he q hq]
 rw [map_on1]
theorem scaled_eq (ha : RowA S a xs) (hl : xs.length <= 1000000) (sx : ∀ x ∈ xs, sm x) (sq : sm q) : F.scaled [.ref a, ratD q] S = ok (.ref S.length) (S ++ [.lst ((xs.map (· * q)).map ratD)]) := by
 refine W_eq ?_
 (unfold F.scaled; refine Np.W_fnF rfl ?_; unfold Den.scaled; simp_all [])
 have := qF7 (it := itE itL (vr 0)) (e := fnE F.times (yF (vr 2) (yF (vr 1) aNil))) (base := [some (.ref a), some (ratD q)]) (g := fun x => ratD (x * q)) (by
  simp only [itE, vr, jCu, bnd_ok]
  exact qAn ha) ha hl fun x hx => times_eq (sx x hx) sq S
 rw [show ([some (D.ref a), some (ratD q)] : DS).length = 2 from rfl] at this
 rw [this]
 simp_all []
 rw [jCh]
 exact ⟨trivial, rfl⟩
theorem qGd (p : α -> Bool) : ∀ xs : List α, allB (xs.map fun x => D.bl (p x)) = some (xs.all p)
 | [] => rfl
 | x :: xs => by
  rw [jBb, List.all_cons]
  show (match allB (xs.map fun x => D.bl (p x)) with | some c => some (p x && c) | none => none) = _
  rw [qGd p xs]
theorem qC4 (h : zH S a = some xs) (hb : allB xs = some b) : allD [.ref a] S = ok (.bl b) S := by
 show (match zH S a with | some xs => (match allB xs with | some b => ok (D.bl b) S | none => none) | none => none) = _
 rw [h]
 show (match allB xs with | some b => ok (D.bl b) S | none => none) = _
 rw [hb]
theorem qEn (ha : RowA S a xs) (hl : xs.length <= 1000000) : ∃ o, F.is_still [.ref a] S = ok (.bl (xs.all fun x => decide (x = 0))) (S ++ [o]) := by
 refine ⟨.lst (xs.map fun x => .bl (decide (x = 0))), W_eq ?_⟩
 (unfold F.is_still; refine Np.W_fnF rfl ?_; unfold Den.is_still; simp_all [])
 have := qF7 (it := itE itL (vr 0)) (e := op2 eqD (vr 1) (cst (ratD 0))) (base := [some (.ref a)]) (g := fun x => .bl (decide (x = 0))) (by
  simp only [itE, vr, jCu, bnd_ok]
  exact qAn ha) ha hl fun x hx => eqD_rat x 0 S
 rw [show ([some (D.ref a)] : DS).length = 1 from rfl] at this
 rw [this]
 simp_all [qC4 (qAb S _) (qGd _ xs)]
theorem qD1 (i : Int) (S : Sto) : F.k02_whole [.int i] S = ok (.bl true) S := by
 refine W_eq ?_
 (unfold F.k02_whole; refine Np.W_fnF rfl ?_; unfold Den.k02_whole; simp_all [])
theorem gcd_abs1 (a b : Int) : jDg (if a < 0 then -a else a) b = jDg a b := by
 split
 ·unfold jDg; rw [Int.natAbs_neg]
 ·rfl
theorem gcd_num_den (r : Rat) : jDg r.num (r.den : Int) = 1 := r.reduced
theorem eight (i : Int) (h0 : 0 <= i) (h8 : i < 8) (h : zH S a = some [.int 1, .int 1, .int 1, .int 2, .int 3, .int 4, .int 6, .int 12]) : ∃ c : Int, 1 <= c /\ c <= 12 /\ ixD (.ref a) (.int i) S = ok (.int c) S := by
 have : i = 0 \/ i = 1 \/ i = 2 \/ i = 3 \/ i = 4 \/ i = 5 \/ i = 6 \/ i = 7 := by omega
 rcases this with rfl | rfl | rfl | rfl | rfl | rfl | rfl | rfl
 ·exact ⟨1, by decide, by decide, qAg (i := 0) h rfl⟩
 ·exact ⟨1, by decide, by decide, qAg (i := 1) h rfl⟩
 ·exact ⟨1, by decide, by decide, qAg (i := 2) h rfl⟩
 ·exact ⟨2, by decide, by decide, qAg (i := 3) h rfl⟩
 ·exact ⟨3, by decide, by decide, qAg (i := 4) h rfl⟩
 ·exact ⟨4, by decide, by decide, qAg (i := 5) h rfl⟩
 ·exact ⟨6, by decide, by decide, qAg (i := 6) h rfl⟩
 ·exact ⟨12, by decide, by decide, qAg (i := 7) h rfl⟩
theorem qAz (h : ds.length <= 1000) (S : Sto) : lstD ds S = ok (.ref S.length) (S ++ [.lst ds]) := by
 unfold lstD; rw [if_pos h]; rfl
theorem Le.divInt' (hb : 0 < b) (h1 : a.natAbs < 2 ^ n) (h2 : b.natAbs < 2 ^ n) : Le n (jCz a b) := Le.divInt (by omega) h1 h2
theorem qBl (a : Int) (hb : 0 < b) : 0 <= a.fmod b /\ a.fmod b < b := by
 rw [jDh a (by omega)]
 exact ⟨Int.emod_nonneg _ (by omega), Int.emod_lt_of_pos _ hb⟩
def Scr (ns : List Int) : Prop := ns.length <= 63 /\ ∀ z ∈ ns, z.natAbs.log2 < 1048577
theorem qAx {m : R D} {S : Sto} {xs : List D} {Q : D -> Sto -> Prop} (h : m = ok (.ref S.length) (S ++ [.lst xs])) (k : ∀ S' b, SLe S S' -> S.length <= b -> zH S' b = some xs -> Q (.ref b) S') : W m Q :=
 W.intro h (k _ _ (SLe.app _) (jAx _) (qAb S xs))
theorem W_app (h : zH S b = some xs) (hl : xs.length < 1000000) (k : ∀ S', S'.length = S.length -> (∀ S0, SLe S0 S -> S0.length <= b -> SLe S0 S') -> (∀ c, c ≠ b -> zH S' c = zH S c) -> zH S' b = some (xs ++ [d]) -> Q .non S') : W (appD (.ref b) d S) Q := by
 refine W.intro (qGc d h hl) (k _ (by simp) (fun S0 l hb => l.set hb _) (fun c hc => qDk (Ne.symm hc)) (qBj h))
theorem slD_ref (h : zH S a = some xs) (lo hi : Option Int) : slD (.ref a) lo hi S = ok (.ref S.length) (S ++ [.lst (cutD xs lo hi)]) := by
 show (match zH S a with | some xs => newO (.lst (cutD xs lo hi)) S | none => none) = _
 rw [h]; rfl
theorem mulD_rep {S : Sto} {a : Nat} {d : D} {k : Nat} (h : zH S a = some [d]) (hk : k <= 1000000) : mulD (.ref a) (.int (k : Int)) S = ok (.ref S.length) (S ++ [.lst (jBm k d)]) := by
 show repD (zH S a) k S = _
 rw [h]
 unfold repD
 simp only []
 rw [if_pos (by simp; omega)]
 have : (jBm k [d]).flatten = jBm k d := by simp
 rw [jCt, this]
 rfl
theorem rep_rat (k : Nat) (q : Rat) : jBm k (ratD q) = (jBm k q).map ratD := by simp
theorem RowA.rep (h : zH S a = some (jBm k (ratD q))) : RowA S a (jBm k q) := by
 show zH S a = _
 rw [h, rep_rat]
theorem qB0 (h : zH S a = some xs) (hi : xs[0]? = some d) : ixD (.ref a) (.int 0) S = ok d S := qAg (i := 0) h hi
theorem qA8 (h : zH S a = some xs) (hi : xs[1]? = some d) : ixD (.ref a) (.int 1) S = ok d S := qAg (i := 1) h hi
def TabR (S : Sto) (a : Nat) (as : List Nat) (T : List (List Rat)) : Prop := zH S a = some (as.map D.ref) /\ as.length = T.length /\ ∀ (i b : Nat) r, as[i]? = some b -> T[i]? = some r -> RowA S b r
theorem TabR.le {S S' : Sto} {a : Nat} {as : List Nat} {T : List (List Rat)} (h : TabR S a as T) (l : SLe S S') : TabR S' a as T := ⟨l.lst h.1, h.2.1, fun i b r h1 h2 => l.lst (h.2.2 i b r h1 h2)⟩
theorem one_src (h : zH S a = some xs) (hl : xs.length <= 1000000) : xs.length <= (Src.one a).len S /\ (Src.one a).len S <= 1000000 /\ SLe S S /\ ∀ i S'', SLe S S'' -> (Src.one a).get S'' i = some xs[i]? := by
 rw [qAk h]
 exact ⟨jAx _, hl, SLe.rfl, fun i S'' l => qBs (l.lst h) i⟩
theorem comp_to (vals : D -> List (Option D)) (hg : Tg g k vals base P) (hit : it base S = ok src S) (hs : Has src S xs) (hl : src.len S <= 1000000) (hP : ∀ x ∈ xs, P x) (hz : zs.length = xs.length)
  (step : ∀ (i : Nat) x z, xs[i]? = some x -> zs[i]? = some z -> e (base ++ vals x) S = ok z S) : qAj it k g e base S = ok (.ref S.length) (S ++ [.lst zs]) := by
 refine W_eq ?_
 refine qCs vals xs (fun i acc S' => S' = S /\ acc = zs.take i) P hP hg ?_ ?_ ?_
 ·rw [hit, W_ok]
  exact ⟨hs.1, hl, ⟨rfl, rfl⟩, fun i acc S' ⟨h, _⟩ => by rw [h]; exact hs.2 i⟩
 ·rintro i x acc S' hx ha ⟨rfl, he⟩
  have hi : i < zs.length := by rw [hz]; exact (jAr.mp hx).1
  have hzi : zs[i]? = some zs[i] := by simp [hi]
  rw [step i x _ hx hzi, W_ok]
  refine ⟨rfl, ?_⟩
  rw [he, jDo, hzi]
  rfl
 ·rintro acc S' ⟨rfl, he⟩ _
  rw [he, <- hz, jDp]
  exact ⟨rfl, rfl⟩
theorem it_rng1 (h : as base S = ok [.int (n : Int)] S) (hn : n < 1000000) : itA qC9 as base S = ok (.fix (qB2 0 n)) S := by
 unfold itA
 rw [h, bnd_ok, qCv hn S]
theorem comp_range {e : DE} {base : DS} {S : Sto} {as : DA} {n : Nat} {zs : List D} (has : as base S = ok [.int (n : Int)] S) (hn : n < 1000000) (hz : zs.length = n)
  (step : ∀ (i : Nat) z, zs[i]? = some z -> e (base ++ [some (.int i)]) S = ok z S) : qAj (itA qC9 as) 1 (setG base.length) e base S = ok (.ref S.length) (S ++ [.lst zs]) := by
 have hit := it_rng1 has hn
 rw [qBw] at hit
 refine comp_to _ (qBh base) hit (Has.fix _ _) (by show jBp _ <= _; simp; omega) (fun _ _ => trivial) (by simpa using hz) fun i x z hx hz => ?_
 have hi : i < n := by
  have := (jAr.mp hx).1
  simpa using this
 have ex : x = .int (i : Nat) := by simpa [hi] using hx.symm
 subst ex
 exact step i z hz
theorem qBk {α : Type} {xs : List α} {f : α -> D} {i : Nat} {z : D} (h : (xs.map f)[i]? = some z) : ∃ x, xs[i]? = some x /\ z = f x := by
 rw [jBu] at h
 cases q : xs[i]? with
 | none => rw [q] at h; cases h
 | some x => rw [q] at h; cases h; exact ⟨x, rfl, rfl⟩
theorem qB3 {α β γ : Type} {f : α -> β -> γ} {xs : List α} {ys : List β} {i : Nat} {z : γ} (h : (jDk f xs ys)[i]? = some z) : ∃ x y, xs[i]? = some x /\ ys[i]? = some y /\ z = f x y := by
 rw [jDl] at h
 cases q : xs[i]? with
 | none => rw [q] at h; simp at h
 | some x =>
  cases q2 : ys[i]? with
  | none => rw [q, q2] at h; simp at h
  | some y => rw [q, q2] at h; simp at h; exact ⟨x, y, rfl, rfl, h.symm⟩
theorem zK {α : Type} {xs : List α} {i : Nat} {x : α} (h : xs[i]? = some x) : x ∈ xs := jBv h
theorem RowA.to (h : zH S a = some (xs.map ratD)) (e : xs = ys) : RowA S a ys := e ▸ h
theorem zip_rep_r (h : ∀ x, f x q = x) : ∀ xs : List Rat, jDk f xs (jBm xs.length q) = xs
 | [] => rfl
 | x :: xs => by simp [jB3, h, zip_rep_r h xs]
theorem zip_rep_l (h : ∀ x, f q x = x) : ∀ xs : List Rat, jDk f (jBm xs.length q) xs = xs
 | [] => rfl
 | x :: xs => by simp [jB3, h, zip_rep_l h xs]
theorem sm_of {n : Nat} {xs : List Rat} (h : ∀ x ∈ xs, Le n x) (hn : n <= 40000000) : ∀ x ∈ xs, sm x := fun x hx => (h x hx).sm hn
def sumR (xs : List Rat) : Rat := xs.foldl (· + ·) 0
theorem sumR_take {xs : List Rat} {i : Nat} {x : Rat} (h : xs[i]? = some x) : sumR (xs.take (i + 1)) = sumR (xs.take i) + x := by
 unfold sumR
 rw [jDo, h, List.foldl_append]
 rfl
theorem Le.sumR : ∀ {xs : List Rat}, (∀ x ∈ xs, Le n x) -> Le (1 + (n + 1) * xs.length) (sumR xs) := by
 suffices h : ∀ (xs : List Rat) (m : Nat) (q : Rat), Le m q -> (∀ x ∈ xs, Le n x) -> Le (m + (n + 1) * xs.length) (xs.foldl (· + ·) q) from fun {xs} hx => h xs 1 0 (Le.zero (by decide)) hx
 intro xs
 induction xs with
 | nil => intro m q hq _; exact hq
 | cons x xs ih =>
  intro m q hq hx
  have := ih (m + n + 1) (q + x) (hq.add (hx x (.head _))) fun y hy => hx y (.tail _ hy)
  rw [jB7, jA7]
  refine this.mono ?_
  rw [jDt]
  omega
theorem le_zip (hf : ∀ a b, Le m a -> Le n b -> Le k (f a b)) (hx : ∀ x ∈ xs, Le m x) (hy : ∀ y ∈ ys, Le n y) : ∀ z ∈ jDk f xs ys, Le k z := fun z hz => by
 obtain ⟨i, hi, rfl⟩ := jDq hz
 rw [jDr]
 exact hf _ _ (hx _ (jDs _)) (hy _ (jDs _))
theorem sum_loop {S : Sto} {p : Nat} {zs : List Rat} {n : Nat} {δ0 : DS} {Q : Fl -> Sto -> Prop} (hp : RowA S p zs) (hz : ∀ z ∈ zs, Le n z) (hb : (n + 1) * zs.length + n + 1 <= 40000000)
  (a b c d o : Option D) (k : ∀ o', Q (.nx [a, b, c, d, some (ratD (sumR zs)), o']) S) : W (forK (setG 5) (asgS (fnE F.plus (yF (vr 4) (yF (vr 5) aNil))) (setG 4)) [a, b, c, d, some (ratD 0), o] (.one p) S) Q := by
 refine qDo (zs.map ratD) (fun i δ S' => S' = S /\ ∃ o', δ = [a, b, c, d, some (ratD (sumR (zs.take i))), o']) (by rw [qAk hp]; exact jAx _) ⟨rfl, o, rfl⟩ (fun i δ S' h => by rw [h.1]; exact qBs hp i) ?_ ?_
 ·rintro i x δ S' hx ⟨rfl, o', rfl⟩
  obtain ⟨z, hzi, rfl⟩ := qBk hx
  have hi : i < zs.length := (jAr.mp hzi).1
  have l1 : Le (1 + (n + 1) * (zs.take i).length) (sumR (zs.take i)) := Le.sumR fun x hx => hz x (jDu hx)
  have l2 : (n + 1) * (zs.take i).length <= (n + 1) * zs.length := jDv _ (by simp; omega)
  simp_all [plus_eq (l1.sm (by omega)) ((hz z (zK hzi)).sm (by omega))]
  exact ⟨rfl, _, by rw [sumR_take hzi]⟩
 ·rintro δ S' ⟨rfl, o', rfl⟩
  rw [jBd, jDp]
  exact k o'
theorem dotw_w {S : Sto} {a b c : Nat} {xs ys ws : List Rat} {m n k : Nat} (ha : RowA S a xs) (hb : RowA S b ys) (hc : RowA S c ws) (hx : ∀ x ∈ xs, Le m x) (hy : ∀ y ∈ ys, Le n y) (hw : ∀ y ∈ ws, Le k y) (hll : xs.length <= 1000000) (hl : (m + n + k + 1) * (xs.length + 1) <= 20000000) :
  W (F.dot [.ref a, .ref b, .ref c] S) fun d S' => SLe S S' /\ d = ratD (sumR (jDk (· * ·) (jDk (· * ·) xs ys) ws)) := by
 have h0 : xs.length + 1 <= (m + n + k + 1) * (xs.length + 1) := Nat.le_mul_of_pos_left _ (by omega)
 have h1 : (m + n + k + 1) <= (m + n + k + 1) * (xs.length + 1) := jDw _ (by omega)
 have hz := le_zip (f := (· * ·)) (k := m + n) (fun a b h1 h2 => h1.mul h2) hx hy
 have hz2 := le_zip (f := (· * ·)) (k := m + n + k) (fun a b h1 h2 => h1.mul h2) hz hw
 (unfold F.dot; refine Np.W_fnF rfl ?_; unfold Den.dot; simp_all [])
 refine qAx (qCx ha hb (by omega) (sm_of hx (by omega)) (sm_of hy (by omega))) fun S1 p l1 _ r1 => ?_
 refine qAx (qCx r1 (l1.lst hc) (by simp; omega) (sm_of hz (by omega)) (sm_of hw (by omega))) fun S2 p2 l2 _ r2 => ?_
 simp_all [qAn r2]
 refine sum_loop (n := m + n + k) (δ0 := []) r2 hz2 ?_ _ _ _ _ _ fun o' => ?_
 ·have : (m + n + k + 1) * (jDk (· * ·) (jDk (· * ·) xs ys) ws).length <= (m + n + k + 1) * (xs.length + 1) := jDv _ (by simp; omega)
  omega
 ·simp_all []
  exact ⟨l1.trans l2, trivial⟩
theorem sumR_cons (x : Rat) (xs : List Rat) : sumR (x :: xs) = x + sumR xs := by
 have h : ∀ (xs : List Rat) (q : Rat), xs.foldl (· + ·) q = q + xs.foldl (· + ·) 0 := by
  intro xs
  induction xs with
  | nil => intro q; simp [jDx]
  | cons y ys ih =>
   intro q
   rw [jB7, jB7, ih, ih (0 + y)]
   grind
 unfold sumR
 rw [jB7, h]
 grind
abbrev addR (xs ys : List Rat) : List Rat := jDk (· + ·) xs ys
abbrev subR (xs ys : List Rat) : List Rat := jDk (· - ·) xs ys
abbrev sclR (xs : List Rat) (q : Rat) : List Rat := xs.map (· * q)
def mixR : List (List Rat) -> List Rat -> Nat -> List Rat
 | r :: T, s :: ss, n => addR (sclR r s) (mixR T ss n)
 | _, _, n => jBm n 0
def Wide (T : List (List Rat)) (n : Nat) : Prop := ∀ r ∈ T, r.length = n
theorem Wide.tl {r : List Rat} {T : List (List Rat)} {n : Nat} (h : Wide (r :: T) n) : Wide T n := fun x hx => h x (.tail _ hx)
theorem qA1 : ∀ {T : List (List Rat)} {ss : List Rat} {n : Nat}, Wide T n -> (mixR T ss n).length = n
 | [], _, n, _ => by simp [mixR]
 | _ :: _, [], n, _ => by simp [mixR]
 | r :: T, s :: ss, n, h => by
  simp only [mixR, jDm, jBd]
  rw [qA1 h.tl, h r (.head _)]
  omega
theorem addR_zero_l : ∀ xs : List Rat, addR (jBm xs.length 0) xs = xs := zip_rep_l Rat.zero_add
theorem addR_zero_r : ∀ xs : List Rat, addR xs (jBm xs.length 0) = xs := zip_rep_r jDx
theorem qFe : ∀ xs ys zs : List Rat, addR (addR xs ys) zs = addR xs (addR ys zs)
 | [], _, _ => by simp [addR]
 | _ :: _, [], _ => by simp [addR]
 | _ :: _, _ :: _, [] => by simp [addR]
 | x :: xs, y :: ys, z :: zs => by
  have := qFe xs ys zs
  simp only [addR, jDy] at this ⊢
  rw [this, Rat.add_assoc]
theorem mixR_snoc : ∀ {T : List (List Rat)} {ss : List Rat} {r : List Rat} {s : Rat} {n : Nat}, Wide T n -> r.length = n -> T.length = ss.length -> mixR (T ++ [r]) (ss ++ [s]) n = addR (mixR T ss n) (sclR r s)
 | [], [], r, s, n, _, hr, _ => by
  have h : (sclR r s).length = n := by simp [hr]
  simp only [jCa, mixR]
  rw [<- h, addR_zero_l, addR_zero_r]
 | t :: T, u :: ss, r, s, n, h, hr, hl => by
  simp only [jDe, mixR]
  rw [mixR_snoc h.tl hr (by simpa using hl), qFe]
 | [], _ :: _, _, _, _, _, _, hl => by simp at hl
 | _ :: _, [], _, _, _, _, _, hl => by simp at hl
theorem mixR_take {T : List (List Rat)} {ss : List Rat} {n i : Nat} {r : List Rat} {s : Rat} (h : Wide T n) (hr : T[i]? = some r) (hs : ss[i]? = some s) : mixR (T.take (i + 1)) (ss.take (i + 1)) n = addR (mixR (T.take i) (ss.take i) n) (sclR r s) := by
 have h1 := (jAr.mp hr).1
 have h2 := (jAr.mp hs).1
 rw [jDo, jDo, hr, hs]
 exact mixR_snoc (fun x hx => h x (jDu hx)) (h r (zK hr)) (by simp; omega)
theorem mixR_get : ∀ {T : List (List Rat)} {ss : List Rat} {n k : Nat}, Wide T n -> k < n -> T.length = ss.length -> (mixR T ss n)[k]? = some (sumR (jDk (fun r s => r.getD k 0 * s) T ss))
 | [], [], n, k, _, hk, _ => by simp [mixR, hk, sumR]
 | r :: T, s :: ss, n, k, h, hk, hl => by
  have ih := mixR_get (ss := ss) h.tl hk (by simpa using hl)
  have hr : r[k]? = some (r.getD k 0) := by
   have : k < r.length := by rw [h r (.head _)]; exact hk
   simp [this]
  simp only [mixR, jDy, sumR_cons, jDl, ih, jBu, hr, Option.map_some]
 | [], _ :: _, _, _, _, _, hl => by simp at hl
 | _ :: _, [], _, _, _, _, hl => by simp at hl
theorem zQ {α : Type} {xs : List α} {i : Nat} (h : i < xs.length) : ∃ x, xs[i]? = some x := ⟨xs[i], by simp [h]⟩
theorem getD_mem {r : List Rat} {k : Nat} (h : k < r.length) : r.getD k 0 ∈ r := by simp [h]
def LeT (n : Nat) (T : List (List Rat)) : Prop := ∀ r ∈ T, ∀ x ∈ r, Le n x
theorem le_mix (hk : 0 < k) : ∀ {T : List (List Rat)} {ss : List Rat}, LeT m T -> (∀ s ∈ ss, Le n s) -> ∀ z ∈ mixR T ss k, Le (1 + (m + n + 1) * T.length) z := by
 intro T
 induction T with
 | nil =>
  intro ss _ _ z hz
  simp only [mixR, jDz] at hz
  rw [hz.2]
  exact Le.zero (by omega)
 | cons r T ih =>
  intro ss hT hs z hz
  cases ss with
  | nil =>
   simp only [mixR, jDz] at hz
   rw [hz.2]
   exact Le.zero (by omega)
  | cons s ss =>
   have h1 := ih (fun x hx => hT x (.tail _ hx)) (fun x hx => hs x (.tail _ hx))
   have h2 : ∀ x ∈ sclR r s, Le (m + n) x := fun x hx => by
    obtain ⟨y, hy, rfl⟩ := jCe.mp hx
    exact (hT r (.head _) y hy).mul (hs s (.head _))
   refine (le_zip (f := (· + ·)) (k := (m + n) + (1 + (m + n + 1) * T.length) + 1) (fun a b h1 h2 => h1.add h2) h2 h1 z hz).mono ?_
   rw [jA7, jDt]
   omega
theorem TabR.row {S : Sto} {a : Nat} {as : List Nat} {T : List (List Rat)} {i : Nat} {r : List Rat} (h : TabR S a as T) (hi : T[i]? = some r) : ∃ b, as[i]? = some b /\ RowA S b r := by
 have hl : i < as.length := by rw [h.2.1]; exact (jAr.mp hi).1
 exact ⟨as[i], by simp [hl], h.2.2 i _ r (by simp [hl]) hi⟩
theorem mixed_w {S : Sto} {a b n m k : Nat} {as : List Nat} {T : List (List Rat)} {ss : List Rat} (ha : TabR S a as T) (hb : RowA S b ss) (hw : Wide T k) (hl : T.length = ss.length) (hT : LeT m T) (hs : ∀ s ∈ ss, Le n s) (hk : k < 1000000) (hB : (m + n + 1) * (T.length + 1) <= 20000000) :
  W (F.mixed [.ref a, .ref b, .int k] S) fun d S' => ∃ c, d = .ref c /\ S.length <= c /\ SLe S S' /\ RowA S' c (mixR T ss k) := by
 have hB1 : (m + n + 1) <= (m + n + 1) * (T.length + 1) := jDw _ (by omega)
 (unfold F.mixed; refine Np.W_fnF rfl ?_; unfold Den.mixed; simp_all [])
 refine qAx (qAz (by simp) _) fun S1 a1 l1 n1 r1 => ?_
 refine qAx (mulD_rep r1 (by omega)) fun S2 a2 l2 n2 r2 => ?_
 replace r2 := RowA.rep r2
 have L := l1.trans l2
 simp_all [qCt (L.lst ha.1) (L.lst hb)]
 refine qDo (qAy (as.map D.ref) (ss.map ratD)) (fun i δ S' => SLe S S' /\ ∃ c o1 o2, δ = [some (.ref a), some (.ref b), some (.int k), some (.ref c), o1, o2] /\ S.length <= c /\ RowA S' c (mixR (T.take i) (ss.take i) k)) ?_ ⟨L, a2, _, _, rfl, by have := l1.len; omega, RowA.to r2 (by simp [mixR])⟩ (fun i δ S' h => qFz (h.1.lst ha.1) (h.1.lst hb) i) ?_ ?_
 ·rw [qCr (L.lst ha.1)]
  simp [qAy]
  omega
 ·rintro i x δ S' hx ⟨L', c, o1, o2, rfl, hc, rc⟩
  obtain ⟨x1, x2, h1, h2, rfl⟩ := qB3 hx
  obtain ⟨b1, hb1, rfl⟩ := qBk h1
  obtain ⟨s, hs1, rfl⟩ := qBk h2
  have hi : i < T.length := by rw [<- ha.2.1]; exact (jAr.mp hb1).1
  have hTi : T[i]? = some T[i] := by simp [hi]
  have rb := ha.2.2 i b1 _ hb1 hTi
  have hrow := hw _ (zK hTi)
  have ms := hs s (zK hs1)
  have lr : ∀ x ∈ T[i], Le m x := hT _ (zK hTi)
  have lsc : ∀ x ∈ sclR T[i] s, Le (m + n) x := fun x hx => by
   obtain ⟨y, hy, rfl⟩ := jCe.mp hx
   exact (lr y hy).mul ms
  have lmx : ∀ z ∈ mixR (T.take i) (ss.take i) k, sm z := fun z hz => by
   have hk0 : 0 < k := by
    rcases jC2 k with h | h
    ·subst h
     have := qA1 (ss := ss.take i) (fun x hx => hw x (jDu hx) : Wide (T.take i) 0)
     rw [jD0] at this
     rw [this] at hz
     cases hz
    ·exact h
   refine (le_mix hk0 (fun r hr => hT r (jDu hr)) (fun x hx => hs x (jDu hx)) z hz).sm ?_
   have : (m + n + 1) * (T.take i).length <= (m + n + 1) * (T.length + 1) := jDv _ (by simp; omega)
   omega
  simp_all [tupG, jA7, jCq]
  refine qAx (scaled_eq (L'.lst rb) (by omega) (sm_of lr (by omega)) (ms.sm (by omega))) fun S3 a3 l3 n3 r3 => ?_
  refine qAx (added_eq (l3.lst rc) r3 (by rw [qA1 fun x hx => hw x (jDu hx)]; omega) lmx (sm_of lsc (by omega))) fun S4 a4 l4 n4 r4 => ?_
  refine ⟨L'.trans (l3.trans l4), a4, _, _, rfl, by have := L'.len; have := l3.len; omega, ?_⟩
  exact RowA.to r4 (mixR_take hw hTi hs1).symm
 ·rintro δ S' ⟨L', c, o1, o2, rfl, hc, rc⟩
  simp_all []
  refine ⟨c, rfl, hc, L', RowA.to rc ?_⟩
  rw [jD1 (by simp [qAy, ha.2.1]; omega), jD1 (by simp [qAy, ha.2.1]; omega)]
structure FT (n : Nat) (S : Sto) (c : Nat) (cs : List Nat) (U : List (List Rat)) : Prop where
 tab : TabR S c cs U
 lo : ∀ b ∈ cs, n <= b
 inc : cs.Nodup
 ne : ∀ b ∈ cs, b ≠ c
 nc : n <= c
theorem qF0 (h : (xs ++ [x])[i]? = some y) : (i < xs.length /\ xs[i]? = some y) \/ (i = xs.length /\ y = x) := by
 by_cases hi : i < xs.length
 ·rw [jBt hi] at h
  exact .inl ⟨hi, h⟩
 ·rw [jBr (by omega)] at h
  have := (jAr.mp h).1
  have e : i = xs.length := by simp at this; omega
  subst e
  simp at h
  exact .inr ⟨rfl, h.symm⟩
theorem W_compT (vals : D -> List (Option D)) (xs : List D) (U : List (List Rat)) (P : D -> Prop) (hg : Tg g k vals base P) (hP : ∀ x ∈ xs, P x) (hU : U.length = xs.length)
  (hit : W (it base S) fun src S' => xs.length <= src.len S' /\ src.len S' <= 1000000 /\ SLe S S' /\ ∀ i S'', SLe S' S'' -> src.get S'' i = some xs[i]?)
  (step : ∀ (i : Nat) x r S', xs[i]? = some x -> U[i]? = some r -> SLe S S' -> W (e (base ++ vals x) S') fun d S'' => ∃ c, d = .ref c /\ S'.length <= c /\ SLe S' S'' /\ RowA S'' c r)
  (fin : ∀ S' c cs, SLe S S' -> FT S.length S' c cs U -> Q (.ref c) S') : W (qAj it k g e base S) Q := by
 obtain ⟨src, S0, e0, h1, h2, h3, h4⟩ := hit.out
 refine qCs vals xs (fun i acc S' => SLe S0 S' /\ ∃ cs : List Nat, acc = cs.map D.ref /\ cs.length = i /\ (∀ (j b : Nat) r, cs[j]? = some b -> U[j]? = some r -> RowA S' b r) /\ (∀ b ∈ cs, S.length <= b) /\ cs.Pairwise (· < ·) /\ ∀ b ∈ cs, b < S'.length) P hP hg ?_ ?_ ?_
 ·rw [e0, W_ok]
  exact ⟨h1, h2, ⟨SLe.rfl, [], rfl, rfl, fun j b r h => (by simp at h), fun _ h => (by cases h), .nil, fun _ h => (by cases h)⟩, fun i acc S'' h => h4 i S'' h.1⟩
 ·rintro i x acc S' hx ha ⟨hS, cs, rfl, hl, hr, hlo, hinc, htop⟩
  have hi : i < U.length := by rw [hU]; exact (jAr.mp hx).1
  obtain ⟨r, hri⟩ := zQ hi
  refine (step i x r S' hx hri (h3.trans hS)).mono ?_
  rintro d S'' ⟨c, rfl, hc, hS', hrow⟩
  refine ⟨hS.trans hS', cs ++ [c], by simp, by simp [hl], fun j b r' hb hr' => ?_, fun b hb => ?_, ?_, fun b hb => ?_⟩
  ·rcases qF0 hb with ⟨_, h⟩ | ⟨rfl, rfl⟩
   ·exact hS'.lst (hr j b r' h hr')
   ·rw [hl] at hr'
    rw [hri] at hr'
    cases hr'
    exact hrow
  ·rcases jAp.mp hb with h | h
   ·exact hlo b h
   ·rw [jCr.mp h]
    have := (h3.trans hS).len
    omega
  ·rw [List.pairwise_append]
   refine ⟨hinc, List.pairwise_singleton _ _, fun b hb b' hb' => ?_⟩
   rw [jCr.mp hb']
   exact jAd (htop b hb) hc
  ·rcases jAp.mp hb with h | h
   ·exact jAd (htop b h) hS'.len
   ·rw [jCr.mp h]
    exact qAd hrow
 ·rintro acc S' ⟨hS, cs, rfl, hl, hr, hlo, hinc, htop⟩ _
  refine fin _ _ cs ((h3.trans hS).push _) ⟨⟨qAb S' _, by rw [hl, hU], fun i b r h1 h2 => (SLe.app _).lst (hr i b r h1 h2)⟩, hlo, hinc.imp fun h => jAf h, fun b hb => jAf (htop b hb), (h3.trans hS).len⟩
theorem TabR.take {S : Sto} {a b k : Nat} {as : List Nat} {T : List (List Rat)} (h : TabR S a as T) (hb : zH S b = some ((as.take k).map D.ref)) : TabR S b (as.take k) (T.take k) := ⟨hb, by simp [h.2.1], fun i c r h1 h2 => by
 rw [jD2] at h1 h2
 split at h1
 ·rename_i hi
  rw [if_pos hi] at h2
  exact h.2.2 i c r h1 h2
 ·cases h1⟩
theorem FT.keep (h : FT n S c cs U) (k : ∀ a, a = c \/ a ∈ cs -> zH S' a = zH S a) : FT n S' c cs U :=
 ⟨⟨by rw [k c (.inl rfl)]; exact h.tab.1, h.tab.2.1, fun i b r h1 h2 => by
  show zH S' b = _
  rw [k b (.inr (zK h1))]
  exact h.tab.2.2 i b r h1 h2⟩, h.lo, h.inc, h.ne, h.nc⟩
theorem FT.le (h : FT n S c cs U) (l : SLe S S') : FT n S' c cs U := ⟨h.tab.le l, h.lo, h.inc, h.ne, h.nc⟩
theorem FT.lt (h : FT n S c cs U) : ∀ b ∈ cs, b < S.length := fun b hb => by
 obtain ⟨i, hi⟩ := jD3 hb
 obtain ⟨r, hr⟩ := zQ (show i < U.length by rw [<- h.tab.2.1]; exact (jAr.mp hi).1)
 exact qAd (h.tab.2.2 i b r hi hr)
def colR (T : List (List Rat)) (p : Nat) : List Rat := T.map fun r => r.getD p 0
def qAs (T : List (List Rat)) (n : Nat) : List (List Rat) := (jAg n).map (colR T)
def qB7 (n p : Nat) : List Rat := (jAg n).map fun i => if i = p then 1 else 0
theorem range_get (h : (jAg n)[i]? = some j) : j = i /\ i < n := by
 have hi : i < n := by
  have := (jAr.mp h).1
  simpa using this
 exact ⟨by simpa [hi] using h.symm, hi⟩
theorem qAu (h : ((jAg n).map f)[i]? = some x) : x = f i /\ i < n := by
 rw [jBu] at h
 cases q : (jAg n)[i]? with
 | none => rw [q] at h; cases h
 | some j =>
  rw [q] at h
  obtain ⟨rfl, hi⟩ := range_get q
  exact ⟨(Option.some.inj h).symm, hi⟩
theorem column_eq {S : Sto} {a p n : Nat} {as : List Nat} {T : List (List Rat)} (ha : TabR S a as T) (hw : Wide T n) (hp : p < n) (hl : T.length <= 1000000) : F.column_of [.ref a, .int (p : Int)] S = ok (.ref S.length) (S ++ [.lst ((colR T p).map ratD)]) := by
 refine W_eq ?_
 (unfold F.column_of; refine Np.W_fnF rfl ?_; unfold Den.column_of; simp_all [])
 have := comp_to (it := itE itL (vr 0)) (e := op2 ixD (vr 2) (vr 1)) (S := S) _ (qBh [some (.ref a), some (.int (p : Int))]) (src := .one a) (xs := as.map D.ref) (zs := (colR T p).map ratD) (by simp only [Np.itA, Np.itE, Np.yF, Np.aConsK, Np.aNil, Np.consK, Np.vr, Np.cst, jCu, jCg, Np.bnd_ok]; exact qAn ha.1) (Has.one ha.1) (by rw [qAk ha.1]; simp [ha.2.1]; exact hl) (fun _ _ => trivial) (by simp [colR, ha.2.1]) fun i x z hx hz => by
  obtain ⟨b, hb, rfl⟩ := qBk hx
  obtain ⟨q, hq, rfl⟩ := qBk hz
  unfold colR at hq
  rw [jBu] at hq
  cases h : T[i]? with
  | none => rw [h] at hq; cases hq
  | some r =>
   rw [h] at hq
   cases hq
   have hr : p < r.length := by rw [hw r (zK h)]; exact hp
   refine W_eq ?_
   simp_all [qAg (ha.2.2 i b r hb h) (show (r.map ratD)[p]? = some (ratD (r.getD p 0)) by simp [hr])]
 rw [show ([some (D.ref a), some (D.int (p : Int))] : DS).length = 2 from rfl] at this
 rw [this]
 simp_all []
theorem turned_w {S : Sto} {a n : Nat} {as : List Nat} {T : List (List Rat)} {Q : D -> Sto -> Prop} (ha : TabR S a as T) (hw : Wide T n) (hl : T.length <= 1000000) (hn : n < 1000000) (fin : ∀ S' c cs, SLe S S' -> FT S.length S' c cs (qAs T n) -> Q (.ref c) S') : W (F.turned [.ref a, .int (n : Int)] S) Q := by
 (unfold F.turned; refine Np.W_fnF rfl ?_; unfold Den.turned; simp_all [])
 refine W_compT (base := [_, _]) _ ((jAg n).map fun i => D.int (i : Nat)) (qAs T n) _ (qBh _) (fun _ _ => trivial) (by simp [qAs]) ?_ ?_ fin
 ·rw [it_rng1 (n := n) rfl hn, qBw, W_ok]
  exact ⟨jAx _, by show jBp _ <= _; simp; omega, SLe.rfl, fun i S'' _ => rfl⟩
 ·intro i x r S' hx hr hS
  obtain ⟨rfl, hi⟩ := qAu hx
  obtain ⟨rfl, _⟩ := qAu hr
  simp_all []
  exact qAx (column_eq (ha.le hS) hw hi hl) fun S'' c l n r' => ⟨c, rfl, n, l, r'⟩
theorem unit_row_eq {S : Sto} {n p : Nat} (hn : n < 1000000) : F.unit_row [.int (n : Int), .int (p : Int)] S = ok (.ref S.length) (S ++ [.lst ((qB7 n p).map ratD)]) := by
 refine W_eq ?_
 (unfold F.unit_row; refine Np.W_fnF rfl ?_; unfold Den.unit_row; simp_all [])
 have := comp_range (as := yF (vr 0) aNil) (S := S) (base := [some (.int (n : Int)), some (.int (p : Int))]) (e := ifE (tv (op2 eqD (vr 2) (vr 1))) (cst (ratD 1)) (cst (ratD 0))) (n := n) (zs := (qB7 n p).map ratD) rfl hn (by simp [qB7]) fun i z hz => by
  obtain ⟨q, hq, rfl⟩ := qBk hz
  obtain ⟨rfl, hi⟩ := qAu hq
  refine W_eq ?_
  by_cases h : i = p
  ·subst h
   simp_all []
  ·have h' : ¬ ((i : Int) = (p : Int)) := by omega
   simp_all [h', h]
 rw [show ([some (D.int (n : Int)), some (D.int (p : Int))] : DS).length = 2 from rfl] at this
 rw [this]
 simp_all []
theorem setXA_ref (v : D) (δ : DS) (h : zH S a = some xs) (hi : i < xs.length) : setXA v δ (.ref a) (.int (i : Int)) S = ok δ (S.set a (.lst (xs.set i v))) := by
 show (match zH S a with | some xs => _ | none => none) = _
 rw [h]
 simp only [qFv hi]
theorem W_setX (h : zH S b = some xs) (hi : i < xs.length) (k : ∀ S', S'.length = S.length -> (∀ S0, SLe S0 S -> S0.length <= b -> SLe S0 S') -> (∀ c, c ≠ b -> zH S' c = zH S c) -> zH S' b = some (xs.set i v) -> Q δ S') : W (setXA v δ (.ref b) (.int (i : Int)) S) Q := by
 refine W.intro (setXA_ref v δ h hi) (k _ (by simp) (fun S0 l hb => l.set hb _) (fun c hc => qDk (Ne.symm hc)) (qBj h))
theorem FT.rows (h : FT n S c cs U) (hU : ∀ r ∈ U, r.length <= m) : ∀ x ∈ cs, ∃ xs, zH S x = some xs /\ xs.length <= m := fun x hx => by
 obtain ⟨i, hi⟩ := jD3 hx
 obtain ⟨r, hr⟩ := zQ (show i < U.length by rw [<- h.tab.2.1]; exact (jAr.mp hi).1)
 exact ⟨r.map ratD, h.tab.2.2 i x r hi hr, by simp; exact hU r (zK hr)⟩
inductive Deed where
 | swap (i j : Nat) | scale (i : Nat) (q : Rat) | add (i j : Nat) (q : Rat)
def Deed.d : Deed -> D
 | .swap i j => .tup [.str "swap", .int (i : Int), .int (j : Int)]
 | .scale i q => .tup [.str "scale", .int (i : Int), ratD q]
 | .add i j q => .tup [.str "add", .int (i : Int), .int (j : Int), ratD q]
def zR (T : List (List Rat)) (i : Nat) : List Rat := T.getD i []
theorem tix (ds : List D) (i : Nat) (d : D) (h : ds[i]? = some d) (S : Sto) : ixD (.tup ds) (.int (i : Int)) S = ok d S := by
 have hl : i < ds.length := (jAr.mp h).1
 show ixK (some ds) i S = _
 unfold ixK
 simp only [qFv hl, jDd, h]
theorem tix0 (a : D) (r : List D) (S : Sto) : ixD (.tup (a :: r)) (.int 0) S = ok a S := tix (a :: r) 0 a rfl S
theorem tix1 (a b : D) (r : List D) (S : Sto) : ixD (.tup (a :: b :: r)) (.int 1) S = ok b S := tix (a :: b :: r) 1 b rfl S
theorem tix2 (a b c : D) (r : List D) (S : Sto) : ixD (.tup (a :: b :: c :: r)) (.int 2) S = ok c S := tix (a :: b :: c :: r) 2 c rfl S
theorem qB9 (q : Rat) (S : Sto) : F.is_ratio [ratD q] S = ok (.bl true) S := by
 refine W_eq ?_
 have h1 : (1 : Int) <= q.den := by have := qB4 q; omega
 have h2 : jDg (if q.num < 0 then -q.num else q.num) (q.den : Int) = 1 := by rw [gcd_abs1]; exact gcd_num_den q
 (unfold F.is_ratio; refine Np.W_fnF rfl ?_; unfold Den.is_ratio; simp_all [])
 simp_all [qD1, h1, qBo (qCl q.num) (show (0 : Int) <= q.den by omega), h2]
 exact ⟨rfl, trivial⟩
def Deed.le (n : Nat) : Deed -> Prop
 | .swap _ _ => True
 | .scale _ q => Le n q
 | .add _ _ q => Le n q
theorem yB {T : List (List Rat)} {i : Nat} {r : List Rat} (h : T[i]? = some r) : zR T i = r := by simp [zR, h]
theorem qD6 {α : Type} {xs : List α} {i k : Nat} {x y : α} (h : (xs.set i x)[k]? = some y) : (k = i /\ y = x) \/ (k ≠ i /\ xs[k]? = some y) := by
 by_cases e : i = k
 ·subst e
  rw [List.getElem?_set] at h
  split at h
  ·split at h
   ·exact .inl ⟨rfl, (Option.some.inj h).symm⟩
   ·cases h
  ·exact absurd rfl (by assumption)
 ·rw [jAt e] at h
  exact .inr ⟨fun z => e z.symm, h⟩
theorem TabR.set {S S' : Sto} {c i b : Nat} {cs : List Nat} {U : List (List Rat)} {r : List Rat} (hl : cs.length = U.length) (hr : ∀ (k x : Nat) u, cs[k]? = some x -> U[k]? = some u -> RowA S x u) (hb : RowA S b r) : ∀ (k x : Nat) u, (cs.set i b)[k]? = some x -> (U.set i r)[k]? = some u -> RowA S x u := by
 intro k x u h1 h2
 rcases qD6 h1 with ⟨rfl, rfl⟩ | ⟨hk, h1⟩
 ·rcases qD6 h2 with ⟨_, rfl⟩ | ⟨hk, _⟩
  ·exact hb
  ·exact absurd rfl hk
 ·rcases qD6 h2 with ⟨rfl, _⟩ | ⟨_, h2⟩
  ·exact absurd rfl hk
  ·exact hr k x u h1 h2
theorem qEg (cs : List Nat) (i b : Nat) : (cs.map D.ref).set i (.ref b) = (cs.set i b).map D.ref := by rw [List.map_set]
theorem qDq {α : Type} {xs : List α} {i j k : Nat} {a b y : α} (hi : xs[i]? = some a) (hj : xs[j]? = some b) (h : ((xs.set i b).set j a)[k]? = some y) : (k = j /\ y = a) \/ (k ≠ j /\ k = i /\ y = b) \/ (k ≠ j /\ k ≠ i /\ xs[k]? = some y) := by
 rcases qD6 h with ⟨rfl, rfl⟩ | ⟨hk, h⟩
 ·exact .inl ⟨rfl, rfl⟩
 ·rcases qD6 h with ⟨rfl, rfl⟩ | ⟨hk2, h⟩
  ·exact .inr (.inl ⟨hk, rfl, rfl⟩)
  ·exact .inr (.inr ⟨hk, hk2, h⟩)
theorem nodup_swap {xs : List Nat} {i j a b : Nat} (h : xs.Nodup) (hi : xs[i]? = some a) (hj : xs[j]? = some b) : ((xs.set i b).set j a).Nodup := by
 show List.Pairwise _ _
 rw [List.pairwise_iff_getElem]
 intro p q hp hq hpq
 have hql : q < xs.length := by simpa using hq
 have inj : ∀ {u v x : Nat}, xs[u]? = some x -> xs[v]? = some x -> u = v := by
  intro u v x hu hv
  have h1 := (jAr.mp hu)
  have h2 := (jAr.mp hv)
  exact (List.getElem_inj h).mp (h1.2.trans h2.2.symm)
 obtain ⟨x, hx⟩ := zQ (xs := (xs.set i b).set j a) (i := p) (by simp; omega)
 obtain ⟨y, hy⟩ := zQ (xs := (xs.set i b).set j a) (i := q) (by simp; omega)
 intro e
 have e : x = y := by
  have h1 := (jAr.mp hx).2
  have h2 := (jAr.mp hy).2
  rw [<- h1, <- h2]
  exact e
 subst e
 rcases qDq hi hj hx with ⟨e1, e2⟩ | ⟨p1, e1, e2⟩ | ⟨p1, p2, hx'⟩ <;> rcases qDq hi hj hy with ⟨e3, e4⟩ | ⟨q1, e3, e4⟩ | ⟨q1, q2, hy'⟩
 ·omega
 ·rw [e2] at e4; rw [<- e4] at hj; have := inj hi hj; omega
 ·rw [e2] at hy'; have := inj hy' hi; omega
 ·rw [e2] at e4; rw [<- e4] at hi; have := inj hi hj; omega
 ·omega
 ·rw [e2] at hy'; have := inj hy' hj; omega
 ·rw [e4] at hx'; have := inj hx' hi; omega
 ·rw [e4] at hx'; have := inj hx' hj; omega
 ·have := inj hx' hy'; omega
theorem allB_true (n : Nat) : allB (jBm n (D.bl true)) = some true := by
 have := qGd (fun _ : Nat => true) (jAg n)
 rw [List.map_const', jD4] at this
 rw [this]
 congr 1
 exact jCn.mpr fun _ _ => rfl
def Kn (S : Sto) : D -> Prop
 | .ref a => (∃ xs, S[a]? = some (.lst xs)) \/ ∃ kvs, S[a]? = some (.dct kvs)
 | .exc _ => False
 | .scr _ => False
 | _ => True
def partsD : D -> List D
 | .tup xs => xs
 | _ => []
def Kn2 (S : Sto) (d : D) : Prop := Kn S d /\ ∀ x ∈ partsD d, Kn S x
def Gd (S : Sto) (d : D) : Prop := (Kn S d /\ ∀ x ∈ partsD d, Kn2 S x) /\ flat 8 d = true
theorem Gd.flats : ∀ {xs : List D}, (∀ x ∈ xs, Gd S x) -> flats 8 xs = true
 | [], _ => rfl
 | x :: xs, h => by
  show (flat 8 x && Np.flats 8 xs) = true
  rw [(h x (by simp)).2, Gd.flats fun y hy => h y (by simp [hy])]
  rfl
theorem addL (ha : zH S a = some xs) (hb : zH S b = some ys) (hl : xs.length + ys.length <= 1000000) : addD (.ref a) (.ref b) S = ok (.ref S.length) (S ++ [.lst (xs ++ ys)]) := by
 show catD (zH S a) (zH S b) S = _
 rw [ha, hb]
 show (if _ then _ else _) = _
 rw [if_pos hl]; rfl
theorem dvm_eq (h : j ≠ 0) (S : Sto) : dvmD [.int i, .int j] S = ok (.tup [.int (i.fdiv j), .int (i.fmod j)]) S := by
 show (if _ then _ else _) = _
 rw [if_neg h]
theorem tupG2 (a b : DG) (x y : D) (δ : DS) (S : Sto) : tupG [a, b] (.tup [x, y]) δ S = tupGs [a, b] [x, y] δ S := rfl
theorem tup3 (x y z : D) (S : Sto) : tupD [x, y, z] S = ok (.tup [x, y, z]) S := rfl
theorem tup4 (x y z w : D) (S : Sto) : tupD [x, y, z, w] S = ok (.tup [x, y, z, w]) S := rfl
theorem FT.swap (h : FT n S c cs U) (hbi : cs[i]? = some bi) (hbj : cs[j]? = some bj) (hri : U[i]? = some ri) (hrj : U[j]? = some rj) (k1 : ∀ a, a ≠ c -> zH S' a = zH S a) (k2 : zH S' c = some (((cs.map D.ref).set i (.ref bj)).set j (.ref bi))) :
  FT n S' c ((cs.set i bj).set j bi) ((U.set i rj).set j ri) := by
 rw [qEg, qEg] at k2
 have key : ∀ x u, RowA S x u -> x ∈ cs -> RowA S' x u := fun x u hx hm => by
  show zH S' x = _
  rw [k1 x (h.ne x hm)]
  exact hx
 have row1 := h.tab.2.2 i bi ri hbi hri
 have row2 := h.tab.2.2 j bj rj hbj hrj
 refine ⟨⟨k2, by simp [h.tab.2.1], fun p x u h1 h2 => ?_⟩, fun x hx => ?_, nodup_swap h.inc hbi hbj, fun x hx => ?_, h.nc⟩
 ·rcases qDq hbi hbj h1 with ⟨e0, e5⟩ | ⟨p1, e0, e5⟩ | ⟨p1, p2, h1⟩ <;> rcases qDq hri hrj h2 with ⟨e1, e2⟩ | ⟨q1, e1, e2⟩ | ⟨q1, q2, h2⟩
  ·rw [e5, e2]; exact key _ _ row1 (zK hbi)
  ·exact absurd e0 q1
  ·exact absurd e0 q1
  ·exact absurd e1 p1
  ·rw [e5, e2]; exact key _ _ row2 (zK hbj)
  ·exact absurd e0 q2
  ·exact absurd e1 p1
  ·exact absurd e1 p2
  ·exact key _ _ (h.tab.2.2 p x u h1 h2) (zK h1)
 ·rcases jD5 hx with z | z
  ·rcases jD5 z with z | z
   ·exact h.lo x z
   ·rw [z]; exact h.lo _ (zK hbj)
  ·rw [z]; exact h.lo _ (zK hbi)
 ·rcases jD5 hx with z | z
  ·rcases jD5 z with z | z
   ·exact h.ne x z
   ·rw [z]; exact h.ne _ (zK hbj)
  ·rw [z]; exact h.ne _ (zK hbi)
theorem lowest_eq (hb : 0 < b) (S : Sto) : F.k52_lowest [.int a, .int b] S = ok (ratD (jCz a b)) S := by
 refine W_eq ?_
 have hn : ¬ b < 0 := by omega
 obtain ⟨c0, c1, c2⟩ := qCp (a := a) (b := b) (by omega) (((jDg b a : Nat) : Int)) (by rw [if_neg hn])
 rw [Int.gcd_comm] at c0 c1 c2
 (unfold F.k52_lowest; refine Np.W_fnF rfl ?_; unfold Den.k52_lowest; simp_all [])
 refine W_whileS (fun δ S' => S' = S /\ ∃ x y, δ = [some (.int a), some (.int b), some (.int x), some (.int y)] /\ 0 <= x /\ 0 <= y /\ jDg x y = jDg a b) (fun δ _ => match δ with | [_, _, _, some (.int y)] => y.natAbs | _ => 0) ⟨rfl, _, b, rfl, qCl a, by omega, gcd_abs1 a b⟩ ?_
 rintro δ S' ⟨rfl, x, y, rfl, hx, hy, hg⟩
 simp_all []
 by_cases h0 : y = 0
 ·subst h0
  have hx' : x = ((jDg a b : Nat) : Int) := by rw [<- hg]; simp; omega
  subst hx'
  simp_all [qA0 c0]
  simp only [c1, c2, ratD, and_self]
 ·rw [if_pos h0]
  obtain ⟨h1, h2, h3⟩ := gcd_step (a := x) (b := y) (by omega) hx
  simp_all [qAi h0]
  simp only [loopQ]
  refine ⟨⟨trivial, y, x.fmod y, rfl, hy, h1, by rw [h3, hg]⟩, by omega⟩
theorem qE9 {i : Int} {n : Nat} (h0 : 0 <= i) (h : i < 2 ^ n) : i.natAbs.log2 <= n := by
 refine qEj ?_
 have : ((2 : Int) ^ n) = ((2 ^ n : Nat) : Int) := by norm_cast
 omega
theorem mixed_eq {k : Int} (h0 : 0 <= k) (h1 : k < 1000) (c : Int) (S : Sto) : ∃ m : Int, 0 <= m /\ F.k52_mixed [.int c, .int k] S = ok (.int m) S := by
 suffices h : W (F.k52_mixed [.int c, .int k] S) fun d S' => S' = S /\ ∃ m : Int, 0 <= m /\ d = .int m by
  obtain ⟨d, S', e, rfl, m, hm, rfl⟩ := h.out
  exact ⟨m, hm, e⟩
 (unfold F.k52_mixed; refine Np.W_fnF rfl ?_; unfold Den.k52_mixed; simp_all [])
 obtain ⟨a1, a2⟩ := qBl c (show (0 : Int) < 2147483629 by decide)
 have m1 : (7 : Int).natAbs.log2 + k.natAbs.log2 <= 100000000 := by
  have := qE9 (n := 10) h0 (by omega)
  have : (7 : Int).natAbs.log2 = 2 := by decide
  omega
 have m2 : (c.fmod 2147483629 + 7 * k + 3).natAbs.log2 + (48271 : Int).natAbs.log2 <= 100000000 := by
  have := qE9 (i := c.fmod 2147483629 + 7 * k + 3) (n := 40) (by omega) (by omega)
  have : (48271 : Int).natAbs.log2 = 15 := by decide
  omega
 have nz : (2147483647 : Int) ≠ 0 := by decide
 simp_all [qAi (show (2147483629 : Int) ≠ 0 by decide), qAf m1, qAf m2, qAi nz, show qC9 [.int 6] S = ok (.fix (qB2 0 6)) S from qCv (n := 6) (by decide) S, qBw]
 obtain ⟨b1, b2⟩ := qBl ((c.fmod 2147483629 + 7 * k + 3) * 48271) (show (0 : Int) < 2147483647 by decide)
 refine qDo ((jAg 6).map fun i => D.int (i : Nat)) (fun i δ S' => S' = S /\ ∃ (n f : Int) (o : Option D), δ = [some (.int c), some (.int k), some (.int n), some (.int f), o] /\ 0 <= n /\ n < 2147483647 /\ 0 <= f /\ f < 2147483647 ^ i) (jAx _) ⟨rfl, _, 0, _, rfl, b1, b2, by decide, by decide⟩ (fun i δ S' _ => rfl) ?_ ?_
 ·rintro i x δ S' hx ⟨rfl, n, f, o, rfl, n1, n2, f1, f2⟩
  obtain ⟨rfl, hi⟩ := qAu hx
  have p6 : (2147483647 : Int) ^ i <= 2 ^ 200 := by
   have : i = 0 \/ i = 1 \/ i = 2 \/ i = 3 \/ i = 4 \/ i = 5 := by omega
   rcases this with rfl | rfl | rfl | rfl | rfl | rfl <;> decide
  have k1 : n.natAbs.log2 + (69621 : Int).natAbs.log2 <= 100000000 := by
   have := qE9 (n := 31) n1 (by omega)
   have : (69621 : Int).natAbs.log2 = 16 := by decide
   omega
  have k2 : (11 : Int).natAbs.log2 + ((i : Nat) : Int).natAbs.log2 <= 100000000 := by
   have := qE9 (i := (i : Int)) (n := 3) (by omega) (by omega)
   have : (11 : Int).natAbs.log2 = 3 := by decide
   omega
  have k3 : f.natAbs.log2 + (2147483647 : Int).natAbs.log2 <= 100000000 := by
   have := qE9 (n := 200) f1 (by omega)
   have : (2147483647 : Int).natAbs.log2 = 30 := by decide
   omega
  obtain ⟨e1, e2⟩ := qBl (n * 69621 + 11 * (i : Int) + 5) (show (0 : Int) < 2147483647 by decide)
  simp_all [qAf k1, qAf k2, qAf k3, qAi nz]
  simp only [loopQ]
  refine ⟨trivial, _, _, _, rfl, e1, e2, by omega, ?_⟩
  have : (2147483647 : Int) ^ (i + 1) = 2147483647 ^ i * 2147483647 := Int.pow_succ _ _
  omega
 ·rintro δ S' ⟨rfl, n, f, o, rfl, n1, n2, f1, f2⟩
  simp_all []
  exact ⟨trivial, f, f1, rfl⟩
def Deed.t : Deed -> T
 | .swap i j => .tup [.str "swap", .int (i : Int), .int (j : Int)]
 | .scale i q => .tup [.str "scale", .int (i : Int), ratT q]
 | .add i j q => .tup [.str "add", .int (i : Int), .int (j : Int), ratT q]
def Sg : Nat -> (Nat -> Rat) -> Rat
 | 0, _ => 0
 | n + 1, f => Sg n f + f n
theorem zM (h : ∀ i, i < n -> f i = g i) : Sg n f = Sg n g := by
 induction n with
 | zero => rfl
 | succ n ih => simp only [Sg]; rw [ih fun i hi => h i (by omega), h n (by omega)]
theorem Sg_add (n : Nat) (f g : Nat -> Rat) : Sg n (fun i => f i + g i) = Sg n f + Sg n g := by
 induction n with
 | zero => simp [Sg, jDx]
 | succ n ih => simp only [Sg, ih]; grind
theorem Sg_mul (n : Nat) (f : Nat -> Rat) (q : Rat) : Sg n (fun i => f i * q) = Sg n f * q := by
 induction n with
 | zero => simp [Sg, jD6]
 | succ n ih => simp only [Sg, ih]; grind
theorem qEu (n : Nat) : Sg n (fun _ => 0) = 0 := by
 induction n with
 | zero => rfl
 | succ n ih => simp only [Sg, ih, jDx]
theorem Sg_swap (n m : Nat) (f : Nat -> Nat -> Rat) : Sg n (fun i => Sg m fun j => f i j) = Sg m fun j => Sg n fun i => f i j := by
 induction n with
 | zero => simp only [Sg]; exact (qEu m).symm
 | succ n ih => simp only [Sg, ih, Sg_add]
theorem sumR_Sg : ∀ (xs : List Rat), sumR xs = Sg xs.length fun i => xs.getD i 0 := by
 intro xs
 have h : ∀ n, n <= xs.length -> sumR (xs.take n) = Sg n fun i => xs.getD i 0 := by
  intro n
  induction n with
  | zero => intro _; rfl
  | succ n ih =>
   intro hn
   obtain ⟨x, hx⟩ := zQ (show n < xs.length by omega)
   rw [sumR_take hx, ih (by omega)]
   simp only [Sg]
   congr 1
   simp [hx]
 have := h xs.length (jAx _)
 rwa [jDp] at this
def ent (T : List (List Rat)) (i k : Nat) : Rat := (T.getD i []).getD k 0
theorem qCc {T : List (List Rat)} {i k : Nat} {r : List Rat} (h : T[i]? = some r) : ent T i k = r.getD k 0 := by simp [ent, h]
theorem getD_of {α : Type} {xs : List α} {i : Nat} {x d : α} (h : xs[i]? = some x) : xs.getD i d = x := by simp [h]
theorem mix_ent {T : List (List Rat)} {ss : List Rat} {n k : Nat} (hw : Wide T n) (hk : k < n) (hl : T.length = ss.length) : (mixR T ss n).getD k 0 = Sg T.length fun j => ent T j k * ss.getD j 0 := by
 rw [getD_of (mixR_get hw hk hl), sumR_Sg]
 rw [jDm, <- hl, Nat.min_self]
 refine zM fun j hj => ?_
 obtain ⟨r, hr⟩ := zQ hj
 obtain ⟨s, hs⟩ := zQ (show j < ss.length by omega)
 rw [qCc hr, getD_of (xs := ss) hs]
 have : (jDk (fun r s => r.getD k 0 * s) T ss)[j]? = some (r.getD k 0 * s) := by rw [jDl, hr, hs]
 exact getD_of this
theorem qBa (T : List (List Rat)) (n : Nat) : (qAs T n).length = n := by simp [qAs]
theorem qC7 (T : List (List Rat)) (n : Nat) : Wide (qAs T n) T.length := fun r hr => by
 obtain ⟨p, _, rfl⟩ := jCe.mp hr
 simp [colR]
theorem qEr (T : List (List Rat)) (i c : Nat) : ent T i c = (zR T i).getD c 0 := rfl
theorem qCg {T : List (List Rat)} {i : Nat} (h : T.length <= i) : zR T i = [] := by
 simp [zR, jCy h]
theorem ent_none {T : List (List Rat)} {i : Nat} (h : T.length <= i) (j : Nat) : ent T i j = 0 := by
 rw [qEr, qCg h]
 rfl
theorem qFm {T : List (List Rat)} {n i : Nat} (hw : Wide T n) (h : i < T.length) : (zR T i).length = n := by
 obtain ⟨r, hr⟩ := zQ h
 rw [yB hr]
 exact hw r (zK hr)
structure RedI (T : List (List Rat)) (fs : List Nat) (c : Nat) : Prop where
 inc : fs.Pairwise (· < ·)
 lt : ∀ x ∈ fs, x < c
 le : fs.length <= T.length
 one : ∀ (k x : Nat), fs[k]? = some x -> ent T k x = 1
 bef : ∀ (k x j : Nat), fs[k]? = some x -> j < x -> ent T k j = 0
 alone : ∀ (k x i : Nat), fs[k]? = some x -> i ≠ k -> ent T i x = 0
 low : ∀ i j : Nat, fs.length <= i -> j < c -> ent T i j = 0
theorem rows_leT {N : Nat} {T : List (List Rat)} (h : LeT N T) : ∀ k, ∀ x ∈ zR T k, Le N x := fun k x hx => by
 by_cases hk : k < T.length
 ·obtain ⟨r, hr⟩ := zQ hk
  rw [yB hr] at hx
  exact h r (zK hr) x hx
 ·rw [qCg (by omega)] at hx
  cases hx
theorem le_getD {N : Nat} {xs : List Rat} (h : ∀ x ∈ xs, Le N x) (hN : 0 < N) (j : Nat) : Le N (xs.getD j 0) := by
 rw [jD7]
 cases e : xs[j]? with
 | none => exact Le.zero hN
 | some x => exact h x (jBv e)
def gr (b : Nat) : Nat -> Nat
 | 0 => b
 | n + 1 => 4 * gr b n + 1
theorem rng2D_nat {p n : Nat} (hp : p < 1000000) (hn : n < 1000000) (S : Sto) : rng2D [.int (p : Int), .int (n : Int)] S = ok (.fix ((jDn p (n - p)).map fun i => D.int (i : Nat))) S := by
 have hlim := lim_eq
 simp only [rng2D]
 rw [if_pos (by omega), <- qEp]
 rw [show ((n : Int) - (p : Int)).toNat = n - p by omega]
theorem enumD_ref (h : zH S a = some xs) : enumD [.ref a] S = ok (.enm a) S := by
 show (match zH S a with | some _ => ok (Src.enm a) S | none => none) = _
 rw [h]
theorem len_enm (h : zH S a = some xs) : (Src.enm a).len S = xs.length := by
 show (match zH S a with | some xs => xs.length | none => 0) = _
 rw [h]
theorem sm0 : sm (0 : Rat) := (show Le 70 (0 : Rat) from ⟨by decide, by decide⟩).sm (by decide)
theorem sm1 : sm (1 : Rat) := (show Le 70 (1 : Rat) from ⟨by decide, by decide⟩).sm (by decide)
def tb : Nat -> Nat
 | 0 => 27
 | k + 1 => max (tb k) (1 + (tb k + 27 + 1) * k)
abbrev natD (i : Nat) : D := .int (i : Int)
def dotW (xs ys ws : List Rat) : Rat := sumR (jDk (· * ·) (jDk (· * ·) xs ys) ws)
theorem dotW_w (ha : RowA S a xs) (hb : RowA S b ys) (hc : RowA S c ws) (hx : ∀ x ∈ xs, Le m x) (hy : ∀ y ∈ ys, Le n y) (hw : ∀ y ∈ ws, Le k y) (hl : (m + n + k + 1) * (xs.length + 1) <= 20000000) (hll : xs.length <= 1000000) :
  W (F.dot [.ref a, .ref b, .ref c] S) fun d S' => SLe S S' /\ d = ratD (dotW xs ys ws) := dotw_w ha hb hc hx hy hw hll hl
theorem sq_nonneg (x : Rat) : 0 <= x * x := by
 rcases Rat.le_total (a := 0) (b := x) with h | h
 ·exact jD8 h h
 ·have := jD8 (a := -x) (b := -x) (by grind) (by grind)
  grind
theorem le_dotW (hx : ∀ x ∈ xs, Le m x) (hy : ∀ y ∈ ys, Le n y) (hw : ∀ y ∈ ws, Le k y) : Le (1 + (m + n + k + 1) * xs.length) (dotW xs ys ws) := by
 have hz := le_zip (f := (· * ·)) (k := m + n) (fun a b h1 h2 => h1.mul h2) hx hy
 have hz2 := le_zip (f := (· * ·)) (k := m + n + k) (fun a b h1 h2 => h1.mul h2) hz hw
 refine (Le.sumR hz2).mono ?_
 have : (m + n + k + 1) * (jDk (· * ·) (jDk (· * ·) xs ys) ws).length <= (m + n + k + 1) * xs.length := jDv _ (by simp; omega)
 omega
theorem W_compZ (vals : D -> List (Option D)) (xs zs : List D) (P : D -> Prop) (hg : Tg g k vals base P) (hP : ∀ x ∈ xs, P x) (hz : zs.length = xs.length)
  (hit : W (it base S) fun src S' => xs.length <= src.len S' /\ src.len S' <= 1000000 /\ SLe S S' /\ ∀ i S'', SLe S' S'' -> src.get S'' i = some xs[i]?)
  (step : ∀ (i : Nat) x z S', xs[i]? = some x -> zs[i]? = some z -> SLe S S' -> W (e (base ++ vals x) S') fun d S'' => d = z /\ SLe S' S'')
  (fin : ∀ S' b, SLe S S' -> S.length <= b -> zH S' b = some zs -> Q (.ref b) S') : W (qAj it k g e base S) Q := by
 obtain ⟨src, S0, e0, h1, h2, h3, h4⟩ := hit.out
 refine qCs vals xs (fun i acc S' => SLe S0 S' /\ acc = zs.take i) P hP hg ?_ ?_ ?_
 ·rw [e0, W_ok]
  exact ⟨h1, h2, ⟨SLe.rfl, rfl⟩, fun i acc S'' h => h4 i S'' h.1⟩
 ·rintro i x acc S' hx ha ⟨hS, he⟩
  obtain ⟨z, hzi⟩ := zQ (xs := zs) (i := i) (by rw [hz]; exact (jAr.mp hx).1)
  refine (step i x z S' hx hzi (h3.trans hS)).mono ?_
  rintro d S'' ⟨rfl, l⟩
  exact ⟨hS.trans l, by rw [he, jDo, hzi]; rfl⟩
 ·rintro acc S' ⟨hS, he⟩ _
  rw [<- hz, jDp] at he
  subst he
  exact fin _ _ ((h3.trans hS).push _) (h3.trans hS).len (qAb S' _)
theorem square_w (ha : RowA S a xs) (hc : RowA S c ws) (hx : ∀ x ∈ xs, Le n x) (hw : ∀ y ∈ ws, Le k y) (hl : (n + n + k + 1) * (xs.length + 1) <= 20000000) (hll : xs.length <= 1000000) : W (F.square [.ref a, .ref c] S) fun d S' => SLe S S' /\ d = ratD (dotW xs xs ws) := by
 (unfold F.square; refine Np.W_fnF rfl ?_; unfold Den.square; simp_all [])
 exact dotW_w ha ha hc hx hx hw hl hll
def dt (n : Nat) (w f g : Nat -> Rat) : Rat := Sg n fun c => f c * g c * w c
theorem qDx (h1 : ∀ c, c < n -> f c = f' c) (h2 : ∀ c, c < n -> g c = g' c) : dt n w f g = dt n w f' g' := zM fun i hi => by rw [h1 i hi, h2 i hi]
theorem dt_add (n : Nat) (w f f' g : Nat -> Rat) : dt n w (fun c => f c + f' c) g = dt n w f g + dt n w f' g := by
 unfold dt
 rw [<- Sg_add]
 exact zM fun i _ => by grind
theorem dt_mix (n m : Nat) (w : Nat -> Rat) (f : Nat -> Nat -> Rat) (a : Nat -> Rat) (g : Nat -> Rat) : dt n w (fun c => Sg m fun j => f j c * a j) g = Sg m fun j => dt n w (f j) g * a j := by
 unfold dt
 have e : Sg n (fun c => Sg m (fun j => f j c * a j) * g c * w c) = Sg n fun c => Sg m fun j => f j c * g c * w c * a j := by
  refine zM fun c _ => ?_
  rw [<- Sg_mul, <- Sg_mul]
  exact zM fun j _ => by grind
 rw [e, Sg_swap]
 exact zM fun j _ => by rw [<- Sg_mul]
theorem Sg_nonneg (h : ∀ i, i < n -> 0 <= f i) : 0 <= Sg n f := by
 induction n with
 | zero => simp [Sg]
 | succ n ih =>
  have h1 := ih fun i hi => h i (by omega)
  have h2 := h n (by omega)
  simp only [Sg]
  grind
theorem Sg_pos (h : ∀ i, i < n -> 0 <= f i) (hk : k < n) (hp : 0 < f k) : 0 < Sg n f := by
 induction n with
 | zero => omega
 | succ n ih =>
  simp only [Sg]
  have h2 := h n (by omega)
  by_cases e : k = n
  ·subst e
   have := Sg_nonneg (n := k) fun i hi => h i (by omega)
   grind
  ·have := ih (fun i hi => h i (by omega)) (by omega)
   grind
theorem mul_self_pos {x : Rat} (h : x ≠ 0) : 0 < x * x := by
 have h1 := sq_nonneg x
 have h2 : x * x ≠ 0 := fun z => by
  rcases jD9.mp z with z | z <;> exact h z
 grind
theorem dt_pos {n : Nat} {w f : Nat -> Rat} (hw : ∀ c, c < n -> 0 < w c) {c : Nat} (hc : c < n) (hf : f c ≠ 0) : 0 < dt n w f f := by
 refine Sg_pos (k := c) (fun i hi => jD8 (sq_nonneg _) (by have := hw i hi; grind)) hc ?_
 exact Rat.mul_pos (mul_self_pos hf) (hw c hc)
structure GS (n : Nat) (w : Nat -> Rat) (R L H : Nat -> Nat -> Rat) (k : Nat) : Prop where
 mix : ∀ i, i < k -> ∀ c, R i c = L i c + Sg i fun j => R j c * H i j
 low : ∀ i j, i < k -> i <= j -> H i j = 0
 up : ∀ i j, i < k -> j < k -> i ≠ j -> dt n w (L i) (L j) = 0
 free : ∀ i j, i < k -> j < i -> (∀ c, c < n -> L j c = 0) -> H i j = 0
def AmtIs (n : Nat) (w r l : Nat -> Rat) (a : Rat) : Prop := ((∀ c, c < n -> l c = 0) /\ a = 0) \/ (dt n w l l ≠ 0 /\ a = dt n w r l / dt n w l l)
theorem AmtIs.eq (h : AmtIs n w r l a) : dt n w r l = dt n w l l * a := by
 rcases h with ⟨h1, h2⟩ | ⟨h1, h2⟩
 ·rw [h2, Rat.mul_zero]
  unfold dt
  rw [zM (g := fun _ => 0) fun i hi => by rw [h1 i hi]; grind, qEu]
 ·rw [h2, jDa, jEa (dt n w r l), <- jEb, jEc _ h1, Rat.one_mul]
theorem GS.rows {n k : Nat} {w : Nat -> Rat} {R L H : Nat -> Nat -> Rat} (g : GS n w R L H k) {f : Nat -> Rat} (m : Nat) (hm : m <= k) (h : ∀ j, j < m -> dt n w (L j) f = 0) : ∀ j, j < m -> dt n w (R j) f = 0 := by
 intro j
 induction j using jEd with
 | _ j ih =>
  intro hj
  have : dt n w (R j) f = dt n w (fun c => L j c + Sg j fun i => R i c * H j i) f := qDx (fun c _ => g.mix j (by omega) c) fun _ _ => rfl
  rw [this, dt_add, dt_mix, h j hj, zM (g := fun _ => 0) fun i hi => by rw [ih i hi (by omega), jD6], qEu]
  grind
def skip (p k : Nat) : Nat := if k < p then k else k + 1
def upd (A : Nat -> Nat -> Rat) (r : Nat) (f : Nat -> Rat) : Nat -> Nat -> Rat := fun i c => if i = r then f c else A i c
theorem zW (A : Nat -> Nat -> Rat) (r : Nat) (f : Nat -> Rat) (c : Nat) : upd A r f r c = f c := by unfold upd; rw [if_pos rfl]
theorem zO (h : i ≠ r) (c : Nat) : upd A r f i c = A i c := by unfold upd; rw [if_neg h]
def Tw (a b : Nat) (q : Rat) : Prop := ∃ n : Int, q * ((12 ^ a : Int) : Rat) = (n : Rat) /\ n.natAbs < 2 ^ b
theorem Tw.up (h : Tw a b q) : Tw (a + 1) (b + 4) q := by
 obtain ⟨n, h1, h2⟩ := h
 refine ⟨n * 12, ?_, by rw [jC4]; exact qBg h2 (by decide)⟩
 rw [Int.pow_succ, jEe, jEe, <- h1]
 grind
theorem Tw.add (hp : Tw a b p) (hq : Tw a c q) : Tw a (max b c + 1) (p + q) := by
 obtain ⟨n, h1, h2⟩ := hp
 obtain ⟨m, h3, h4⟩ := hq
 refine ⟨n + m, ?_, ?_⟩
 ·rw [Rat.intCast_add, <- h1, <- h3]; grind
 ·have e1 : 2 ^ b <= 2 ^ max b c := jC1 (by decide) (Nat.le_max_left _ _)
  have e2 : 2 ^ c <= 2 ^ max b c := jC1 (by decide) (Nat.le_max_right _ _)
  have := jC7 n m
  rw [jC8]
  omega
theorem Tw.zero (a b : Nat) : Tw a b 0 := ⟨0, by grind, by show 0 < _; exact jDc b⟩
theorem Tw.le (h : Tw a b q) (h1 : b <= N) (h2 : 4 * a < N) : Le N q := by
 obtain ⟨n, e, hn⟩ := h
 have hD : (0 : Int) < 12 ^ a := Int.pow_pos (by decide)
 have hD' : ((12 ^ a : Int) : Rat) ≠ 0 := fun z => by
  have : (12 ^ a : Int) = 0 := by exact_mod_cast z
  omega
 have eq : q = jCz n (12 ^ a) := by
  rw [jEf, <- e, Rat.mul_div_cancel hD']
 rw [eq]
 refine Le.divInt' hD (jAd hn (jC1 (by decide) h1)) ?_
 have : ((12 : Int) ^ a).natAbs = 12 ^ a := by rw [Int.natAbs_pow]; rfl
 rw [this]
 have h16 : (12 : Nat) ^ a <= 16 ^ a := Nat.pow_le_pow_left (by decide) a
 have e16 : (16 : Nat) ^ a = 2 ^ (4 * a) := by rw [Nat.pow_mul]
 rw [e16] at h16
 exact jCm h16 (jC9 (by decide) h2)
def TwT (a b : Nat) (T : List (List Rat)) : Prop := ∀ r ∈ T, ∀ x ∈ r, Tw a b x
theorem TwT.le {a b N : Nat} {T : List (List Rat)} (h : TwT a b T) (h1 : b <= N) (h2 : 4 * a < N) : LeT N T := fun r hr x hx => (h r hr x hx).le h1 h2
def Rl (A : List (List Rat)) (m : Nat) (c : Nat -> Rat) : Prop := ∀ i, Sg m (fun k => ent A i k * c k) = 0
theorem qE6 (k : Nat) : ∀ fs : List Nat, memT (.int (k : Int)) (fs.map fun (i : Nat) => Np.T.int (i : Int)) = decide (k ∈ fs)
 | [] => by simp [memT]
 | f :: fs => by
  simp only [jBb, memT, qE6 k fs, eqT]
  by_cases h : k = f
  ·subst h; simp
  ·have : ¬ ((k : Int) = (f : Int)) := by omega
   by_cases h2 : k ∈ fs <;> simp [h, h2, this]
theorem notinD_nats {S : Sto} {a k : Nat} {fs : List Nat} (h : zH S a = some (fs.map natD)) : notinD (.int (k : Int)) (.ref a) S = ok (.bl (!decide (k ∈ fs))) S := by
 have e : rdl (rd 8 S) (fs.map natD) = some (fs.map fun (i : Nat) => Np.T.int (i : Int)) := rdl_map natD (fun i => Np.T.int (i : Int)) (fun i => qD8 8 S i) fs
 have h8 : rd 8 S (.int (k : Int)) = some (.int (k : Int)) := qD8 8 S k
 unfold notinD inA
 simp only [h, h8, e, qE6]
 simp
def SgI : Nat -> (Nat -> Int) -> Int
 | 0, _ => 0
 | n + 1, f => SgI n f + f n
theorem SgI_cast (n : Nat) (f : Nat -> Int) : ((SgI n f : Int) : Rat) = Sg n fun i => (f i : Rat) := by
 induction n with
 | zero => rfl
 | succ n ih => simp only [SgI, Sg, Rat.intCast_add, ih]
theorem SgI_le (h : ∀ i, i < n -> (f i).natAbs <= M) : (SgI n f).natAbs <= n * M := by
 induction n with
 | zero => simp [SgI]
 | succ n ih =>
  have h1 := ih fun i hi => h i (by omega)
  have h2 := h n (by omega)
  have h3 := jC7 (SgI n f) (f n)
  rw [SgI, Nat.succ_mul]
  omega
theorem SgI_nonneg (h : ∀ i, i < n -> 0 <= f i) : 0 <= SgI n f := by
 induction n with
 | zero => simp [SgI]
 | succ n ih =>
  have h1 := ih fun i hi => h i (by omega)
  have h2 := h n (by omega)
  rw [SgI]
  omega
def CdI (B : Nat) (f : Nat -> Rat) (D : Int) (z : Nat -> Int) : Prop := (0 < D /\ D.natAbs < 2 ^ B) /\ ∀ c, f c * (D : Rat) = (z c : Rat) /\ (z c).natAbs < 2 ^ B
def Cd (B : Nat) (f : Nat -> Rat) : Prop := ∃ D z, CdI B f D z
theorem qGb {D : Int} (h : 0 < D) : (D : Rat) ≠ 0 := fun z => by
 have : D = 0 := by
  have e : ((D : Int) : Rat) = ((0 : Int) : Rat) := z
  exact Rat.intCast_inj.mp e
 omega
theorem le_of_mul {B : Nat} {q : Rat} {D z : Int} (hD : 0 < D) (hb : D.natAbs < 2 ^ B) (h : q * (D : Rat) = (z : Rat)) (hz : z.natAbs < 2 ^ B) : Le B q := by
 have e : q = jCz z D := by
  rw [jEf, <- h, jDa, jEb, jEc _ (qGb hD), Rat.mul_one]
 rw [e]
 exact Le.divInt (by omega) hz hb
theorem Cd.le {B : Nat} {f : Nat -> Rat} (h : Cd B f) (c : Nat) : Le B (f c) := by
 obtain ⟨D, z, ⟨h1, h2⟩, h3⟩ := h
 exact le_of_mul h1 h2 (h3 c).1 (h3 c).2
theorem Cd.mono (h : Cd B f) (k : B <= B') : Cd B' f := by
 obtain ⟨D, z, ⟨h1, h2⟩, h3⟩ := h
 have := jC1 (show 0 < 2 by decide) k
 exact ⟨D, z, ⟨h1, by omega⟩, fun c => ⟨(h3 c).1, by have := (h3 c).2; omega⟩⟩
theorem qEf (h1 : a < 2 ^ x) (h2 : b < 2 ^ y) : a * b < 2 ^ (x + y) := by
 rw [jC6]
 exact Nat.mul_lt_mul'' h1 h2
theorem qGa : ∀ {xs : List Rat}, (∀ x ∈ xs, Le b x) -> Cd (b * xs.length + 1) fun c => xs.getD c 0
 | [], _ => ⟨1, fun _ => 0, ⟨by decide, by simp⟩, fun c => ⟨by simp, by simp⟩⟩
 | x :: xs, h => by
  obtain ⟨D, z, ⟨h1, h2⟩, h3⟩ := qGa fun y hy => h y (jAn _ hy)
  have hx := h x (jAm ..)
  have hd := qB4 x
  have e : b * (x :: xs).length + 1 = (b * xs.length + 1) + b := by rw [jA7, Nat.mul_succ]; omega
  rw [e]
  have hx1 : x * ((x.den : Int) : Rat) = ((x.num : Int) : Rat) := by
   conv => lhs; lhs; rw [<- jC0 x, jEf]
   rw [jDa, jEb, jEa _⁻¹, jEc _ (qGb hd), Rat.mul_one]
  refine ⟨D * x.den, fun c => match c with | 0 => x.num * D | c + 1 => z c * x.den, ⟨jEg h1 hd, ?_⟩, fun c => ?_⟩
  ·rw [jC4]
   exact qEf h2 (by rw [jC3]; exact hx.2)
  ·match c with
   | 0 =>
    refine ⟨?_, ?_⟩
    ·show x * ((D * x.den : Int) : Rat) = ((x.num * D : Int) : Rat)
     rw [jEe, jEe, <- hx1]
     grind
    ·show (x.num * D).natAbs < _
     rw [jC4, jCb]
     exact qEf h2 hx.1
   | c + 1 =>
    obtain ⟨g1, g2⟩ := h3 c
    refine ⟨?_, ?_⟩
    ·show xs.getD c 0 * ((D * x.den : Int) : Rat) = ((z c * x.den : Int) : Rat)
     rw [jEe, jEe, <- g1]
     grind
    ·show (z c * x.den).natAbs < _
     rw [jC4]
     exact qEf g2 (by rw [jC3]; exact hx.2)
structure Amt (n u V q s : Nat) (w y x : Nat -> Rat) (D Dj : Int) (U v : Nat -> Int) (a : Rat) (p nj : Int) : Prop where
 pos : 0 < nj
 eq : a * ((D * nj : Int) : Rat) = ((p * Dj : Int) : Rat)
 lp : p.natAbs <= 2 ^ (u + V + q + s)
 ln : nj.natAbs <= 2 ^ (V + V + q + s)
theorem term_le (h1 : a < 2 ^ x) (h2 : b < 2 ^ y) (h3 : c < 2 ^ z) : a * b * c <= 2 ^ (x + y + z) := jAk (qEf (qEf h1 h2) h3)
theorem amt_of {n u V q s : Nat} {w y x : Nat -> Rat} {D Dj Ω : Int} {U v ω : Nat -> Int} {a : Rat} (hn : n <= 2 ^ s) (hD : 0 < D) (hy : ∀ c, y c * (D : Rat) = (U c : Rat) /\ (U c).natAbs < 2 ^ u) (hDj : 0 < Dj) (hx : ∀ c, x c * (Dj : Rat) = (v c : Rat) /\ (v c).natAbs < 2 ^ V)
  (hΩ : 0 < Ω) (hw : ∀ c, w c * (Ω : Rat) = (ω c : Rat) /\ (ω c).natAbs < 2 ^ q) (hw0 : ∀ c, 0 <= ω c) (h0 : dt n w x x ≠ 0) (ha : a = dt n w y x / dt n w x x) :
  Amt n u V q s w y x D Dj U v a (SgI n fun c => U c * v c * ω c) (SgI n fun c => v c * v c * ω c) := by
 have E : ∀ {f : Nat -> Rat} {D : Int} {U : Nat -> Int}, (∀ c, f c * (D : Rat) = (U c : Rat)) -> dt n w f x * ((D : Rat) * (Dj : Rat) * (Ω : Rat)) = ((SgI n fun c => U c * v c * ω c : Int) : Rat) := by
  intro f D U hf
  rw [SgI_cast]
  unfold dt
  rw [<- Sg_mul]
  refine zM fun c _ => ?_
  rw [jEe, jEe, <- hf c, <- (hx c).1, <- (hw c).1]
  grind
 have E1 := E fun c => (hx c).1
 have E2 := E fun c => (hy c).1
 have nz : (((SgI n fun c => v c * v c * ω c) : Int) : Rat) ≠ 0 := by
  rw [<- E1]
  intro z
  rcases jD9.mp z with z | z
  ·exact h0 z
  ·rcases jD9.mp z with z | z
   ·rcases jD9.mp z with z | z <;> exact qGb hDj z
   ·exact qGb hΩ z
 have nn : 0 <= (SgI n fun c => v c * v c * ω c) := SgI_nonneg fun i _ => Int.mul_nonneg (by
  rcases Int.le_total 0 (v i) with h | h
  ·exact Int.mul_nonneg h h
  ·exact Int.mul_nonneg_of_nonpos_of_nonpos h h) (hw0 i)
 have np : 0 < (SgI n fun c => v c * v c * ω c) := by
  rcases Int.lt_or_eq_of_le nn with h | h
  ·exact h
  ·exact absurd (by rw [<- h]; rfl) nz
 have ae : a * dt n w x x = dt n w y x := by
  rw [ha, jDa, jEb, jEa _⁻¹, jEc _ h0, Rat.mul_one]
 refine ⟨np, ?_, ?_, ?_⟩
 ·rw [jEe, jEe, <- E1, <- E2, <- ae]
  grind
 ·refine jAj (SgI_le (M := 2 ^ (u + V + q)) fun i _ => ?_) ?_
  ·rw [jC4, jC4]
   exact term_le (hy i).2 (hx i).2 (hw i).2
  ·rw [jC6 _ (u + V + q) s, jCb]
   exact jDv _ hn
 ·refine jAj (SgI_le (M := 2 ^ (V + V + q)) fun i _ => ?_) ?_
  ·rw [jC4, jC4]
   exact term_le (hx i).2 (hx i).2 (hw i).2
  ·rw [jC6 _ (V + V + q) s, jCb]
   exact jDv _ hn
theorem Amt.le {n u V q s : Nat} {w y x : Nat -> Rat} {D Dj : Int} {U v : Nat -> Int} {a : Rat} {p nj : Int} (h : Amt n u V q s w y x D Dj U v a p nj) (hD : 0 < D) (hDu : D.natAbs < 2 ^ u) (hDj : Dj.natAbs < 2 ^ V) : Le (u + V + V + q + s + 1) a := by
 refine le_of_mul (jEg hD h.pos) ?_ h.eq ?_
 ·rw [jC4]
  have h1 := h.ln
  calc D.natAbs * nj.natAbs <= 2 ^ u * 2 ^ (V + V + q + s) := jEh (jAk hDu) h1
   _ < 2 ^ (u + V + V + q + s + 1) := by
    rw [<- jC6]
    exact jC9 (by decide) (by omega)
 ·rw [jC4]
  have h1 := h.lp
  calc p.natAbs * Dj.natAbs <= 2 ^ (u + V + q + s) * 2 ^ V := jEh h1 (jAk hDj)
   _ < 2 ^ (u + V + V + q + s + 1) := by
    rw [<- jC6]
    exact jC9 (by decide) (by omega)
structure Acc (u P B : Nat) (D : Int) (z : Nat -> Rat) (N : Int) (Z : Nat -> Int) : Prop where
 pos : 0 < N
 lN : N.natAbs <= 2 ^ P
 lD : (D * N).natAbs < 2 ^ B
 eq : ∀ c, z c * ((D * N : Int) : Rat) = (Z c : Rat)
 lz : ∀ c, (Z c).natAbs < 2 ^ B
 uP : u + P <= B
theorem Acc.step {n u V q s P B : Nat} {w y x z : Nat -> Rat} {D Dj N : Int} {U v Z : Nat -> Int} {a : Rat} {p nj : Int} (h : Acc u P B D z N Z) (k : Amt n u V q s w y x D Dj U v a p nj) (hx : ∀ c, x c * (Dj : Rat) = (v c : Rat) /\ (v c).natAbs < 2 ^ V) :
  Acc u (P + (V + V + q + s)) (B + (V + V + q + s + 1)) D (fun c => z c - x c * a) (N * nj) (fun c => Z c * nj - v c * p * N) := by
 have hp := k.pos
 refine ⟨jEg h.pos hp, ?_, ?_, fun c => ?_, fun c => ?_, by have := h.uP; omega⟩
 ·rw [jC4, jC6]
  exact jEh h.lN k.ln
 ·rw [<- Int.mul_assoc, jC4]
  calc (D * N).natAbs * nj.natAbs <= (D * N).natAbs * 2 ^ (V + V + q + s) := jDv _ k.ln
   _ < 2 ^ B * 2 ^ (V + V + q + s) := jEi h.lD (jDc _)
   _ <= 2 ^ (B + (V + V + q + s + 1)) := by
    rw [<- jC6]
    exact jC1 (by decide) (by omega)
 ·have e1 := h.eq c
  have e2 := k.eq
  have e3 := (hx c).1
  rw [jEe] at e1 e2
  rw [jEe] at e2
  rw [Rat.intCast_sub, jEe, jEe, jEe, jEe, jEe, <- e1, <- e3]
  grind
 ·have h1 : (Z c * nj).natAbs < 2 ^ (B + (V + V + q + s)) := by
   rw [jC4, jC6]
   calc (Z c).natAbs * nj.natAbs <= (Z c).natAbs * 2 ^ (V + V + q + s) := jDv _ k.ln
    _ < 2 ^ B * 2 ^ (V + V + q + s) := jEi (h.lz c) (jDc _)
  have h2 : (v c * p * N).natAbs <= 2 ^ (B + (V + V + q + s)) := by
   rw [jC4, jC4]
   calc (v c).natAbs * p.natAbs * N.natAbs <= 2 ^ V * 2 ^ (u + V + q + s) * 2 ^ P := jEh (jEh (jAk (hx c).2) k.lp) h.lN
    _ <= 2 ^ (B + (V + V + q + s)) := by
     rw [<- jC6, <- jC6]
     exact jC1 (by decide) (by have := h.uP; omega)
  have h3 : (2 : Nat) ^ (B + (V + V + q + s + 1)) = 2 ^ (B + (V + V + q + s)) * 2 := by rw [<- Nat.add_assoc, jC8]
  rw [h3]
  show (Z c * nj - v c * p * N).natAbs < _
  omega
def vt (u e : Nat) : Nat -> Nat
 | 0 => 0
 | k + 1 => vt u e k + (2 * (u + vt u e k) + e)
theorem qD2 (u e : Nat) (h : m <= n) : vt u e m <= vt u e n := by
 induction n with
 | zero => rw [show m = 0 by omega]; exact jAx _
 | succ n ih =>
  by_cases e' : m = n + 1
  ·rw [e']; exact jAx _
  ·have := ih (by omega)
   simp only [vt]
   omega
theorem cd_lefts {n u q s K : Nat} {w : Nat -> Rat} {Ω : Int} {ω : Nat -> Int} {Y X : Nat -> Nat -> Rat} {a : Nat -> Nat -> Rat} (hn : n <= 2 ^ s) (hΩ : 0 < Ω) (hw : ∀ c, w c * (Ω : Rat) = (ω c : Rat) /\ (ω c).natAbs < 2 ^ q) (hw0 : ∀ c, 0 <= ω c)
  (hY : ∀ k, k < K -> Cd u (Y k)) (hX : ∀ k, k < K -> ∀ c, X k c = Y k c - Sg k fun j => X j c * a k j) (ha : ∀ k j, k < K -> j < k -> AmtIs n w (Y k) (X j) (a k j)) :
  ∀ k, k < K -> Cd (u + vt u (q + s + 1) k) (X k) /\ ∀ j, j < k -> Le (u + 2 * (u + vt u (q + s + 1) j) + (q + s + 1)) (a k j) := by
 intro k
 induction k using jEd with
 | _ k ih =>
  intro hk
  obtain ⟨D, U, ⟨hD, hDu⟩, hU⟩ := hY k hk
  have am : ∀ j, j < k -> (a k j = 0) \/ ∃ Dj v p nj, CdI (u + vt u (q + s + 1) j) (X j) Dj v /\ Amt n u (u + vt u (q + s + 1) j) q s w (Y k) (X j) D Dj U v (a k j) p nj := fun j hj => by
   rcases ha k j hk hj with ⟨_, h⟩ | ⟨h0, h⟩
   ·exact .inl h
   ·obtain ⟨Dj, v, h1⟩ := (ih j hj (by omega)).1
    exact .inr ⟨Dj, v, _, _, h1, amt_of hn hD hU h1.1.1 h1.2 hΩ hw hw0 h0 h⟩
  have acc : ∀ t, t <= k -> ∃ P N Z, Acc u P (u + vt u (q + s + 1) t) D (fun c => Y k c - Sg t fun j => X j c * a k j) N Z := by
   intro t
   induction t with
   | zero =>
    intro _
    refine ⟨0, 1, U, by decide, by decide, by rw [Int.mul_one]; exact hDu, fun c => ?_, fun c => (hU c).2, by simp [vt]⟩
    rw [Int.mul_one, <- (hU c).1]
    simp only [Sg]
    grind
   | succ t iht =>
    intro ht
    obtain ⟨P, N, Z, h⟩ := iht (by omega)
    rcases am t (by omega) with h0 | ⟨Dj, v, p, nj, h1, h2⟩
    ·refine ⟨P, N, Z, h.pos, h.lN, ?_, fun c => ?_, fun c => ?_, ?_⟩
     ·exact jAd h.lD (jC1 (by decide) (by have := qD2 u (q + s + 1) (show t <= t + 1 by omega); omega))
     ·rw [<- h.eq c]
      simp only [Sg, h0]
      grind
     ·exact jAd (h.lz c) (jC1 (by decide) (by have := qD2 u (q + s + 1) (show t <= t + 1 by omega); omega))
     ·have := h.uP; have := qD2 u (q + s + 1) (show t <= t + 1 by omega); omega
    ·have := h.step h2 h1.2
     have eB : u + vt u (q + s + 1) (t + 1) = u + vt u (q + s + 1) t + ((u + vt u (q + s + 1) t) + (u + vt u (q + s + 1) t) + q + s + 1) := by simp only [vt]; omega
     have ez : (fun c => (Y k c - Sg (t + 1) fun j => X j c * a k j)) = fun c => (Y k c - Sg t fun j => X j c * a k j) - X t c * a k t := by
      funext c
      simp only [Sg]
      grind
     rw [eB, ez]
     exact ⟨_, _, _, this⟩
  constructor
  ·obtain ⟨P, N, Z, h⟩ := acc k (jAx k)
   refine ⟨D * N, Z, ⟨jEg hD h.pos, h.lD⟩, fun c => ⟨?_, h.lz c⟩⟩
   rw [hX k hk c]
   exact h.eq c
  ·intro j hj
   rcases am j hj with h0 | ⟨Dj, v, p, nj, h1, h2⟩
   ·rw [h0]; exact Le.zero (by omega)
   ·exact (h2.le hD hDu h1.1.2).mono (by omega)
abbrev Vf (xs : List Rat) : Nat -> Rat := fun c => xs.getD c 0
def qD4 (xs : List Rat) : Bool := xs.all fun x => decide (x = 0)
theorem qC8 (xs : List Rat) : qD4 xs = true ↔ ∀ c, xs.getD c 0 = 0 := by
 unfold qD4
 rw [jCn]
 constructor
 ·intro h c
  rw [jD7]
  cases e : xs[c]? with
  | none => rfl
  | some x => simpa using h x (jBv e)
 ·intro h x hx
  obtain ⟨i, hi⟩ := jD3 hx
  have := h i
  rw [jD7, hi] at this
  simpa using this
theorem dotW_dt (h1 : xs.length = n) (h2 : ys.length = n) (h3 : ws.length = n) : dotW xs ys ws = dt n (Vf ws) (Vf xs) (Vf ys) := by
 unfold dotW dt
 rw [sumR_Sg]
 have e : (jDk (· * ·) (jDk (· * ·) xs ys) ws).length = n := by simp; omega
 rw [e]
 refine zM fun i hi => ?_
 simp [jDl, show i < xs.length by omega, show i < ys.length by omega, show i < ws.length by omega]
def amtR (row left ws : List Rat) : Rat := if qD4 left = true then 0 else dotW row left ws / dotW left left ws
theorem amtR_is (h1 : row.length = n) (h2 : left.length = n) (h3 : ws.length = n) (hw : ∀ c, c < n -> 0 < Vf ws c) : AmtIs n (Vf ws) (Vf row) (Vf left) (amtR row left ws) := by
 unfold amtR
 by_cases h : qD4 left = true
 ·rw [if_pos h]
  exact .inl ⟨fun c _ => (qC8 left).mp h c, rfl⟩
 ·rw [if_neg h, dotW_dt h1 h2 h3, dotW_dt h2 h2 h3]
  refine .inr ⟨?_, rfl⟩
  have : ∃ c, left.getD c 0 ≠ 0 := Classical.byContradiction fun z => h ((qC8 left).mpr fun c => Classical.byContradiction fun y => z ⟨c, y⟩)
  obtain ⟨c, hc⟩ := this
  have hcn : c < n := Classical.byContradiction fun z => hc (by
   rw [jD7, jCy (by omega)]; rfl)
  have := dt_pos (f := Vf left) hw hcn hc
  grind
theorem sq_ne (h2 : left.length = n) (h3 : ws.length = n) (hw : ∀ c, c < n -> 0 < Vf ws c) (h : qD4 left = false) : dotW left left ws ≠ 0 := by
 have : ∃ c, left.getD c 0 ≠ 0 := Classical.byContradiction fun z => by
  rw [(qC8 left).mpr fun c => Classical.byContradiction fun y => z ⟨c, y⟩] at h
  cases h
 obtain ⟨c, hc⟩ := this
 have hcn : c < n := Classical.byContradiction fun z => hc (by
  rw [jD7, jCy (by omega)]; rfl)
 have := dt_pos (f := Vf left) hw hcn hc
 rw [dotW_dt h2 h2 h3]
 grind
theorem amount_w (ha : RowA S a row) (hb : RowA S b left) (hc : RowA S c ws) (h1 : row.length = n) (h2 : left.length = n) (h3 : ws.length = n) (hw : ∀ c, c < n -> 0 < Vf ws c) (hr : ∀ x ∈ row, Le m x) (hl : ∀ x ∈ left, Le V x) (hq : ∀ x ∈ ws, Le q x)
  (hB1 : (m + V + q + 1) * (n + 1) <= 20000000) (hB2 : (V + V + q + 1) * (n + 1) <= 20000000) (hn : n <= 1000000) : W (F.amount [.ref a, .ref b, .ref c] S) fun d S' => d = ratD (amtR row left ws) /\ SLe S S' := by
 (unfold F.amount; refine Np.W_fnF rfl ?_; unfold Den.amount; simp_all [])
 obtain ⟨o, ho⟩ := qEn hb (by omega)
 simp_all [ho]
 have hS : SLe S (S ++ [o]) := SLe.app _
 by_cases h : qD4 left = true
 ·have h' : (left.all fun x => decide (x = 0)) = true := h
  simp_all [h']
  refine ⟨?_, hS⟩
  unfold amtR
  rw [if_pos h]
 ·have h' : (left.all fun x => decide (x = 0)) = false := by simpa [qD4] using h
  simp_all [h']
  refine (dotW_w (hS.lst ha) (hS.lst hb) (hS.lst hc) hr hl hq (by rw [h1]; exact hB1) (by omega)).mono ?_
  rintro d S2 ⟨l2, rfl⟩
  refine (square_w ((hS.trans l2).lst hb) ((hS.trans l2).lst hc) hl hq (by rw [h2]; exact hB2) (by omega)).mono ?_
  rintro d S3 ⟨l3, rfl⟩
  have s1 : sm (dotW row left ws) := (le_dotW hr hl hq).sm (by rw [h1]; rw [jDt] at hB1; omega)
  have s2 : sm (dotW left left ws) := (le_dotW hl hl hq).sm (by rw [h2]; rw [jDt] at hB2; omega)
  simp_all [over_eq s1 s2 (sq_ne h2 h3 hw (by simpa using h))]
  refine ⟨?_, hS.trans (l2.trans l3)⟩
  unfold amtR
  rw [if_neg h]
def molR (sh : List Rat) (long : Nat) : List Rat := subR (qB7 long sh.length) (sh ++ jBm (long - sh.length) 0)
theorem qBi (h : sh.length <= long) : (molR sh long).length = long := by simp [molR, subR, qB7]; omega
theorem molR_get (h : sh.length <= long) (j : Nat) (hj : j < long) : (molR sh long).getD j 0 = (if j = sh.length then 1 else 0) - sh.getD j 0 := by
 have e1 : (qB7 long sh.length)[j]? = some (if j = sh.length then 1 else 0) := by simp [qB7, hj]
 have e2 : (sh ++ jBm (long - sh.length) 0)[j]? = some (sh.getD j 0) := by
  by_cases h2 : j < sh.length
  ·rw [jBt h2]; simp [h2]
  ·rw [jBr (by omega), jBs, if_pos (by omega)]
   simp [show ¬ j < sh.length from h2, jCy (show sh.length <= j by omega)]
 simp only [molR, subR, jD7, jDl, e1, e2]
 simp
theorem addD_ref (ha : zH S a = some xs) (hb : zH S b = some ys) (hl : xs.length + ys.length <= 1000000) : addD (.ref a) (.ref b) S = ok (.ref S.length) (S ++ [.lst (xs ++ ys)]) := by
 show catD (zH S a) (zH S b) S = _
 rw [ha, hb]
 unfold catD
 simp only []
 rw [if_pos hl]
 rfl
theorem qCy (ha : RowA S a sh) (h : sh.length <= long) (hl : long < 1000000) (hV : ∀ x ∈ sh, Le V x) (hVN : V <= 20000000)
  (fin : ∀ S' b, SLe S S' -> S.length <= b -> RowA S' b (molR sh long) -> Q (.ref b) S') : W (F.mix_of_left [.ref a, .int (long : Int)] S) Q := by
 (unfold F.mix_of_left; refine Np.W_fnF rfl ?_; unfold Den.mix_of_left; simp_all [])
 simp_all [qAe ha, jBd]
 refine qAx (unit_row_eq (p := sh.length) hl) fun S1 u l1 n1 r1 => ?_
 refine qAx (qAz (by simp) _) fun S2 z l2 n2 r2 => ?_
 simp_all [qAe ((l1.trans l2).lst ha), jBd, show (long : Int) - (sh.length : Int) = ((long - sh.length : Nat) : Int) by omega]
 refine qAx (mulD_rep r2 (by omega)) fun S3 y l3 n3 r3 => ?_
 replace r3 := RowA.rep r3
 have L3 := l1.trans (l2.trans l3)
 refine qAx (addD_ref (L3.lst ha) r3 (by simp; omega)) fun S4 x l4 n4 r4 => ?_
 rw [<- jEj] at r4
 refine qAx (taken_eq ((l2.trans (l3.trans l4)).lst r1) r4 (by simp [qB7]; omega) (fun x hx => ?_) (fun x hx => ?_)) fun S5 b l5 n5 r5 => ?_
 ·obtain ⟨i, _, rfl⟩ := jCe.mp hx
  split
  ·exact sm1
  ·exact sm0
 ·rcases jAp.mp hx with h | h
  ·exact (hV x h).sm (by omega)
  ·rw [(jDz.mp h).2]; exact sm0
 ·exact fin S5 b (L3.trans (l4.trans l5)) (by have := l1.len; have := l2.len; have := l3.len; have := l4.len; omega) r5
structure PtR (S : Sto) (t : Nat) (as bs : List Nat) (P H : List (List Rat)) : Prop where
 at' : zH S t = some (jDk (fun a b => D.tup [.ref a, .ref b]) as bs)
 la : as.length = P.length
 lb : bs.length = P.length
 lh : H.length = P.length
 left : ∀ (i a : Nat) r, as[i]? = some a -> P[i]? = some r -> RowA S a r
 shs : ∀ (i b : Nat) r, bs[i]? = some b -> H[i]? = some r -> RowA S b r
theorem PtR.le (h : PtR S t as bs P H) (l : SLe S S') : PtR S' t as bs P H :=
 ⟨l.lst h.at', h.la, h.lb, h.lh, fun i a r h1 h2 => l.lst (h.left i a r h1 h2), fun i a r h1 h2 => l.lst (h.shs i a r h1 h2)⟩
theorem PtR.len (h : PtR S t as bs P H) : (jDk (fun a b => D.tup [.ref a, .ref b]) as bs).length = P.length := by simp [h.la, h.lb]
theorem parted_w (hr : RowA S r row) (ht : PtR S t as bs P H) (hc : RowA S c ws) (h1 : row.length = n) (h3 : ws.length = n) (hw : ∀ c, c < n -> 0 < Vf ws c) (hP : Wide P n) (hH : ∀ (i : Nat) sh, H[i]? = some sh -> sh.length = i) (hk : P.length = k)
  (lr : ∀ x ∈ row, Le m x) (lP : LeT V P) (lH : LeT V H) (lA : ∀ x ∈ P.map (fun l => amtR row l ws), Le A x) (lq : ∀ x ∈ ws, Le q x) (lM : LeT V (H.map fun sh => molR sh k))
  (hB1 : (m + V + q + 1) * (n + 1) <= 20000000) (hB2 : (V + V + q + 1) * (n + 1) <= 20000000) (hB3 : (V + A + 1) * (k + 1) <= 20000000) (hn : n < 1000000) (hk2 : k < 1000000)
  (fin : ∀ S' a b, SLe S S' -> S.length <= a -> S.length <= b -> a ≠ b -> RowA S' a (subR row (mixR P (P.map fun l => amtR row l ws) n)) -> RowA S' b (mixR (H.map fun sh => molR sh k) (P.map fun l => amtR row l ws) k) -> Q (.tup [.ref a, .ref b]) S') : W (F.parted [.ref r, .ref t, .ref c] S) Q := by
 have hV : V <= 20000000 := by
  have : V + A + 1 <= (V + A + 1) * (k + 1) := jDw _ (by omega)
  omega
 have hlen := ht.len
 (unfold F.parted; refine Np.W_fnF rfl ?_; unfold Den.parted; simp_all [])
 refine W_compZ (base := [some (.ref r), some (.ref t), some (.ref c), none, none, none]) _ (jDk (fun a b => D.tup [.ref a, .ref b]) as bs) ((P.map fun l => amtR row l ws).map ratD) _ (qBh _) (fun _ _ => trivial) (by rw [hlen]; simp) ?_ ?_ fun S1 am l1 n1 ra => ?_
 ·simp only [Np.itA, Np.itE, Np.yF, Np.aConsK, Np.aNil, Np.consK, Np.vr, Np.cst, jCu, jCg, Np.bnd_ok]
  rw [qAn ht.at', W_ok]
  exact one_src ht.at' (by rw [hlen]; omega)
 ·intro i x z S' hx hz l
  obtain ⟨a, b, ha, hb, rfl⟩ := qB3 hx
  obtain ⟨y, hy, rfl⟩ := qBk hz
  rw [jBu] at hy
  cases e : P[i]? with
  | none => rw [e] at hy; cases hy
  | some p =>
   rw [e] at hy
   cases hy
   simp_all [tix0]
   exact amount_w (l.lst hr) (l.lst (ht.left i a p ha e)) (l.lst hc) h1 (hP p (zK e)) h3 hw lr (lP p (zK e)) lq hB1 hB2 (by omega)
 have ra : RowA S1 am (P.map fun l => amtR row l ws) := ra
 refine qAx (comp_to (base := [some (.ref r), some (.ref t), some (.ref c), some (.ref am), none, none]) _ (qBh _) (src := .one t) (xs := jDk (fun a b => D.tup [.ref a, .ref b]) as bs) (zs := as.map D.ref) (by simp only [Np.itA, Np.itE, Np.yF, Np.aConsK, Np.aNil, Np.consK, Np.vr, Np.cst, jCu, jCg, Np.bnd_ok]; exact qAn (l1.lst ht.at')) (Has.one (l1.lst ht.at')) (by rw [qAk (l1.lst ht.at'), hlen]; omega) (fun _ _ => trivial) (by rw [hlen]; simp [ht.la]) fun i x z hx hz => ?_) fun S2 tl l2 n2 r2 => ?_
 ·obtain ⟨a, b, ha, hb, rfl⟩ := qB3 hx
  obtain ⟨y, hy, rfl⟩ := qBk hz
  rw [ha] at hy
  cases hy
  refine W_eq ?_
  simp_all [tix0]
 have L2 := l1.trans l2
 have tab2 : TabR S2 tl as P := ⟨r2, ht.la, fun i a p h1 h2 => L2.lst (ht.left i a p h1 h2)⟩
 simp_all [qAe (L2.lst hr), jBd, h1]
 refine (mixed_w (k := n) tab2 (l2.lst ra) hP (by simp) lP lA hn (by rw [hk]; exact hB3)).mono ?_
 rintro d S3 ⟨nr, rfl, n3, l3, r3⟩
 have L3 := L2.trans l3
 refine W_compT (base := [some (.ref r), some (.ref t), some (.ref c), some (.ref am), some (.ref nr), none]) _ (jDk (fun a b => D.tup [.ref a, .ref b]) as bs) (H.map fun sh => molR sh k) _ (qBh _) (fun _ _ => trivial) (by rw [hlen]; simp [ht.lh]) ?_ ?_ fun S4 ml mls l4 f4 => ?_
 ·simp only [Np.itA, Np.itE, Np.yF, Np.aConsK, Np.aNil, Np.consK, Np.vr, Np.cst, jCu, jCg, Np.bnd_ok]
  rw [qAn (L3.lst ht.at'), W_ok]
  exact one_src (L3.lst ht.at') (by rw [hlen]; omega)
 ·intro i x rr S' hx hrr l
  obtain ⟨a, b, ha, hb, rfl⟩ := qB3 hx
  rw [jBu] at hrr
  cases e : H[i]? with
  | none => rw [e] at hrr; cases hrr
  | some sh =>
   rw [e] at hrr
   cases hrr
   have hi : i < P.length := by rw [<- ht.lh]; exact (jAr.mp e).1
   simp_all [tix1, qAe ((L3.trans l).lst ht.at'), hlen, hk]
   exact qCy ((L3.trans l).lst (ht.shs i b sh hb e)) (by rw [hH i sh e]; omega) hk2 (lH sh (zK e)) hV fun S'' b' l' n' r' => ⟨b', rfl, n', l', r'⟩
 have L4 := L3.trans l4
 simp_all [qAe (L4.lst ht.at'), hlen, hk]
 have hMw : Wide (H.map fun sh => molR sh k) k := fun x hx => by
  obtain ⟨sh, hsh, rfl⟩ := jCe.mp hx
  obtain ⟨i, hi⟩ := jD3 hsh
  have hil : i < P.length := by rw [<- ht.lh]; exact (jAr.mp hi).1
  exact qBi (by rw [hH i sh hi]; omega)
 refine (mixed_w (k := k) f4.tab ((l2.trans (l3.trans l4)).lst ra) hMw (by simp [ht.lh]) lM lA hk2 (by rw [jBd, ht.lh, hk]; exact hB3)).mono ?_
 rintro d S5 ⟨sr, rfl, n5, l5, r5⟩
 have L5 := L4.trans l5
 have hnear : ∀ x ∈ mixR P (P.map fun l => amtR row l ws) n, sm x := fun x hx => by
  have hn0 : 0 < n := by
   rcases jC2 n with h | h
   ·have := qA1 (ss := P.map fun l => amtR row l ws) hP
    rw [h, jD0] at this
    rw [h, this] at hx
    cases hx
   ·exact h
  refine (le_mix hn0 lP lA x hx).sm ?_
  rw [hk]
  rw [jDt] at hB3
  omega
 have hm : m <= 20000000 := by
  have : m + V + q + 1 <= (m + V + q + 1) * (n + 1) := jDw _ (by omega)
  omega
 refine qAx (taken_eq (L5.lst hr) ((l4.trans l5).lst r3) (by omega) (sm_of lr (by omega)) hnear) fun S6 lf l6 n6 r6 => ?_
 have q2 := L2.len
 have q5 := L5.len
 have q5' := qAd r5
 have q3 := L3.len
 have q4 := L4.len
 exact fin S6 lf sr (L5.trans l6) (by omega) (by omega) (by omega) r6 (l6.lst r5)
structure Gst where
 P : List (List Rat)
 H : List (List Rat)
def gsStep (ws : List Rat) (s : Gst) (row : List Rat) : Gst :=
 ⟨s.P ++ [subR row (mixR s.P (s.P.map fun l => amtR row l ws) row.length)], s.H ++ [mixR (s.H.map fun sh => molR sh s.P.length) (s.P.map fun l => amtR row l ws) s.P.length]⟩
def gsR (rows : List (List Rat)) (ws : List Rat) : Gst := rows.foldl (gsStep ws) ⟨[], []⟩
theorem qFy {rows : List (List Rat)} {ws : List Rat} {i : Nat} {row : List Rat} (h : rows[i]? = some row) : gsR (rows.take (i + 1)) ws = gsStep ws (gsR (rows.take i) ws) row := by
 unfold gsR
 rw [jDo, h, List.foldl_append]
 rfl
theorem qAp (ws : List Rat) : ∀ rows : List (List Rat), (gsR rows ws).P.length = rows.length /\ (gsR rows ws).H.length = rows.length := by
 intro rows
 have h : ∀ i, i <= rows.length -> (gsR (rows.take i) ws).P.length = i /\ (gsR (rows.take i) ws).H.length = i := by
  intro i
  induction i with
  | zero => intro _; exact ⟨rfl, rfl⟩
  | succ i ih =>
   intro hi
   obtain ⟨row, hrow⟩ := zQ (show i < rows.length by omega)
   obtain ⟨h1, h2⟩ := ih (by omega)
   rw [qFy hrow]
   simp [gsStep, h1, h2]
 have := h rows.length (jAx _)
 rwa [jDp] at this
theorem gsR_pre (ws : List Rat) (rows : List (List Rat)) : ∀ j, i <= j -> j <= rows.length -> (gsR (rows.take j) ws).P.take i = (gsR (rows.take i) ws).P /\ (gsR (rows.take j) ws).H.take i = (gsR (rows.take i) ws).H := by
 intro j
 induction j with
 | zero =>
  intro h _
  rw [show i = 0 by omega]
  exact ⟨rfl, rfl⟩
 | succ j ih =>
  intro h hj
  by_cases e : i = j + 1
  ·subst e
   obtain ⟨h1, h2⟩ := qAp ws (rows.take (j + 1))
   have : (rows.take (j + 1)).length = j + 1 := by simp; omega
   exact ⟨jD1 (by omega), jD1 (by omega)⟩
  ·obtain ⟨row, hrow⟩ := zQ (show j < rows.length by omega)
   obtain ⟨h1, h2⟩ := ih (by omega) (by omega)
   obtain ⟨g1, g2⟩ := qAp ws (rows.take j)
   have hl : (rows.take j).length = j := by simp; omega
   rw [qFy hrow]
   simp only [gsStep]
   rw [jEk (by omega), jEk (by omega)]
   exact ⟨h1, h2⟩
theorem qFa (h : rows[k]? = some row) :
  (gsR rows ws).P[k]? = some (subR row (mixR ((gsR rows ws).P.take k) (((gsR rows ws).P.take k).map fun l => amtR row l ws) row.length)) /\
  (gsR rows ws).H[k]? = some (mixR (((gsR rows ws).H.take k).map fun sh => molR sh k) (((gsR rows ws).P.take k).map fun l => amtR row l ws) k) := by
 have hk : k < rows.length := (jAr.mp h).1
 have p1 := gsR_pre ws rows (i := k + 1) rows.length (by omega) (jAx _)
 have p0 := gsR_pre ws rows (i := k) rows.length (by omega) (jAx _)
 rw [jDp] at p1 p0
 obtain ⟨g1, g2⟩ := qAp ws (rows.take k)
 have hl : (rows.take k).length = k := by simp; omega
 rw [hl] at g1 g2
 have e := qFy (ws := ws) h
 have eP : (gsR rows ws).P[k]? = (gsR (rows.take (k + 1)) ws).P[k]? := by rw [<- p1.1, jD2, if_pos (by omega)]
 have eH : (gsR rows ws).H[k]? = (gsR (rows.take (k + 1)) ws).H[k]? := by rw [<- p1.2, jD2, if_pos (by omega)]
 rw [eP, eH, e, p0.1, p0.2]
 simp only [gsStep]
 rw [jBr (by omega), jBr (by omega), g1, g2]
 simp
theorem getD_sub (h : xs.length = ys.length) (j : Nat) : (subR xs ys).getD j 0 = xs.getD j 0 - ys.getD j 0 := by
 simp only [subR, jD7, jDl]
 by_cases hj : j < xs.length
 ·simp [jEl hj, jEl (show j < ys.length by omega)]
 ·simp [jCy (show xs.length <= j by omega), jCy (show ys.length <= j by omega)]
  grind
theorem qF1 {xs : List Rat} {j : Nat} (h : xs.length <= j) : xs.getD j 0 = 0 := by
 rw [jD7, jCy h]; rfl
theorem qF4 {T : List (List Rat)} {n i c : Nat} (hw : Wide T n) (hc : n <= c) : ent T i c = 0 := by
 rw [qEr]
 by_cases h : i < T.length
 ·exact qF1 (by rw [qFm hw h]; exact hc)
 ·rw [qCg (by omega)]; rfl
theorem qE4 {T : List (List Rat)} {i k : Nat} (h : i < k) : zR (T.take k) i = zR T i := by
 simp [zR, jD2, h]
theorem ent_take {T : List (List Rat)} {i k : Nat} (h : i < k) (c : Nat) : ent (T.take k) i c = ent T i c := by rw [qEr, qEr, qE4 h]
section
variable {rows : List (List Rat)} {ws : List Rat} {n : Nat}
theorem qCa (hR : Wide rows n) : Wide (gsR rows ws).P n := fun r hr => by
 obtain ⟨k, hk⟩ := jD3 hr
 have hl : k < rows.length := by rw [<- (qAp ws rows).1]; exact (jAr.mp hk).1
 revert hk r
 induction k using jEd with
 | _ k ih =>
  intro r hr hk
  obtain ⟨row, hrow⟩ := zQ hl
  rw [(qFa hrow).1] at hk
  cases hk
  have hrl : row.length = n := hR row (zK hrow)
  have : (mixR ((gsR rows ws).P.take k) (((gsR rows ws).P.take k).map fun l => amtR row l ws) row.length).length = row.length := qA1 fun x hx => by
   obtain ⟨i, hi⟩ := jD3 hx
   rw [jD2] at hi
   split at hi
   ·rename_i hik
    rw [hrl]
    exact ih i hik (by omega) x (jDu hx) hi
   ·cases hi
  simp only [subR, jDm, this]
  omega
theorem qCb {i : Nat} {sh : List Rat} (h : (gsR rows ws).H[i]? = some sh) : sh.length = i := by
 have hl : i < rows.length := by rw [<- (qAp ws rows).2]; exact (jAr.mp h).1
 revert h sh
 induction i using jEd with
 | _ i ih =>
  intro sh h
  obtain ⟨row, hrow⟩ := zQ hl
  rw [(qFa hrow).2] at h
  cases h
  refine qA1 fun x hx => ?_
  obtain ⟨s, hs, rfl⟩ := jCe.mp hx
  obtain ⟨j, hj⟩ := jD3 hs
  rw [jD2] at hj
  split at hj
  ·rename_i hji
   exact qBi (by rw [ih j hji (by omega) hj]; omega)
  ·cases hj
def gsA (rows : List (List Rat)) (ws : List Rat) (k j : Nat) : Rat := amtR (zR rows k) (zR (gsR rows ws).P j) ws
theorem amts_get (hrow : rows[k]? = some row) (hj : j < k) : (((gsR rows ws).P.take k).map fun l => amtR row l ws).getD j 0 = gsA rows ws k j := by
 have hk : k < rows.length := (jAr.mp hrow).1
 have hl := (qAp ws rows).1
 obtain ⟨l, hl⟩ := zQ (xs := (gsR rows ws).P) (i := j) (by omega)
 rw [jD7, jBu, jD2, if_pos hj, hl]
 unfold gsA
 rw [yB hrow, yB hl]
 rfl
theorem gs_L (hR : Wide rows n) {k : Nat} (hk : k < rows.length) (c : Nat) : ent (gsR rows ws).P k c = ent rows k c - Sg k fun j => ent (gsR rows ws).P j c * gsA rows ws k j := by
 obtain ⟨row, hrow⟩ := zQ hk
 have hrl : row.length = n := hR row (zK hrow)
 have hPw := qCa (ws := ws) hR
 have hPl := (qAp ws rows).1
 by_cases hc : c < n
 ·have htw : Wide ((gsR rows ws).P.take k) n := fun x hx => hPw x (jDu hx)
  have hml : (mixR ((gsR rows ws).P.take k) (((gsR rows ws).P.take k).map fun l => amtR row l ws) row.length).length = n := by rw [hrl]; exact qA1 htw
  rw [qCc (qFa (ws := ws) hrow).1, qCc hrow, getD_sub (by omega), hrl, mix_ent htw hc (by simp)]
  congr 1
  rw [jBq, Nat.min_eq_left (by omega)]
  refine zM fun j hj => ?_
  rw [ent_take hj, amts_get hrow hj]
 ·rw [qF4 hPw (by omega), qF4 hR (by omega), zM (g := fun _ => 0) fun j _ => by rw [qF4 hPw (by omega)]; grind, qEu]
  grind
theorem ent_H0 {i j : Nat} (h : i <= j) : ent (gsR rows ws).H i j = 0 := by
 rw [qEr]
 by_cases hi : i < (gsR rows ws).H.length
 ·obtain ⟨sh, hsh⟩ := zQ hi
  rw [yB hsh]
  exact qF1 (by rw [qCb hsh]; exact h)
 ·rw [qCg (by omega)]; rfl
theorem gs_H {k : Nat} (hk : k < rows.length) (j' : Nat) : ent (gsR rows ws).H k j' = Sg k fun j => ((if j' = j then 1 else 0) - ent (gsR rows ws).H j j') * gsA rows ws k j := by
 obtain ⟨row, hrow⟩ := zQ hk
 have hPl := (qAp ws rows).1
 have hHl := (qAp ws rows).2
 by_cases hj' : j' < k
 ·have hmw : Wide (((gsR rows ws).H.take k).map fun sh => molR sh k) k := fun x hx => by
   obtain ⟨s, hs, rfl⟩ := jCe.mp hx
   obtain ⟨j, hj⟩ := jD3 hs
   rw [jD2] at hj
   split at hj
   ·exact qBi (by rw [qCb hj]; omega)
   ·cases hj
  rw [qCc (qFa (ws := ws) hrow).2, mix_ent hmw hj' (by simp [hPl, hHl])]
  rw [jBd, jBq, Nat.min_eq_left (by omega)]
  refine zM fun j hj => ?_
  rw [amts_get hrow hj]
  congr 1
  obtain ⟨sh, hsh⟩ := zQ (xs := (gsR rows ws).H) (i := j) (by omega)
  rw [qCc (r := molR sh k) (by rw [jBu, jD2, if_pos hj, hsh]; rfl), qCc hsh, molR_get (by rw [qCb hsh]; omega) j' hj', qCb hsh]
 ·rw [ent_H0 (by omega), zM (g := fun _ => 0) fun j hj => by rw [if_neg (by omega), ent_H0 (by omega)]; grind, qEu]
theorem gs_A (hR : Wide rows n) (hw : ws.length = n) (hp : ∀ c, c < n -> 0 < Vf ws c) (hk : k < rows.length) (hj : j < rows.length) : AmtIs n (Vf ws) (fun c => ent rows k c) (fun c => ent (gsR rows ws).P j c) (gsA rows ws k j) := by
 have hPl := (qAp ws rows).1
 exact amtR_is (qFm hR hk) (qFm (qCa (ws := ws) hR) (by omega)) hw hp
def gX (rows : List (List Rat)) (ws : List Rat) (n k c : Nat) : Rat := if c < n then ent (gsR rows ws).P k c else (if c - n = k then 1 else 0) - ent (gsR rows ws).H k (c - n)
def gY (rows : List (List Rat)) (n k c : Nat) : Rat := if c < n then ent rows k c else if c - n = k then 1 else 0
theorem cd_Y (hR : Wide rows n) (hb : LeT b rows) (k : Nat) : Cd (b * n + 1) (gY rows n k) := by
 have h : Cd (b * n + 1) (fun c => ent rows k c) := by
  by_cases hk : k < rows.length
  ·have := qGa (xs := zR rows k) (b := b) (rows_leT hb k)
   rw [qFm hR hk] at this
   exact this
  ·have h0 : Cd (b * n + 1) fun c => ([] : List Rat).getD c 0 := (qGa (xs := []) (b := b) fun _ h => (by cases h)).mono (by simp)
   have e : (fun c => ent rows k c) = fun c => ([] : List Rat).getD c 0 := by
    funext c
    rw [ent_none (by omega)]; rfl
   rw [e]
   exact h0
 obtain ⟨D, z, ⟨h1, h2⟩, h3⟩ := h
 refine ⟨D, fun c => if c < n then z c else if c - n = k then D else 0, ⟨h1, h2⟩, fun c => ?_⟩
 unfold gY
 by_cases hc : c < n
 ·simp only [hc, if_true]
  exact h3 c
 ·simp only [hc, if_false]
  split
  ·exact ⟨by rw [Rat.one_mul], h2⟩
  ·exact ⟨by rw [jD6]; rfl, jDc _⟩
theorem gs_bd {b q s : Nat} (hR : Wide rows n) (hw : ws.length = n) (hp : ∀ c, c < n -> 0 < Vf ws c) (hb : LeT b rows) (hq : ∀ x ∈ ws, Le q x) (hs : n <= 2 ^ s) :
  ∀ k, k < rows.length -> Cd (b * n + 1 + vt (b * n + 1) (q * n + 1 + s + 1) k) (gX rows ws n k) /\ ∀ j, j < k -> Le (b * n + 1 + 2 * (b * n + 1 + vt (b * n + 1) (q * n + 1 + s + 1) j) + (q * n + 1 + s + 1)) (gsA rows ws k j) := by
 obtain ⟨Ω, ω, ⟨h1, h2⟩, h3⟩ := qGa hq
 rw [hw] at h2 h3
 have h0 : ∀ c, 0 <= ω c := fun c => by
  have e := (h3 c).1
  have hw0 : (0 : Rat) <= ws.getD c 0 := by
   by_cases hc : c < n
   ·have := hp c hc; grind
   ·rw [qF1 (by omega)]; exact Rat.le_refl
  have hO : (0 : Rat) <= (Ω : Rat) := Rat.intCast_nonneg.mpr (by omega)
  have := jD8 hw0 hO
  rw [e] at this
  exact Rat.intCast_nonneg.mp this
 refine cd_lefts (w := Vf ws) (Y := gY rows n) (X := gX rows ws n) (a := gsA rows ws) hs h1 h3 h0 (fun k _ => cd_Y hR hb k) (fun k hk c => ?_) (fun k j hk hj => ?_)
 ·unfold gX gY
  by_cases hc : c < n
  ·simp only [hc, if_true]
   exact gs_L hR hk c
  ·simp only [hc, if_false]
   rw [gs_H hk]
 ·have hA := gs_A hR hw hp hk (show j < rows.length by omega)
  have eY : ∀ c, c < n -> gY rows n k c = ent rows k c := fun c hc => by unfold gY; rw [if_pos hc]
  have eX : ∀ c, c < n -> gX rows ws n j c = ent (gsR rows ws).P j c := fun c hc => by unfold gX; rw [if_pos hc]
  rcases hA with ⟨g1, g2⟩ | ⟨g1, g2⟩
  ·exact .inl ⟨fun c hc => by rw [eX c hc]; exact g1 c hc, g2⟩
  ·refine .inr ⟨?_, ?_⟩
   ·rw [qDx eX eX]; exact g1
   ·rw [qDx eX eX, qDx eY eX]; exact g2
structure GB (rows : List (List Rat)) (ws : List Rat) (V A : Nat) : Prop where
 P : LeT V (gsR rows ws).P
 H : LeT V (gsR rows ws).H
 M : ∀ (i : Nat) sh long, (gsR rows ws).H[i]? = some sh -> i <= long -> ∀ x ∈ molR sh long, Le V x
 A : ∀ k j, k < rows.length -> j < k -> Le A (gsA rows ws k j)
theorem qFt {xs : List Rat} {x : Rat} (h : x ∈ xs) : ∃ c, c < xs.length /\ xs.getD c 0 = x := by
 obtain ⟨i, hi⟩ := jD3 h
 exact ⟨i, (jAr.mp hi).1, by simp [hi]⟩
theorem gs_GB {b q s V A : Nat} (hR : Wide rows n) (hw : ws.length = n) (hp : ∀ c, c < n -> 0 < Vf ws c) (hb : LeT b rows) (hq : ∀ x ∈ ws, Le q x) (hs : n <= 2 ^ s)
  (hV : b * n + 1 + vt (b * n + 1) (q * n + 1 + s + 1) (rows.length - 1) <= V) (hA : b * n + 1 + 2 * V + (q * n + 1 + s + 1) <= A) : GB rows ws V A := by
 have B := gs_bd hR hw hp hb hq hs
 have mono : ∀ k, k < rows.length -> b * n + 1 + vt (b * n + 1) (q * n + 1 + s + 1) k <= V := fun k hk => by
  have := qD2 (b * n + 1) (q * n + 1 + s + 1) (show k <= rows.length - 1 by omega)
  omega
 have X : ∀ k, k < rows.length -> ∀ c, Le V (gX rows ws n k c) := fun k hk c => ((B k hk).1.le c).mono (mono k hk)
 have hV0 : 0 < V := by omega
 have hPl := (qAp ws rows).1
 have hHl := (qAp ws rows).2
 have hM : ∀ (i : Nat) sh, (gsR rows ws).H[i]? = some sh -> ∀ j, Le V ((if j = i then 1 else 0) - sh.getD j 0) := fun i sh hi j => by
  have hil : i < rows.length := by rw [<- hHl]; exact (jAr.mp hi).1
  have := X i hil (n + j)
  unfold gX at this
  rw [if_neg (by omega), Nat.add_sub_cancel_left, qCc hi] at this
  exact this
 refine ⟨fun r hr x hx => ?_, fun sh hsh x hx => ?_, fun i sh long hi hl x hx => ?_, fun k j hk hj => ?_⟩
 ·obtain ⟨k, hk⟩ := jD3 hr
  have hkl : k < rows.length := by rw [<- hPl]; exact (jAr.mp hk).1
  obtain ⟨c, hc, rfl⟩ := qFt hx
  have := X k hkl c
  unfold gX at this
  rw [if_pos (by rw [<- qCa (ws := ws) hR r hr]; exact hc), qCc hk] at this
  exact this
 ·obtain ⟨k, hk⟩ := jD3 hsh
  obtain ⟨j, hj, rfl⟩ := qFt hx
  have := hM k sh hk j
  rw [qCb hk] at hj
  rw [if_neg (by omega)] at this
  have h2 := this.neg
  rw [show -(0 - sh.getD j 0) = sh.getD j 0 by grind] at h2
  exact h2
 ·obtain ⟨j, hj, rfl⟩ := qFt hx
  have hsl := qCb hi
  rw [qBi (by omega)] at hj
  rw [molR_get (by omega) j hj, hsl]
  exact hM i sh hi j
 ·refine ((B k hk).2 j hj).mono ?_
  have := mono j (by omega)
  omega
end
end Nm
end
section
namespace Nm
open Np PySem
theorem PtR.snoc (p : PtR S t as bs P H) (ha : RowA S a l) (hb : RowA S b h) (hat : a ≠ t) (hbt : b ≠ t) (h1 : ∀ x ∈ as, x ≠ t) (h2 : ∀ x ∈ bs, x ≠ t) (k : ∀ x, x ≠ t -> zH S' x = zH S x)
  (ht : zH S' t = some (jDk (fun a b => D.tup [.ref a, .ref b]) as bs ++ [.tup [.ref a, .ref b]])) : PtR S' t (as ++ [a]) (bs ++ [b]) (P ++ [l]) (H ++ [h]) := by
 have e : as.length = bs.length := by rw [p.la, p.lb]
 refine ⟨by rw [ht, List.zipWith_append e]; rfl, by simp [p.la], by simp [p.lb], by simp [p.lh], fun i x r hx hr => ?_, fun i x r hx hr => ?_⟩
 ·show zH S' x = _
  rcases qF0 hx with ⟨hi, hx⟩ | ⟨rfl, rfl⟩
  ·rw [jBt (by rw [<- p.la]; exact hi)] at hr
   rw [k x (h1 x (zK hx))]
   exact p.left i x r hx hr
  ·rw [p.la, jBr (jAx _)] at hr
   simp at hr
   subst hr
   rw [k x hat]
   exact ha
 ·show zH S' x = _
  rcases qF0 hx with ⟨hi, hx⟩ | ⟨rfl, rfl⟩
  ·rw [jBt (by rw [p.lh, <- p.lb]; exact hi)] at hr
   rw [k x (h2 x (zK hx))]
   exact p.shs i x r hx hr
  ·rw [p.lb, <- p.lh, jBr (jAx _)] at hr
   simp at hr
   subst hr
   rw [k x hbt]
   exact hb
theorem lefts_w (ht : TabR S t ts rows) (hc : RowA S c ws) (hR : Wide rows n) (hw : ws.length = n) (hp : ∀ c, c < n -> 0 < Vf ws c) (hb : LeT b rows) (hq : ∀ x ∈ ws, Le q x) (B : GB rows ws V A)
  (hB1 : (b + V + q + 1) * (n + 1) <= 20000000) (hB2 : (V + V + q + 1) * (n + 1) <= 20000000) (hB3 : (V + A + 1) * (rows.length + 1) <= 20000000) (hn : n < 1000000) (hk2 : rows.length < 1000000)
  (fin : ∀ S' t' as bs, SLe S S' -> S.length <= t' -> PtR S' t' as bs (gsR rows ws).P (gsR rows ws).H -> (∀ a ∈ as, S.length <= a /\ a ≠ t') -> (∀ a ∈ bs, S.length <= a /\ a ≠ t') -> Q (.ref t') S') : W (F.lefts [.ref t, .ref c] S) Q := by
 (unfold F.lefts; refine Np.W_fnF rfl ?_; unfold Den.lefts; simp_all [])
 refine qAx (qAz (by simp) _) fun S1 t' l1 n1 r1 => ?_
 simp_all [qAn (l1.lst ht.1)]
 have hPl := (qAp ws rows).1
 have hHl := (qAp ws rows).2
 have hPw := qCa (ws := ws) hR
 refine qDo (ts.map D.ref) (fun i δ S' => SLe S S' /\ ∃ as bs o, δ = [some (.ref t), some (.ref c), some (.ref t'), o] /\ PtR S' t' as bs ((gsR rows ws).P.take i) ((gsR rows ws).H.take i) /\ (∀ a ∈ as, S.length <= a /\ a ≠ t') /\ ∀ a ∈ bs, S.length <= a /\ a ≠ t') (by rw [qAk (l1.lst ht.1)]; exact jAx _)
  ⟨l1, [], [], _, rfl, ⟨r1, rfl, rfl, rfl, fun i a r h => (by simp at h), fun i a r h => (by simp at h)⟩, fun _ h => (by cases h), fun _ h => (by cases h)⟩ (fun i δ S' h => qBs (h.1.lst ht.1) i) ?_ ?_
 ·rintro i x δ S2 hx ⟨L, as, bs, o, rfl, pt, has, hbs⟩
  obtain ⟨rb, hrb, rfl⟩ := qBk hx
  have hi : i < rows.length := by rw [<- ht.2.1]; exact (jAr.mp hrb).1
  obtain ⟨row, hrow⟩ := zQ hi
  have hrl : row.length = n := hR row (zK hrow)
  have hPi : ((gsR rows ws).P.take i).length = i := by simp; omega
  obtain ⟨eP, eH⟩ := qFa (ws := ws) hrow
  simp_all [qAv pt.at']
  refine parted_w (n := n) (k := i) (m := b) (V := V) (A := A) (q := q) (L.lst (ht.2.2 i rb row hrb hrow)) pt (L.lst hc) hrl hw hp (fun r hr => hPw r (jDu hr)) (fun j sh hj => ?_) hPi (hb row (zK hrow)) (fun r hr => B.P r (jDu hr)) (fun r hr => B.H r (jDu hr)) (fun x hx => ?_) hq (fun r hr x hx => ?_) hB1 hB2 (jAj (jDv _ (by omega)) hB3) hn (by omega) fun S3 a b' l3 n3a n3b hab ra rb => ?_
  ·rw [jD2] at hj
   split at hj
   ·exact qCb hj
   ·cases hj
  ·obtain ⟨l, hl, rfl⟩ := jCe.mp hx
   obtain ⟨j, hj⟩ := jD3 hl
   rw [jD2] at hj
   split at hj
   ·rename_i hji
    have := B.A i j hi hji
    unfold gsA at this
    rw [yB hrow, yB hj] at this
    exact this
   ·cases hj
  ·obtain ⟨sh, hsh, rfl⟩ := jCe.mp hr
   obtain ⟨j, hj⟩ := jD3 hsh
   rw [jD2] at hj
   split at hj
   ·exact B.M j sh i hj (by omega) x hx
   ·cases hj
  ·have q1 := qAd pt.at'
   have qL := L.len
   refine W_app (l3.lst pt.at') (by rw [pt.len, hPi]; omega) fun S4 e4 k4 kne4 r4 => ?_
   have pt3 := pt.le l3
   refine ⟨k4 _ (L.trans l3) (by omega), as ++ [a], bs ++ [b'], _, rfl, ?_, fun x hx => ?_, fun x hx => ?_⟩
   ·rw [jDo, jDo, eP, eH, hrl]
    exact pt3.snoc ra rb (by omega) (by omega) (fun x hx => (has x hx).2) (fun x hx => (hbs x hx).2) kne4 r4
   ·rcases jAp.mp hx with h | h
    ·exact has x h
    ·rw [jCr.mp h]; exact ⟨by omega, by omega⟩
   ·rcases jAp.mp hx with h | h
    ·exact hbs x h
    ·rw [jCr.mp h]; exact ⟨by omega, by omega⟩
 ·rintro δ S2 ⟨L, as, bs, o, rfl, pt, has, hbs⟩
  simp_all []
  rw [jBd, ht.2.1, jD1 (by omega), jD1 (by omega)] at pt
  exact fin S2 t' as bs L n1 pt has hbs
theorem qDz (h : ∀ d ∈ xs, d = .bl true) : allB xs = some true := by
 have : xs = jBm xs.length (.bl true) := List.eq_replicate_iff.mpr ⟨rfl, h⟩
 rw [this]
 exact allB_true _
def Al2 (R : D -> D -> Prop) : List D -> List D -> Prop
 | [], [] => True
 | x :: xs, y :: ys => R x y /\ Al2 R xs ys
 | _, _ => False
theorem Al2.len {R : D -> D -> Prop} : ∀ {xs ys : List D}, Al2 R xs ys -> xs.length = ys.length
 | [], [], _ => rfl
 | _ :: _, _ :: _, h => by simp [Al2.len h.2]
 | [], _ :: _, h => h.elim
 | _ :: _, [], h => h.elim
theorem Al2.imp {R R' : D -> D -> Prop} (hi : ∀ x y, R x y -> R' x y) : ∀ {xs ys : List D}, Al2 R xs ys -> Al2 R' xs ys
 | [], [], _ => trivial
 | _ :: _, _ :: _, h => ⟨hi _ _ h.1, Al2.imp hi h.2⟩
 | [], _ :: _, h => h.elim
 | _ :: _, [], h => h.elim
theorem Al2.mem {R : D -> D -> Prop} : ∀ {xs ys : List D} {z : D}, Al2 R xs ys -> z ∈ qAy xs ys -> ∃ p q, z = .tup [p, q] /\ R p q
 | [], [], _, _, h => by simp [qAy] at h
 | x :: xs, y :: ys, z, h, hz => by
  rw [show qAy (x :: xs) (y :: ys) = .tup [x, y] :: qAy xs ys from rfl] at hz
  rcases jAo.mp hz with rfl | hz
  ·exact ⟨x, y, rfl, h.1⟩
  ·exact Al2.mem h.2 hz
 | [], _ :: _, _, h, _ => h.elim
 | _ :: _, [], _, h, _ => h.elim
theorem al2_map {α : Type} {R : D -> D -> Prop} {f g : α -> D} : ∀ {xs : List α}, (∀ x ∈ xs, R (f x) (g x)) -> Al2 R (xs.map f) (xs.map g)
 | [], _ => trivial
 | x :: xs, h => ⟨h x (.head _), al2_map fun y hy => h y (.tail _ hy)⟩
def Al (S : Sto) : Nat -> D -> D -> Prop
 | 0, _, _ => False
 | n + 1, x, y => (∃ i, x = .int i /\ y = .int i) \/ (∃ xs ys, x = .tup xs /\ y = .tup ys /\ xs.length <= 1000 /\ Al2 (Al S n) xs ys) \/ ∃ a b xs ys, x = .ref a /\ y = .ref b /\ zH S a = some xs /\ zH S b = some ys /\ xs.length <= 1000 /\ Al2 (Al S n) xs ys
theorem Al.mono (l : SLe S S') : ∀ {n : Nat} {x y : D}, Al S n x y -> Al S' n x y
 | 0, _, _, h => h.elim
 | n + 1, x, y, h => by
  rcases h with h | ⟨xs, ys, h1, h2, h3, h4⟩ | ⟨a, b, xs, ys, h1, h2, h3, h4, h5, h6⟩
  ·exact .inl h
  ·exact .inr (.inl ⟨xs, ys, h1, h2, h3, h4.imp fun _ _ h => Al.mono l h⟩)
  ·exact .inr (.inr ⟨a, b, xs, ys, h1, h2, l.lst h3, l.lst h4, h5, h6.imp fun _ _ h => Al.mono l h⟩)
theorem pairsD_eq : ∀ xs ys : List D, qA5 xs ys = qAy xs ys
 | [], _ => by simp [qA5, qAy]
 | _ :: _, [] => rfl
 | x :: xs, y :: ys => by rw [qA5, pairsD_eq xs ys]; rfl
theorem neD_same (i : Bool) (S : Sto) : neD (.bl i) (.bl i) S = ok (.bl false) S := by
 unfold neD; rw [rd_bl]; cases i <;> rfl
theorem isi_lst_int (i : Int) (S : Sto) : isiD .lst (.int i) S = ok (.bl false) S := rfl
theorem isi_tup_int (i : Int) (S : Sto) : isiD .tup (.int i) S = ok (.bl false) S := rfl
theorem isi_lst_tup (xs : List D) (S : Sto) : isiD .lst (.tup xs) S = ok (.bl false) S := rfl
theorem qEm (h : zH S a = some xs) : isiD .tup (.ref a) S = ok (.bl false) S := by
 unfold zH at h
 split at h
 ·rename_i e
  show (match (match S[a]? with | some (.lst _) => some false | some (.dct _) => some false | _ => none) with | some b => ok (D.bl b) S | none => none) = _
  rw [e]
 ·cases h
theorem zipLD_tup (xs ys : List D) (S : Sto) : zipLD [.tup xs, .tup ys] S = ok (.fix (qAy xs ys)) S := by rw [<- pairsD_eq]; rfl
theorem zipLD_ref (ha : zH S a = some xs) (hb : zH S b = some ys) : zipLD [.ref a, .ref b] S = ok (.two a b) S := qCt ha hb
theorem len_pairs (h : xs.length = ys.length) : (qAy xs ys).length = xs.length := by simp [qAy, h]
theorem qBd : ∀ {n : Nat} {x y : D} {S : Sto}, Al S n x y -> W (F.k52_alike n [x, y] S) fun d S' => d = .bl true /\ SLe S S'
 | 0, _, _, _, h => h.elim
 | n + 1, x, y, S, h => by
  show W (fnF 2 2 (Den.k52_alike (F.k52_alike n)) [x, y] S) _
  refine W_fnF rfl ?_
  unfold Den.k52_alike
  rcases h with ⟨i, rfl, rfl⟩ | ⟨xs, ys, rfl, rfl, hl, ha⟩ | ⟨a, b, xs, ys, rfl, rfl, h1, h2, hl, ha⟩
  ·simp_all [isi_lst_int, isi_tup_int]
   exact ⟨by simp, SLe.rfl⟩
  ·have e := ha.len
   have hle : (xs.length : Int) = (ys.length : Int) := by omega
   simp_all [isi_lst_tup, neD_same, hle]
   refine W_compX (base := [some (.tup xs), some (.tup ys)]) (k := 2) (fun x => [pr1 x, pr2 x]) (qAy xs ys) (fun _ d => d = .bl true) (fun x => ∃ p q, x = .tup [p, q]) (tg_two [some (.tup xs), some (.tup ys)]) (fun x hx => qCz hx) ?_ ?_ ?_
   ·simp_all [zipLD_tup]
    exact ⟨jAx _, by show (qAy xs ys).length <= _; rw [len_pairs e]; omega, SLe.rfl, fun _ _ _ => rfl⟩
   ·intro z S' hz l
    obtain ⟨p, q, rfl, hr⟩ := ha.mem hz
    simp_all [pr1, pr2]
    exact (qBd (hr.mono l)).mono fun d S'' h => h
   ·intro ds S' l hd he
    have : ∀ d ∈ ds, d = .bl true := fun d hm => by
     obtain ⟨i, hi, rfl⟩ := jDq hm
     exact he i ((qAy xs ys)[i]'(by omega)) _ (by simp) (by simp [hi])
    simp_all [qC4 (qAb S' ds) (qDz this)]
    exact ⟨trivial, l.push _⟩
  ·have e := ha.len
   have hle : (xs.length : Int) = (ys.length : Int) := by omega
   simp_all [qB1 h1, qB1 h2, qEm h1, qEm h2, neD_same, qAe h1, qAe h2, hle]
   refine W_compX (base := [some (.ref a), some (.ref b)]) (k := 2) (fun x => [pr1 x, pr2 x]) (qAy xs ys) (fun _ d => d = .bl true) (fun x => ∃ p q, x = .tup [p, q]) (tg_two [some (.ref a), some (.ref b)]) (fun x hx => qCz hx) ?_ ?_ ?_
   ·simp_all [zipLD_ref h1 h2]
    exact ⟨by rw [qCr h1, len_pairs e]; exact jAx _, by rw [qCr h1]; omega, SLe.rfl, fun i S'' l => qFz (l.lst h1) (l.lst h2) i⟩
   ·intro z S' hz l
    obtain ⟨p, q, rfl, hr⟩ := ha.mem hz
    simp_all [pr1, pr2]
    exact (qBd (hr.mono l)).mono fun d S'' h => h
   ·intro ds S' l hd he
    have : ∀ d ∈ ds, d = .bl true := fun d hm => by
     obtain ⟨i, hi, rfl⟩ := jDq hm
     exact he i ((qAy xs ys)[i]'(by omega)) _ (by simp) (by simp [hi])
    simp_all [qC4 (qAb S' ds) (qDz this)]
    exact ⟨trivial, l.push _⟩
theorem al_rat (S : Sto) (n : Nat) (q : Rat) : Al S (n + 2) (ratD q) (ratD q) := .inr (.inl ⟨_, _, rfl, rfl, by simp, ⟨.inl ⟨_, rfl, rfl⟩, .inl ⟨_, rfl, rfl⟩, trivial⟩⟩)
theorem al_row (n : Nat) (ha : RowA S a xs) (hb : RowA S b xs) (hl : xs.length <= 1000) : Al S (n + 3) (.ref a) (.ref b) := .inr (.inr ⟨a, b, _, _, rfl, rfl, ha, hb, by simpa using hl, al2_map fun x _ => al_rat S n x⟩)
def Bt (a : Nat) (S S' : Sto) : Prop := S.length <= S'.length /\ ∀ b, b < S.length -> b ≠ a -> S'[b]? = S[b]?
theorem _root_.Np.SLe.bt (h : SLe S S') (a : Nat) : Bt a S S' := ⟨h.len, fun _ hb _ => h.get hb⟩
theorem Bt.trans (h : Bt a S S') (k : Bt a S' S'') : Bt a S S'' := ⟨jAj h.1 k.1, fun b hb hn => by rw [k.2 b (jAd hb h.1) hn, h.2 b hb hn]⟩
theorem Bt.set (a : Nat) (o : O) : Bt a S (S.set a o) := ⟨by simp, fun b _ hn => jAt (Ne.symm hn)⟩
theorem Bt.lst (h : Bt a S S') (hn : b ≠ a) (e : zH S b = some xs) : zH S' b = some xs := by rw [qDv (h.2 b (qAd e) hn)]; exact e
theorem qFx (h : S'[a]? = S[a]?) : qAo S' a = qAo S a := by unfold qAo; rw [h]
theorem qCh (h : qAo S a = some (c, fs)) : a < S.length := (jAr.mp (qDc h)).1
theorem Bt.ins (h : Bt a S S') (hn : b ≠ a) (e : qAo S b = some (c, fs)) : qAo S' b = some (c, fs) := by rw [qFx (h.2 b (qCh e) hn)]; exact e
theorem _root_.Np.SLe.ins (h : SLe S S') (e : qAo S b = some (c, fs)) : qAo S' b = some (c, fs) := by rw [qFx (h.get (qCh e))]; exact e
theorem qAw (h : qAo S a = some (c, fs)) (k : zH S b = some xs) : a ≠ b := fun e => by
 subst e
 unfold zH at k
 rw [qDc h] at k
 cases k
structure Pt where
 num : Nat
 row : List Rat
 want : Rat
 wt : Rat
def ptD (x : Pt × Nat) : D := .tup [.int (x.1.num : Int), .ref x.2, ratD x.1.want, ratD x.1.wt]
def PtsA (S : Sto) (k : Nat) (q : List (Pt × Nat)) : Prop := zH S k = some (q.map ptD) /\ ∀ x ∈ q, RowA S x.2 x.1.row
theorem PtsA.mono (h : PtsA S k q) (l : SLe S S') : PtsA S' k q := ⟨l.lst h.1, fun x hx => l.lst (h.2 x hx)⟩
theorem PtsA.bt (h : PtsA S k q) (l : Bt a S S') (hk : k ≠ a) (hq : ∀ x ∈ q, x.2 ≠ a) : PtsA S' k q := ⟨l.lst hk h.1, fun x hx => l.lst (hq x hx) (h.2 x hx)⟩
abbrev plF (ss : Nat) : List (Str × D) := [(("states" : Str), .ref ss)]
abbrev stF (a b c : D) : List (Str × D) := [(("wide" : Str), a), (("laid" : Str), b), (("kept" : Str), c)]
structure Pl (S : Sto) (p ss st k : Nat) (xs : List D) (w l : Nat) (q : List (Pt × Nat)) : Prop where
 pl : qAo S p = some (("Plane" : Str), plF ss)
 sl : zH S ss = some (xs ++ [.ref st])
 st : qAo S st = some (("State" : Str), stF (.int (w : Int)) (.int (l : Int)) (.ref k))
 kp : PtsA S k q
theorem Pl.mono {S S' : Sto} {p ss st k : Nat} {xs : List D} {w l : Nat} {q : List (Pt × Nat)} (h : Pl S p ss st k xs w l q) (e : SLe S S') : Pl S' p ss st k xs w l q := ⟨e.ins h.pl, e.lst h.sl, e.ins h.st, h.kp.mono e⟩
theorem Pl.bt {S S' : Sto} {a p ss st k : Nat} {xs : List D} {w l : Nat} {q : List (Pt × Nat)} (h : Pl S p ss st k xs w l q) (e : Bt a S S') (h1 : p ≠ a) (h2 : ss ≠ a) (h3 : st ≠ a) (h4 : k ≠ a) (h5 : ∀ x ∈ q, x.2 ≠ a) : Pl S' p ss st k xs w l q := ⟨e.ins h1 h.pl, e.lst h2 h.sl, e.ins h3 h.st, h.kp.bt e h4 h5⟩
theorem qBc (h : qAo S a = some (c, fs)) (hl : fs.lookup f = some d) : fldD c f (.ref a) S = ok d S := by
 unfold fldD
 simp only [h, hl, if_true]
theorem qFs (h : qAo S a = some (c, fs)) (hl : fs.lookup m = none) : qEx c m Fm as δ (.ref a) S = bnd (as δ S) (qAr Fm (.ref a)) := by
 unfold qEx
 simp only [h, hl, and_self, if_true]
theorem ixD_last (h : zH S a = some (xs ++ [d])) : ixD (.ref a) (.int (-1)) S = ok d S := by
 show ixK (zH S a) (-1) S = _
 rw [h]
 have : ixA (xs ++ [d]).length (-1) = some xs.length := by
  unfold ixA
  rw [if_neg (by decide), if_pos (by simp; omega)]
  simp
  omega
 unfold ixK
 simp only [this, jDd]
 simp
section
variable {S : Sto} {p ss st k : Nat} {xs : List D} {w l : Nat} {q : List (Pt × Nat)}
theorem Pl.f1 (h : Pl S p ss st k xs w l q) : fldD "Plane" "states" (.ref p) S = ok (.ref ss) S := qBc h.pl rfl
theorem Pl.f2 (h : Pl S p ss st k xs w l q) : ixD (.ref ss) (.int (-1)) S = ok (.ref st) S := ixD_last h.sl
theorem Pl.f3 (h : Pl S p ss st k xs w l q) : fldD "State" "wide" (.ref st) S = ok (.int (w : Int)) S := qBc h.st rfl
theorem Pl.f4 (h : Pl S p ss st k xs w l q) : fldD "State" "laid" (.ref st) S = ok (.int (l : Int)) S := qBc h.st rfl
theorem Pl.f5 (h : Pl S p ss st k xs w l q) : fldD "State" "kept" (.ref st) S = ok (.ref k) S := qBc h.st rfl
theorem width_eq (h : Pl S p ss st k xs w l q) : F.Plane_width [.ref p] S = ok (.int (w : Int)) S := by
 refine W_eq ?_
 (unfold F.Plane_width; refine Np.W_fnF rfl ?_; unfold Den.Plane_width; simp_all [])
 simp_all [h.f1, h.f2, h.f3]
theorem qCf (a b c : D) (S : Sto) : mkA "State" F.State___init__ [a, b, c] S = ok (.ref S.length) (S ++ [.ins "State" (stF a b c)]) := by
 have e : F.State___init__ [.ref S.length, a, b, c] (S ++ [O.ins "State" []]) = ok .non (S ++ [.ins "State" (stF a b c)]) := by
  refine W_eq ?_
  have i0 : ∀ fs, qAo (S ++ [O.ins "State" fs]) S.length = some (("State" : Str), fs) := fun fs => by simp [qAo]
  have st : ∀ fs o, (S ++ [O.ins "State" fs]).set S.length o = S ++ [o] := fun fs o => by simp
  have sf : ∀ (f : Str) (v : D) (fs : List (Str × D)) (δ : DS), fs.length < 900 -> qFl "State" f v δ (.ref S.length) (S ++ [O.ins "State" fs]) = ok (.nx δ) (S ++ [O.ins "State" (putD f v fs)]) := fun f v fs δ hl => by
   unfold qFl
   simp only [i0]
   rw [if_pos ⟨trivial, hl⟩, st]
  unfold F.State___init__
  refine W_fnF rfl ?_
  unfold Den.State___init__
  have p1 : putD "wide" a [] = [(("wide" : Str), a)] := rfl
  have p2 : putD "laid" b [(("wide" : Str), a)] = [(("wide" : Str), a), (("laid" : Str), b)] := rfl
  have p3 : putD "kept" c [(("wide" : Str), a), (("laid" : Str), b)] = stF a b c := rfl
  simp_all [qBp, qFk, sf "wide" a [] _ (by decide), p1, sf "laid" b [(("wide" : Str), a)] _ (by simp), p2, sf "kept" c [(("wide" : Str), a), (("laid" : Str), b)] _ (by simp), p3]
 unfold mkA
 rw [e]
 rfl
theorem qDw (S : Sto) (c : Str) (fs : List (Str × D)) : qAo (S ++ [O.ins c fs]) S.length = some (c, fs) := by simp [qAo]
theorem qCn (S : Sto) : F.with_row [.tup [x, y, z, u], r] S = ok (.tup [x, r, z, u]) S := by
 refine W_eq ?_
 (unfold F.with_row; refine Np.W_fnF rfl ?_; unfold Den.with_row; simp_all [])
 simp_all [show ixD (.tup [x, y, z, u]) (.int 0) S = ok x S from rfl, show ixD (.tup [x, y, z, u]) (.int 2) S = ok z S from rfl, show ixD (.tup [x, y, z, u]) (.int 3) S = ok u S from rfl, show tupD [x, r, z, u] S = ok (.tup [x, r, z, u]) S from rfl]
theorem W_compP (vals : D -> List (Option D)) (xs : List D) (P : D -> Prop) (hP : ∀ x ∈ xs, P x) (hg : Tg g kk vals base P) (ts : List Pt) (hl : ts.length = xs.length)
  (hit : W (it base S) fun src S' => S' = S /\ xs.length <= src.len S /\ src.len S <= 1000000 /\ ∀ i S'', SLe S S'' -> src.get S'' i = some xs[i]?)
  (step : ∀ (i : Nat) x t S', xs[i]? = some x -> ts[i]? = some t -> SLe S S' -> W (e (base ++ vals x) S') fun d S'' => SLe S' S'' /\ ∃ c, S.length <= c /\ d = ptD (t, c) /\ RowA S'' c t.row)
  (fin : ∀ (q' : List (Pt × Nat)) S' c, SLe S S' -> S.length <= c -> PtsA S' c q' -> q'.map (·.1) = ts -> (∀ x ∈ q', S.length <= x.2) -> Q (.ref c) S') : W (qAj it kk g e base S) Q := by
 refine qCs vals xs (fun i acc S' => SLe S S' /\ ∃ q' : List (Pt × Nat), acc = q'.map ptD /\ q'.map (·.1) = ts.take i /\ ∀ x ∈ q', S.length <= x.2 /\ RowA S' x.2 x.1.row) P hP hg ?_ ?_ ?_
 ·refine hit.mono ?_
  rintro src S' ⟨rfl, h1, h2, h3⟩
  exact ⟨h1, h2, ⟨SLe.rfl, [], rfl, by simp, fun _ h => by cases h⟩, fun i acc S'' h => h3 i S'' h.1⟩
 ·rintro i x acc S' hx ha ⟨l1, q', rfl, hq, hr⟩
  have hi : i < ts.length := by rw [hl]; exact (jAr.mp hx).1
  have ht : ts[i]? = some ts[i] := jEl hi
  refine (step i x ts[i] S' hx ht l1).mono ?_
  rintro d S'' ⟨l2, c, hc, rfl, rc⟩
  refine ⟨l1.trans l2, q' ++ [(ts[i], c)], by simp, ?_, fun y hy => ?_⟩
  ·rw [jEj, hq, jDo, ht]
   rfl
  ·rcases jAp.mp hy with h | h
   ·exact ⟨(hr y h).1, l2.lst (hr y h).2⟩
   ·rw [jCr.mp h]
    exact ⟨hc, rc⟩
 ·rintro acc S' ⟨l1, q', rfl, hq, hr⟩ _
  rw [<- hl, jDp] at hq
  exact fin q' _ _ (l1.push _) l1.len ⟨qAb S' _, fun x hx => (SLe.rfl.push _).lst (hr x hx).2⟩ hq fun x hx => (hr x hx).1
end
end Nm
end
section
namespace Nm
open Np PySem
theorem row_ne (h : zH S ss = some (xs ++ [.ref st])) (k : zH S a = some ys) (hy : ∀ d ∈ ys, ∃ zs, d = .tup zs) : a ≠ ss := fun e => by
 subst e
 rw [h] at k
 have := Option.some.inj k
 obtain ⟨zs, q⟩ := hy (.ref st) (by rw [<- this]; simp)
 cases q
theorem qCw (xs : List Rat) : ∀ d ∈ xs.map ratD, ∃ zs, d = .tup zs := fun d h => by
 obtain ⟨q, _, rfl⟩ := jCe.mp h
 exact ⟨_, rfl⟩
theorem qD9 (q : List (Pt × Nat)) : ∀ d ∈ q.map ptD, ∃ zs, d = .tup zs := fun d h => by
 obtain ⟨x, _, rfl⟩ := jCe.mp h
 exact ⟨_, rfl⟩
theorem less52_eq (hp : sm p) (hq : sm q) (S : Sto) : F.less [ratD p, ratD q] S = ok (.bl (decide (p.num * (q.den : Int) < q.num * (p.den : Int)))) S := by
 refine W_eq ?_
 (unfold F.less; refine Np.W_fnF rfl ?_; unfold Den.less; simp_all [])
 simp_all [qAf (hp.nd hq), qAf (hq.nd hp)]
theorem qDa {w : Nat} (h : w <= 12) (S : Sto) : F.is_wide [.int (w : Int)] S = ok (.bl true) S := by
 refine W_eq ?_
 (unfold F.is_wide; refine Np.W_fnF rfl ?_; unfold Den.is_wide; simp_all [])
 have h1 : (0 : Int) <= (w : Int) := by omega
 have h2 : (w : Int) <= 12 := by omega
 simp_all [qD1, h1, h2]
theorem is_weight_eq (hq : sm q) (h : 0 < q.num) (S : Sto) : F.is_weight [ratD q] S = ok (.bl true) S := by
 refine W_eq ?_
 (unfold F.is_weight; refine Np.W_fnF rfl ?_; unfold Den.is_weight; simp_all [])
 have h0 : sm 0 := ⟨by decide, by decide⟩
 have h1 : (0 : Rat).num * (q.den : Int) < q.num * ((0 : Rat).den : Int) := by
  rw [show (0 : Rat).num = 0 from rfl, show (0 : Rat).den = 1 from rfl]
  omega
 simp_all [qB9, rat0, less52_eq h0 hq, h1]
theorem is_rowR_w (ha : RowA S a xs) (hl : xs.length <= 1000) : W (F.is_row [.ref a, .int (xs.length : Int)] S) fun d S' => d = .bl true /\ SLe S S' := by
 (unfold F.is_row; refine Np.W_fnF rfl ?_; unfold Den.is_row; simp_all [])
 have c1 := qF7 (base := [some (.ref a), some (.int (xs.length : Int))]) (it := itE itL (vr 0)) (e := fnE F.is_ratio (yF (vr 2) aNil)) (g := fun _ => .bl true) (by simp only [Np.itA, Np.itE, Np.yF, Np.aConsK, Np.aNil, Np.consK, Np.vr, Np.cst, jCu, jCg, Np.bnd_ok]; exact qAn ha) ha (by omega) fun x hx => by
  simp only [jDe, jCa]
  unfold fnE yF aNil aConsK consK vr
  simp only [jCu, jCg, bnd_ok]
  exact qB9 x S
 simp only [jA7, jCq, jDf] at c1
 simp_all [qB1 ha, qAe ha, jBd, c1, qC4 (qAb S _) (qDz (xs := xs.map fun _ => D.bl true) fun d hd => by obtain ⟨_, _, rfl⟩ := jCe.mp hd; rfl)]
 exact ⟨trivial, SLe.app _⟩
theorem qDb (ha : RowA S a xs) (hl : xs.length <= 1000) (hq : sm wt) (h : 0 < wt.num) : W (F.is_point [.tup [.ref a, ratD want, ratD wt], .int (xs.length : Int)] S) fun d S' => d = .bl true /\ SLe S S' := by
 (unfold F.is_point; refine Np.W_fnF rfl ?_; unfold Den.is_point; simp_all [])
 simp_all [show (((3 : Nat) : Int) = 3) from rfl, tix0, tix1, tix2]
 refine (is_rowR_w ha hl).mono ?_
 rintro d S' ⟨rfl, l⟩
 simp_all [qB9, is_weight_eq hq h, tix1, tix2]
 exact ⟨trivial, l⟩
section
variable {S : Sto} {p ss st k : Nat} {xs : List D} {w l : Nat} {q : List (Pt × Nat)}
def Nx (S S' : Sto) (p ss st : Nat) (xs : List D) (q : List (Pt × Nat)) (w' l' : Nat) (ts : List Pt) : Prop :=
 ∃ st' k' q', Bt ss S S' /\ Pl S' p ss st' k' (xs ++ [.ref st]) w' l' q' /\ S.length <= st' /\ S.length <= k' /\ (∀ x ∈ q', S.length <= x.2 \/ ∃ y ∈ q, y.2 = x.2) /\ q'.map (·.1) = ts
theorem Pl.next (h : Pl S p ss st k xs w l q) (l2 : SLe S S2) (hk : PtsA S2 k' q') (n1 : S.length <= k') (n2 : ∀ x ∈ q', S.length <= x.2 \/ ∃ y ∈ q, y.2 = x.2) (e : q'.map (·.1) = ts) (hx : xs.length < 900000) (fin : ∀ S', Nx S S' p ss st xs q w' l' ts -> Q .non S') :
  W (appD (.ref ss) (.ref S2.length) (S2 ++ [O.ins "State" (stF (.int (w' : Int)) (.int (l' : Int)) (.ref k'))])) Q := by
 have l3 : SLe S2 (S2 ++ [O.ins "State" (stF (.int (w' : Int)) (.int (l' : Int)) (.ref k'))]) := SLe.app _
 have h3 := h.mono (l2.trans l3)
 have hk3 := hk.mono l3
 refine W.intro (qGc _ h3.sl (by simp; omega)) (fin _ ⟨S2.length, k', q', ((l2.trans l3).bt ss).trans (Bt.set ss _), ⟨?_, qBj h3.sl, ?_, hk3.bt (Bt.set ss _) (row_ne h3.sl hk3.1 (qD9 _)) fun x hx => row_ne h3.sl (hk3.2 x hx) (qCw _)⟩, l2.len, n1, n2, e⟩)
 ·exact (Bt.set ss _).ins (qAw h3.pl h3.sl) h3.pl
 ·have := qDw S2 "State" (stF (.int (w' : Int)) (.int (l' : Int)) (.ref k'))
  exact (Bt.set ss _).ins (qAw this h3.sl) this
theorem tix4_0 (x y z u : D) (S : Sto) : ixD (.tup [x, y, z, u]) (.int 0) S = ok x S := rfl
theorem qE2 (x y z u : D) (S : Sto) : ixD (.tup [x, y, z, u]) (.int 1) S = ok y S := rfl
theorem qEh {i : Nat} {x : D} (hx : (q.map ptD)[i]? = some x) : ∃ y, q[i]? = some y /\ x = ptD y := by
 rw [jBu] at hx
 cases e : q[i]? with
 | none => rw [e] at hx; cases hx
 | some y => rw [e] at hx; exact ⟨y, rfl, (Option.some.inj hx).symm⟩
theorem points_w (h : Pl S p ss st k xs w l q) (hl : q.length <= 1000) : W (F.Plane_points [.ref p] S) fun d S' => ∃ c q', d = .ref c /\ SLe S S' /\ PtsA S' c q' /\ q'.map (·.1) = q.map (·.1) /\ S.length <= c /\ ∀ x ∈ q', S.length <= x.2 := by
 (unfold F.Plane_points; refine Np.W_fnF rfl ?_; unfold Den.Plane_points; simp_all [])
 refine W_compP (base := [some (.ref p)]) (kk := 1) (fun x => [some x]) (q.map ptD) (fun _ => True) (fun _ _ => trivial) (qBh [some (.ref p)]) (q.map (·.1)) (by simp) ?_ ?_ ?_
 ·simp_all [h.f1, h.f2, h.f5, qAn h.kp.1]
  exact ⟨trivial, by rw [qAk h.kp.1]; exact jAx _, by rw [qAk h.kp.1]; simp; omega, fun i S'' l => qBs (l.lst h.kp.1) i⟩
 ·intro i x t S' hx ht lS
  obtain ⟨y, hy, rfl⟩ := qEh hx
  rw [jBu, hy] at ht
  obtain rfl : y.1 = t := Option.some.inj ht
  have hr := lS.lst (h.kp.2 y (jBv hy))
  unfold ptD
  simp_all [qE2, qA9 hr, qCn]
  exact ⟨SLe.app _, S'.length, lS.len, rfl, qAb S' _⟩
 ·intro q' S' c l1 n1 h1 h2 h3
  exact ⟨c, q', rfl, l1, h1, h2, n1, h3⟩
theorem lay_w (h : Pl S p ss st k xs w l q) (ha : RowA S a row) (hw : row.length = w) (hl : q.length <= 1000) (hw2 : w <= 12) (hx : xs.length < 900000) (hq : sm wt) (h0 : 0 < wt.num) (hd : x = .non /\ wt = 1 \/ x = ratD wt) :
  W (F.Plane_lay [.ref p, .ref a, ratD want, x] S) fun d S' => d = .int (l : Int) /\ Nx S S' p ss st xs q w (l + 1) (q.map (·.1) ++ [⟨l, row, want, wt⟩]) := by
 subst hw
 unfold F.Plane_lay
 refine W_fnF rfl ?_
 unfold Den.Plane_lay
 rcases hd with ⟨rfl, e⟩ | rfl
 ·simp_all [h.f1, h.f2, h.f4, tup3, h.f3, show (1 : Rat) = wt from e.symm]
  refine (qDb ha (by omega) hq h0).mono ?_
  rintro d S1 ⟨rfl, l1⟩
  simp_all [qA9 (l1.lst ha), tup4]
  generalize hS2 : S1 ++ [O.lst (List.map ratD row)] = S2
  have l2 : SLe S1 S2 := ⟨_, hS2.symm⟩
  have r2 : RowA S2 S1.length row := by rw [<- hS2]; exact qAb S1 _
  have h2 := h.mono (l1.trans l2)
  simp_all [h2.f1, qAv h2.sl, mkE, h2.f3, h2.f5, qAz]
  refine qAx (qAz (by simp) _) fun S3 b l3 n3 r3 => ?_
  have h3 := h2.mono l3
  refine qAx (addL h3.kp.1 r3 (by simp; omega)) fun S4 c l4 n4 r4 => ?_
  simp_all [qCf]
  have hL := (l1.trans l2).trans (l3.trans l4)
  have hL1 := l1.len
  have hL2 := l2.len
  have hL3 := l3.len
  refine (h.next (w' := row.length) (l' := l + 1) (ts := q.map (·.1) ++ [⟨l, row, want, wt⟩]) (q' := q ++ [(⟨l, row, want, wt⟩, S1.length)]) hL ⟨by rw [r4]; simp [ptD], fun x hx => ?_⟩ (by omega) (fun x hx => ?_) (by simp) hx fun S' hS' => ?_)
  ·rcases jAp.mp hx with hx | hx
   ·exact l4.lst (h3.kp.2 x hx)
   ·rw [jCr.mp hx]
    exact l4.lst (l3.lst r2)
  ·rcases jAp.mp hx with hx | hx
   ·exact .inr ⟨x, hx, rfl⟩
   ·rw [jCr.mp hx]
    exact .inl hL1
  ·exact ⟨trivial, hS'⟩
 ·simp_all [h.f1, h.f2, h.f4, tup3, h.f3]
  refine (qDb ha (by omega) hq h0).mono ?_
  rintro d S1 ⟨rfl, l1⟩
  simp_all [qA9 (l1.lst ha), tup4]
  generalize hS2 : S1 ++ [O.lst (List.map ratD row)] = S2
  have l2 : SLe S1 S2 := ⟨_, hS2.symm⟩
  have r2 : RowA S2 S1.length row := by rw [<- hS2]; exact qAb S1 _
  have h2 := h.mono (l1.trans l2)
  simp_all [h2.f1, qAv h2.sl, mkE, h2.f3, h2.f5, qAz]
  refine qAx (qAz (by simp) _) fun S3 b l3 n3 r3 => ?_
  have h3 := h2.mono l3
  refine qAx (addL h3.kp.1 r3 (by simp; omega)) fun S4 c l4 n4 r4 => ?_
  simp_all [qCf]
  have hL := (l1.trans l2).trans (l3.trans l4)
  have hL1 := l1.len
  have hL2 := l2.len
  have hL3 := l3.len
  refine (h.next (w' := row.length) (l' := l + 1) (ts := q.map (·.1) ++ [⟨l, row, want, wt⟩]) (q' := q ++ [(⟨l, row, want, wt⟩, S1.length)]) hL ⟨by rw [r4]; simp [ptD], fun x hx => ?_⟩ (by omega) (fun x hx => ?_) (by simp) hx fun S' hS' => ?_)
  ·rcases jAp.mp hx with hx | hx
   ·exact l4.lst (h3.kp.2 x hx)
   ·rw [jCr.mp hx]
    exact l4.lst (l3.lst r2)
  ·rcases jAp.mp hx with hx | hx
   ·exact .inr ⟨x, hx, rfl⟩
   ·rw [jCr.mp hx]
    exact .inl hL1
  ·exact ⟨trivial, hS'⟩
theorem compI_pure (vals : D -> List (Option D)) (hg : Tg g kk vals base P) (hit : it base S = ok src S) (hs : Has src S ys) (hl : src.len S <= 1000000) (hP : ∀ x ∈ ys, P x)
  (ht : ∀ x ∈ ys, t (base ++ vals x) S = ok (b x) S) (he : ∀ x ∈ ys, e (base ++ vals x) S = ok (f x) S) : qC1 it kk g t e base S = ok (.ref S.length) (S ++ [.lst ((ys.filter b).map f)]) := by
 have key : ∀ n i os, os.length = kk -> i <= ys.length -> ys.length <= i + n -> qAt src g t e n i (base ++ os) S = ok (((ys.drop i).filter b).map f) S := by
  intro n
  induction n with
  | zero =>
   intro i os ho hi hn
   unfold qAt
   rw [hs.2 i, jCy (by omega), jEm (by omega)]
   rfl
  | succ n ih =>
   intro i os ho hi hn
   unfold qAt
   rw [hs.2 i]
   by_cases h : i < ys.length
   ·have hx : ys[i] ∈ ys := jDs h
    obtain ⟨e1, e2⟩ := hg ys[i] os S ho (hP _ hx)
    rw [jEl h]
    show bnd (g ys[i] (base ++ os) S) (qFd t e (qAt src g t e n (i + 1))) = _
    rw [e1, bnd_ok]
    unfold qFd
    rw [ht _ hx, bnd_ok, jEn h]
    cases hb : b ys[i] with
    | true =>
     show bnd (e (base ++ vals ys[i]) S) (qC0 (qAt src g t e n (i + 1)) (base ++ vals ys[i])) = _
     rw [he _ hx, bnd_ok]
     unfold qC0
     rw [ih (i + 1) _ e2 h (by omega), bnd_ok, jEo, hb]
     rfl
    | false =>
     show qAt src g t e n (i + 1) (base ++ vals ys[i]) S = _
     rw [ih (i + 1) _ e2 h (by omega), jEo, hb]
     rfl
   ·rw [jCy (by omega), jEm (by omega)]
    rfl
 unfold qC1
 rw [hit, bnd_ok]
 unfold compIL
 have hl1 := hs.1
 rw [if_pos hl, key _ 0 _ (by simp) (jBg _) (by omega), List.drop_zero]
 rfl
def numB (n : Int) : D -> Bool
 | .tup (.int i :: _) => !decide (i = n)
 | _ => false
def numD : D -> D
 | .tup (x :: _) => x
 | x => x
theorem qFc (n : Nat) : ∀ q : List (Pt × Nat), ((q.map ptD).filter (numB n)) = (q.filter fun x => decide (x.1.num ≠ n)).map ptD
 | [] => rfl
 | x :: q => by
  have e : numB n (ptD x) = decide (x.1.num ≠ n) := by
   show (!decide ((x.1.num : Int) = (n : Int))) = _
   by_cases h : x.1.num = n
   ·simp [h]
   ·have : ¬ (x.1.num : Int) = (n : Int) := by omega
    simp [h, this]
  rw [jBb, jEo, jEo, qFc n q, e]
  split <;> rfl
theorem take_w (h : Pl S p ss st k xs w l q) {n : Nat} (hl : q.length <= 1000) (hx : xs.length < 900000) (hn : n ∈ q.map (·.1.num)) :
  W (F.Plane_take [.ref p, .int (n : Int)] S) fun d S' => Nx S S' p ss st xs q w l ((q.map (·.1)).filter fun t => decide (t.num ≠ n)) := by
 (unfold F.Plane_take; refine Np.W_fnF rfl ?_; unfold Den.Plane_take; simp_all [])
 have c1 : qAj (itE itL (op1 (fldD "State" "kept") (vr 2))) 1 (setG 4) (op2 ixD (vr 4) (cst (.int 0))) [some (.ref p), some (.int (n : Int)), some (.ref st), none] S = ok (.ref S.length) (S ++ [.lst ((q.map (·.1.num)).map natD)]) := by
  refine (qCd (fun x => [some x]) (xs := q.map ptD) (f := numD) (qBh [some (.ref p), some (.int (n : Int)), some (.ref st), none]) (src := .one k) (by simp only [itE, op1, vr, jCu, jCg, bnd_ok, h.f5, qAn h.kp.1]) (Has.one h.kp.1) (by rw [qAk h.kp.1]; simp; omega) (fun _ _ => trivial) fun x hx => by
   obtain ⟨y, _, rfl⟩ := jCe.mp hx
   rfl).trans ?_
  simp [jCh, Function.comp_def, numD, ptD, natD]
 simp_all [h.f1, h.f2, qD1, c1, notinD_nats (qAb S _), hn]
 generalize hS2 : S ++ [O.lst (List.map natD (List.map (fun x => x.fst.num) q))] = S2
 have l2 : SLe S S2 := ⟨_, hS2.symm⟩
 have h2 := h.mono l2
 have c2 : qC1 (itE itL (op1 (fldD "State" "kept") (vr 2))) 1 (setG 4) (tv (op2 neD (op2 ixD (vr 4) (cst (.int 0))) (vr 1))) (vr 4) [some (.ref p), some (.int (n : Int)), some (.ref st), none] S2 = ok (.ref S2.length) (S2 ++ [.lst ((q.filter fun x => decide (x.1.num ≠ n)).map ptD)]) := by
  refine (compI_pure (fun x => [some x]) (ys := q.map ptD) (b := numB n) (f := fun x => x) (qBh [some (.ref p), some (.int (n : Int)), some (.ref st), none]) (src := .one k) (by simp only [itE, op1, vr, jCu, jCg, bnd_ok, h2.f5, qAn h2.kp.1]) (Has.one h2.kp.1) (by rw [qAk h2.kp.1]; simp; omega) (fun _ _ => trivial) (fun x hx => by
   obtain ⟨y, _, rfl⟩ := jCe.mp hx
   simp only [tv, op2, op2K, vr, cst, jDe, jCa, jCu, jCg, bnd_ok, ptD, tix4_0, neD_int]
   rfl) (fun x hx => by
   obtain ⟨y, _, rfl⟩ := jCe.mp hx
   rfl)).trans ?_
  rw [List.map_id', qFc]
 simp_all [c2]
 generalize hS3 : S2 ++ [O.lst (List.map ptD (List.filter (fun x => decide (x.fst.num ≠ n)) q))] = S3
 have l3 : SLe S2 S3 := ⟨_, hS3.symm⟩
 have r3 : zH S3 S2.length = some ((q.filter fun x => decide (x.1.num ≠ n)).map ptD) := by rw [<- hS3]; exact qAb S2 _
 have h3 := h2.mono l3
 simp_all [h3.f1, qAv h3.sl, mkE, h3.f3, h3.f4, qCf]
 refine (h.next (w' := w) (l' := l) (ts := (q.map (·.1)).filter fun t => decide (t.num ≠ n)) (q' := q.filter fun x => decide (x.1.num ≠ n)) (l2.trans l3) ⟨r3, fun x hx => h3.kp.2 x (jAh.mp hx).1⟩ l2.len (fun x hx => .inr ⟨x, (jAh.mp hx).1, rfl⟩) ?_ hx fun S' hS' => hS')
 rw [List.filter_map]
 rfl
theorem cut_last (ys : List D) : cutD ys none (some (-1)) = ys.dropLast := by
 unfold cutD sIxD
 simp only [List.drop_zero, Nat.sub_zero]
 rw [if_pos (by decide), jCp]
 congr 1
 omega
theorem narrow_w (h : Pl S p ss st k xs (w + 1) l q) (hl : q.length <= 1000) (hx : xs.length < 900000) :
  W (F.Plane_narrow [.ref p] S) fun d S' => Nx S S' p ss st xs q w l ((q.map (·.1)).map fun t => { t with row := t.row.dropLast }) := by
 (unfold F.Plane_narrow; refine Np.W_fnF rfl ?_; unfold Den.Plane_narrow; simp_all [])
 have hw : ¬ (((w + 1 : Nat) : Int) = 0) := by omega
 simp_all [h.f1, h.f2, h.f3, hw]
 refine W_compP (base := [some (.ref p), some (.ref st), none]) (kk := 1) (fun x => [some x]) (q.map ptD) (fun _ => True) (fun _ _ => trivial) (qBh [some (.ref p), some (.ref st), none]) ((q.map (·.1)).map fun t => { t with row := t.row.dropLast }) (by simp) ?_ ?_ ?_
 ·simp_all [h.f5, qAn h.kp.1]
  exact ⟨trivial, by rw [qAk h.kp.1]; exact jAx _, by rw [qAk h.kp.1]; simp; omega, fun i S'' l => qBs (l.lst h.kp.1) i⟩
 ·intro i x t S' hx ht lS
  obtain ⟨y, hy, rfl⟩ := qEh hx
  rw [jBu, jBu, hy] at ht
  obtain rfl := Option.some.inj ht
  have hr := lS.lst (h.kp.2 y (jBv hy))
  unfold ptD
  simp_all [qE2, atPK_int, slD_ref hr, cut_last, qCn]
  exact ⟨SLe.app _, S'.length, lS.len, rfl, by show zH _ _ = _; rw [qAb, List.map_dropLast]⟩
 ·intro q' S2 c l2 n2 r2 hq' hn
  have h2 := h.mono l2
  have hw2 : (((w + 1 : Nat) : Int) - 1) = (w : Int) := by omega
  simp_all [h2.f1, qAv h2.sl, mkE, h2.f3, h2.f4, hw2, qCf]
  exact (h.next (w' := w) (l' := l) l2 r2 n2 (fun x hx => .inl (hn x hx)) hq' hx fun S' hS' => hS')
def widR (t : Pt) (c : Rat) : Pt := { t with row := t.row ++ [c] }
theorem pairs_get {ys zs : List D} {i : Nat} {x : D} (h : (qAy ys zs)[i]? = some x) : ∃ u v, ys[i]? = some u /\ zs[i]? = some v /\ x = .tup [u, v] := by
 unfold qAy at h
 rw [jDl] at h
 cases e1 : ys[i]? with
 | none => rw [e1] at h; cases h
 | some u =>
  cases e2 : zs[i]? with
  | none => rw [e1, e2] at h; cases h
  | some v =>
   rw [e1, e2] at h
   exact ⟨u, v, rfl, rfl, (Option.some.inj h).symm⟩
theorem widen_w (h : Pl S p ss st k xs w l q) {a : Nat} {cs : List Rat} (ha : RowA S a cs) (hc : cs.length = q.length) (hw : w < 12) (hr : ∀ x ∈ q, x.1.row.length <= 1000) (hl : q.length <= 1000) (hx : xs.length < 900000) :
  W (F.Plane_widen [.ref p, .ref a] S) fun d S' => Nx S S' p ss st xs q (w + 1) l (jDk widR (q.map (·.1)) cs) := by
 (unfold F.Plane_widen; refine Np.W_fnF rfl ?_; unfold Den.Plane_widen; simp_all [])
 have hw1 : ((w : Int) + 1) = ((w + 1 : Nat) : Int) := by omega
 simp_all [h.f1, h.f2, h.f3, hw1, qDa (show w + 1 <= 12 by omega), h.f5, qAe h.kp.1, jBd, <- hc]
 refine (is_rowR_w ha (by omega)).mono ?_
 rintro d S1 ⟨rfl, l1⟩
 have h1 := h.mono l1
 have ha1 : RowA S1 a cs := l1.lst ha
 simp_all []
 refine W_compP (base := [some (.ref p), some (.ref a), some (.ref st), none]) (kk := 2) (fun x => [pr1 x, pr2 x]) (qAy (q.map ptD) (cs.map ratD)) (fun x => ∃ p q, x = .tup [p, q]) (fun x hx => qCz hx) (tg_two [some (.ref p), some (.ref a), some (.ref st), none]) (jDk widR (q.map (·.1)) cs) (by simp [qAy]) ?_ ?_ ?_
 ·simp_all [h1.f5, qCt h1.kp.1 ha1]
  exact ⟨trivial, by rw [qCr h1.kp.1]; simp [qAy]; omega, by rw [qCr h1.kp.1]; simp; omega, fun i S'' l => qFz (l.lst h1.kp.1) (l.lst ha1) i⟩
 ·intro i x t S' hx ht lS
  obtain ⟨u, v, hu, hv, rfl⟩ := pairs_get hx
  obtain ⟨y, hy, rfl⟩ := qEh hu
  rw [jBu] at hv
  cases ec : cs[i]? with
  | none => rw [ec] at hv; cases hv
  | some c =>
   rw [ec] at hv
   obtain rfl := Option.some.inj hv
   rw [jDl, jBu, hy, ec] at ht
   obtain rfl := Option.some.inj ht
   have hym := jBv hy
   have hr' := lS.lst (h1.kp.2 y hym)
   have hrl := hr y hym
   unfold ptD
   simp_all [pr1, pr2, qE2]
   refine qAx (qAz (by simp) _) fun S2 b l2 n2 r2 => ?_
   refine qAx (addL (l2.lst hr') r2 (by simp; omega)) fun S3 d l3 n3 r3 => ?_
   simp_all [qCn]
   have e1 := lS.len
   have e2 := l2.len
   exact ⟨l2.trans l3, d, by omega, rfl, by show zH _ _ = _; rw [r3]; simp [widR]⟩
 ·intro q' S2 c l2 n2 r2 hq' hn
  have h2 := h1.mono l2
  have e1 := l1.len
  simp_all [h2.f1, qAv h2.sl, mkE, h2.f3, h2.f4, hw1, qCf]
  exact (h.next (w' := w + 1) (l' := l) (l1.trans l2) r2 (by omega) (fun x hx => .inl (jAj e1 (hn x hx))) hq' hx fun S' hS' => hS')
theorem plane_mk {w : Nat} (hw : w <= 12) (S : Sto) : W (mkA "Plane" F.Plane___init__ [.int (w : Int)] S) fun d S' => ∃ ss st k, d = .ref S.length /\ SLe S S' /\ Pl S' S.length ss st k [] w 0 [] /\ S.length <= ss /\ S.length <= st /\ S.length <= k := by
 have e : W (F.Plane___init__ [.ref S.length, .int (w : Int)] (S ++ [O.ins "Plane" []])) fun d S' => d = .non /\ ∃ ss st k, SLe S S' /\ Pl S' S.length ss st k [] w 0 [] /\ S.length <= ss /\ S.length <= st /\ S.length <= k := by
  (unfold F.Plane___init__; refine Np.W_fnF rfl ?_; unfold Den.Plane___init__; simp_all [])
  simp_all [qDa hw, qBp, mkE]
  refine qAx (qAz (by simp) _) fun S2 k l2 n2 r2 => ?_
  simp_all [qCf]
  generalize hS3 : S2 ++ [O.ins "State" (stF (.int (w : Int)) (.int 0) (.ref k))] = S3
  have l3 : SLe S2 S3 := ⟨_, hS3.symm⟩
  have i3 : qAo S3 S2.length = some (("State" : Str), stF (.int (w : Int)) (.int 0) (.ref k)) := by rw [<- hS3]; exact qDw S2 _ _
  refine qAx (qAz (by simp) _) fun S4 ss l4 n4 r4 => ?_
  have i4 : qAo S4 S.length = some (("Plane" : Str), []) := (l2.trans (l3.trans l4)).ins (qDw S _ _)
  have e1 := l2.len
  have e2 := l3.len
  have e3 := l4.len
  have n0 : S.length < (S ++ [O.ins "Plane" []]).length := by simp
  have sf : ∀ δ, qFl "Plane" "states" (.ref ss) δ (.ref S.length) S4 = ok (.nx δ) (S4.set S.length (.ins "Plane" (plF ss))) := fun δ => by
   unfold qFl
   simp only [i4]
   rw [if_pos ⟨trivial, by decide⟩]
   rfl
  simp_all [qFk, sf]
  have bt := Bt.set (S := S4) S.length (O.ins "Plane" (plF ss))
  have l5 : SLe S (S4.set S.length (O.ins "Plane" (plF ss))) := ((SLe.app _).trans (l2.trans (l3.trans l4))).set (jAx _) _
  refine ⟨trivial, ss, S2.length, k, l5, ⟨?_, bt.lst (by omega) r4, bt.ins (by omega) (l4.ins i3), ⟨bt.lst (by omega) (l4.lst (l3.lst r2)), fun _ h => by cases h⟩⟩, by omega, by omega, by omega⟩
  have : S.length < S4.length := by omega
  simp [qAo, this]
 obtain ⟨d, S', e0, rfl, ss, st, k, h1, h2, h3, h4, h5⟩ := e.out
 unfold mkA
 rw [e0]
 show W (some (.ok (D.ref S.length) S')) _
 rw [W_ok]
 exact ⟨ss, st, k, rfl, h1, h2, h3, h4, h5⟩
end
end Nm
end
section
namespace Nm
open Np PySem
def Bts (L : List Nat) (S S' : Sto) : Prop := S.length <= S'.length /\ ∀ b, b < S.length -> b ∉ L -> S'[b]? = S[b]?
theorem Bts.rfl : Bts L S S := ⟨jAx _, fun _ _ _ => Eq.refl _⟩
theorem Bt.bts (h : Bt a S S') (ha : a ∈ L) : Bts L S S' := ⟨h.1, fun b hb hn => h.2 b hb fun e => hn (e ▸ ha)⟩
theorem Bts.trans (h : Bts L S S') (k : Bts L S' S'') : Bts L S S'' := ⟨jAj h.1 k.1, fun b hb hn => by rw [k.2 b (jAd hb h.1) hn, h.2 b hb hn]⟩
theorem Bts.lst (h : Bts L S S') (hn : b ∉ L) (e : zH S b = some xs) : zH S' b = some xs := by rw [qDv (h.2 b (qAd e) hn)]; exact e
theorem Bts.ins (h : Bts L S S') (hn : b ∉ L) (e : qAo S b = some (c, fs)) : qAo S' b = some (c, fs) := by rw [qFx (h.2 b (qCh e) hn)]; exact e
theorem Pl.bts {S S' : Sto} {L : List Nat} {p ss st k : Nat} {xs : List D} {w l : Nat} {q : List (Pt × Nat)} (h : Pl S p ss st k xs w l q) (e : Bts L S S') (h1 : p ∉ L) (h2 : ss ∉ L) (h3 : st ∉ L) (h4 : k ∉ L) (h5 : ∀ x ∈ q, x.2 ∉ L) : Pl S' p ss st k xs w l q := ⟨e.ins h1 h.pl, e.lst h2 h.sl, e.ins h3 h.st, ⟨e.lst h4 h.kp.1, fun x hx => e.lst (h5 x hx) (h.kp.2 x hx)⟩⟩
theorem qDj (h : zH S a = some xs) (k : zH S b = some ys) (hn : xs ≠ ys) : a ≠ b := fun e => by
 subst e
 rw [h] at k
 exact hn (Option.some.inj k)
theorem Pl.meth {S : Sto} {p ss st k : Nat} {xs : List D} {w l : Nat} {q : List (Pt × Nat)} (h : Pl S p ss st k xs w l q) {m : Str} {Fm : List D -> Sto -> R D} {as : DA} {δ : DS} (hm : (m == ("states" : Str)) = false) : qEx "Plane" m Fm as δ (.ref p) S = bnd (as δ S) (qAr Fm (.ref p)) := qFs h.pl (by simp [plF, jBa, hm])
structure Ls (S : Sto) (s ps w l : Nat) (r : List (Pt × Nat)) : Prop where
 st : zH S s = some [.int (w : Int), .ref ps, .int (l : Int)]
 pt : PtsA S ps r
 nd : (r.map (·.2)).Nodup
theorem Ls.mono (h : Ls S s ps w l r) (e : SLe S S') : Ls S' s ps w l r := ⟨e.lst h.st, h.pt.mono e, h.nd⟩
theorem Ls.bt (h : Ls S s ps w l r) (e : Bt a S S') (h1 : s ≠ a) (h2 : ps ≠ a) (h3 : ∀ x ∈ r, x.2 ≠ a) : Ls S' s ps w l r := ⟨e.lst h1 h.st, h.pt.bt e h2 h3, h.nd⟩
structure Two (S : Sto) (p s ss st k ps : Nat) (xs : List D) (w l : Nat) (q r : List (Pt × Nat)) (w' l' : Nat) : Prop where
 P : Pl S p ss st k xs w l q
 L : Ls S s ps w' l' r
 kp : k ≠ ps
 qr : ∀ x ∈ q, ∀ y ∈ r, x.2 ≠ y.2
section
variable {S S' : Sto} {p s ss st k ps : Nat} {xs : List D} {w l w' l' : Nat} {q r : List (Pt × Nat)}
theorem Two.mono (h : Two S p s ss st k ps xs w l q r w' l') (e : SLe S S') : Two S' p s ss st k ps xs w l q r w' l' := ⟨h.P.mono e, h.L.mono e, h.kp, h.qr⟩
theorem ptD_ne (x : Pt × Nat) (v : Rat) : ptD x ≠ ratD v := fun h => by
 unfold ptD ratD at h
 injection h with h
 have := congrArg jBp h
 simp at this
theorem qA6 {q : List (Pt × Nat)} {row : List Rat} (h : q ≠ []) : q.map ptD ≠ row.map ratD := fun e => by
 cases q with
 | nil => exact h rfl
 | cons x q =>
  cases row with
  | nil => cases e
  | cons v row =>
   injection e with e1 _
   exact ptD_ne x v e1
theorem Two.ss_s (h : Two S p s ss st k ps xs w l q r w' l') : ss ≠ s := qDj h.P.sl h.L.st fun e => by
 have := congrArg List.getLast? e
 simp at this
theorem Two.ps_ss (h : Two S p s ss st k ps xs w l q r w' l') : ps ≠ ss := row_ne h.P.sl h.L.pt.1 (qD9 _)
theorem Two.row_ss (h : Two S p s ss st k ps xs w l q r w' l') (hy : y ∈ r) : y.2 ≠ ss := row_ne h.P.sl (h.L.pt.2 y hy) (qCw _)
theorem Two.s_tup (h : Two S p s ss st k ps xs w l q r w' l') (ha : zH S a = some ys) (hy : ∀ d ∈ ys, ∃ zs, d = .tup zs) : a ≠ s := qDj ha h.L.st fun e => by
 obtain ⟨zs, e⟩ := hy (.int (w' : Int)) (by rw [e]; simp)
 cases e
theorem Two.p_s (h : Two S p s ss st k ps xs w l q r w' l') (ha : zH S a = some ys) : p ≠ a := qAw h.P.pl ha
theorem Two.st_s (h : Two S p s ss st k ps xs w l q r w' l') (ha : zH S a = some ys) : st ≠ a := qAw h.P.st ha
theorem Two.off (h : Two S p s ss st k ps xs w l q r w' l') (e : q.length = r.length) : ∀ y ∈ r, p ≠ y.2 /\ ss ≠ y.2 /\ st ≠ y.2 /\ k ≠ y.2 /\ (∀ x ∈ q, x.2 ≠ y.2) /\ s ≠ y.2 /\ ps ≠ y.2 := fun y hy => by
 have hr := h.L.pt.2 y hy
 have nr : r ≠ [] := fun z => by subst z; cases hy
 have nq : q ≠ [] := fun z => by
  subst z
  exact nr (jEp e.symm)
 exact ⟨h.p_s hr, (h.row_ss hy).symm, h.st_s hr, qDj h.P.kp.1 hr (qA6 nq), fun x hx => h.qr x hx y hy, (h.s_tup hr (qCw _)).symm, qDj h.L.pt.1 hr (qA6 nr)⟩
theorem Two.step (h : Two S p s ss st k ps xs w l q r w' l') (n : Nx S S' p ss st xs q w2 l2 ts) : ∃ st' k' q', Two S' p s ss st' k' ps (xs ++ [.ref st]) w2 l2 q' r w' l' /\ Bt ss S S' /\ S.length <= st' /\ S.length <= k' /\ (∀ x ∈ q', S.length <= x.2 \/ ∃ y ∈ q, y.2 = x.2) /\ q'.map (·.1) = ts := by
 obtain ⟨st', k', q', b, P, h1, h2, h3, h4⟩ := n
 refine ⟨st', k', q', ⟨P, h.L.bt b h.ss_s.symm h.ps_ss fun y hy => h.row_ss hy, ?_, fun x hx y hy => ?_⟩, b, h1, h2, h3, h4⟩
 ·have := qAd h.L.pt.1
  omega
 ·rcases h3 x hx with z | ⟨z, hz, e⟩
  ·have := qAd (h.L.pt.2 y hy)
   omega
  ·rw [<- e]
   exact h.qr z hz y hy
theorem Two.aside (h : Two S p s ss st k ps xs w l q r w' l') (b : Bt a S S') (h1 : p ≠ a) (h2 : ss ≠ a) (h3 : st ≠ a) (h4 : k ≠ a) (h5 : ∀ x ∈ q, x.2 ≠ a) (h6 : s ≠ a) (h7 : ps ≠ a) (h8 : ∀ x ∈ r, x.2 ≠ a) : Two S' p s ss st k ps xs w l q r w' l' := ⟨h.P.bt b h1 h2 h3 h4 h5, h.L.bt b h6 h7 h8, h.kp, h.qr⟩
theorem Two.lt (h : Two S p s ss st k ps xs w l q r w' l') : p < S.length /\ ss < S.length /\ st < S.length /\ k < S.length /\ (∀ x ∈ q, x.2 < S.length) /\ s < S.length /\ ps < S.length /\ ∀ x ∈ r, x.2 < S.length :=
 ⟨qCh h.P.pl, qAd h.P.sl, qCh h.P.st, qAd h.P.kp.1, fun x hx => qAd (h.P.kp.2 x hx), qAd h.L.st, qAd h.L.pt.1, fun x hx => qAd (h.L.pt.2 x hx)⟩
theorem Two.setS (h : Two S p s ss st k ps xs w l q r w' l') {w2 l2 : Nat} (e : zH S' s = some [.int (w2 : Int), .ref ps, .int (l2 : Int)]) (b : Bt s S S') : Two S' p s ss st k ps xs w l q r w2 l2 :=
 ⟨h.P.bt b (h.p_s h.L.st) h.ss_s (h.st_s h.L.st) (h.s_tup h.P.kp.1 (qD9 _)) fun x hx => h.s_tup (h.P.kp.2 x hx) (qCw _), ⟨e, h.L.pt.bt b (h.s_tup h.L.pt.1 (qD9 _)) fun x hx => h.s_tup (h.L.pt.2 x hx) (qCw _), h.L.nd⟩, h.kp, h.qr⟩
theorem Two.setP (h : Two S p s ss st k ps xs w l q r w' l') (e : zH S' ps = some (r2.map ptD)) (b : Bt ps S S') (nq : ∀ x ∈ q, x.2 ≠ ps) (hr : ∀ x ∈ r2, x.2 ≠ ps /\ RowA S x.2 x.1.row) (nd : (r2.map (·.2)).Nodup) (hq : ∀ x ∈ q, ∀ y ∈ r2, x.2 ≠ y.2) : Two S' p s ss st k ps xs w l q r2 w' l' :=
 ⟨h.P.bt b (h.p_s h.L.pt.1) h.ps_ss.symm (h.st_s h.L.pt.1) h.kp nq, ⟨b.lst (h.s_tup h.L.pt.1 (qD9 _)).symm h.L.st, ⟨e, fun x hx => b.lst (hr x hx).1 (hr x hx).2⟩, nd⟩, h.kp, hq⟩
theorem Two.setR (h : Two S p s ss st k ps xs w l q r w' l') (e : q.length = r.length) {r2 : List (Pt × Nat)} (b : Bts (r.map (·.2)) S S') (e2 : r2.map ptD = r.map ptD) (e3 : r2.map (·.2) = r.map (·.2)) (hr : ∀ x ∈ r2, RowA S' x.2 x.1.row) : Two S' p s ss st k ps xs w l q r2 w' l' := by
 have off : ∀ a, (∀ y ∈ r, a ≠ y.2) -> a ∉ r.map (·.2) := fun a ha hm => by
  obtain ⟨y, hy, e⟩ := jCe.mp hm
  exact ha y hy e.symm
 have O := h.off e
 refine ⟨h.P.bts b (off _ fun y hy => (O y hy).1) (off _ fun y hy => (O y hy).2.1) (off _ fun y hy => (O y hy).2.2.1) (off _ fun y hy => (O y hy).2.2.2.1) (fun x hx => off _ fun y hy => (O y hy).2.2.2.2.1 x hx), ⟨b.lst (off _ fun y hy => (O y hy).2.2.2.2.2.1) h.L.st, ⟨by rw [e2]; exact b.lst (off _ fun y hy => (O y hy).2.2.2.2.2.2) h.L.pt.1, hr⟩, by rw [e3]; exact h.L.nd⟩, h.kp, fun x hx y hy => ?_⟩
 have : y.2 ∈ r.map (·.2) := by rw [<- e3]; exact jCe.mpr ⟨y, hy, rfl⟩
 obtain ⟨z, hz, e⟩ := jCe.mp this
 rw [<- e]
 exact h.qr x hx z hz
end
structure Ok (n w l : Nat) (ts : List Pt) : Prop where
 len : ts.length <= n
 wide : w <= 12
 laid : l <= n
 nums : (ts.map (·.num)).Nodup
 each : ∀ t ∈ ts, t.num < l /\ t.row.length = w /\ (∀ x ∈ t.row, Le 150 x) /\ Le 70 t.want /\ Le 70 t.wt /\ 0 < t.wt.num
def Bo (S : Sto) (p s n w l : Nat) (ts : List Pt) : Prop := ∃ ss st k ps xs q r, Two S p s ss st k ps xs w l q r w l /\ q.map (·.1) = ts /\ r.map (·.1) = ts /\ xs.length <= n /\ Ok n w l ts
theorem al2_pts : ∀ {q r : List (Pt × Nat)}, q.map (·.1) = r.map (·.1) -> (∀ x ∈ q, RowA S x.2 x.1.row /\ x.1.row.length <= 1000) -> (∀ x ∈ r, RowA S x.2 x.1.row) -> Al2 (Al S 6) (q.map ptD) (r.map ptD)
 | [], [], _, _, _ => trivial
 | x :: q, y :: r, e, h1, h2 => by
  injection e with e1 e2
  have e1 : x.1 = y.1 := e1
  refine ⟨.inr (.inl ⟨_, _, rfl, rfl, by simp, ⟨.inl ⟨_, rfl, by rw [e1]⟩, ?_, ?_, ?_, trivial⟩⟩), al2_pts e2 (fun z hz => h1 z (.tail _ hz)) fun z hz => h2 z (.tail _ hz)⟩
  ·refine al_row 2 (h1 x (.head _)).1 ?_ (h1 x (.head _)).2
   rw [e1]
   exact h2 y (.head _)
  ·rw [e1]; exact al_rat S 3 _
  ·rw [e1]; exact al_rat S 3 _
 | [], _ :: _, e, _, _ => by cases e
 | _ :: _, [], e, _, _ => by cases e
theorem stands_w {S : Sto} {p s n w l : Nat} {ts : List Pt} (h : Bo S p s n w l ts) (hn : n <= 900) : W (F.k52_stands [.ref p, .ref s] S) fun d S' => d = .bl true /\ SLe S S' := by
 obtain ⟨ss, st, k, ps, xs, q, r, T, eq, er, hx, O⟩ := h
 have lq : q.length = ts.length := by rw [<- eq]; simp
 have ol := O.len
 (unfold F.k52_stands; refine Np.W_fnF rfl ?_; unfold Den.k52_stands; simp_all [])
 simp_all [qAa, T.P.meth (m := "width") rfl, qAr, width_eq T.P, qB0 T.L.st rfl]
 refine (qBd (n := 7) (show Al S 7 (.int (w : Int)) (.int (w : Int)) from .inl ⟨_, rfl, rfl⟩)).mono ?_
 rintro d S1 ⟨rfl, l1⟩
 have T1 := T.mono l1
 simp_all [qAa, T1.P.meth (m := "points") rfl, qAr]
 refine (points_w T1.P (by omega)).mono ?_
 rintro d S2 ⟨c, q', rfl, l2, hc, hq', _⟩
 have T2 := T1.mono l2
 simp_all [qA8 T2.L.st rfl]
 refine (qBd (n := 7) (show Al S2 7 (.ref c) (.ref ps) from .inr (.inr ⟨c, ps, _, _, rfl, rfl, hc.1, T2.L.pt.1, ?_, al2_pts (by rw [hq', eq, er]) (fun x hx => ⟨hc.2 x hx, ?_⟩) T2.L.pt.2⟩))).mono ?_
 ·have := congrArg jBp hq'
  simp at this ⊢
  omega
 ·have : x.1 ∈ ts := by rw [<- eq, <- hq']; exact jCe.mpr ⟨x, hx, rfl⟩
  have h1 := (O.each _ this).2.1
  have h2 := O.wide
  omega
 ·rintro d S3 ⟨rfl, l3⟩
  simp_all []
  exact ⟨trivial, (l1.trans l2).trans l3⟩
end Nm
end
section
namespace Nm
open Np PySem
theorem W_appB (h : zH S b = some xs) (hl : xs.length < 1000000) (k : ∀ S', Bt b S S' -> S'.length = S.length -> zH S' b = some (xs ++ [d]) -> Q .non S') : W (appD (.ref b) d S) Q :=
 W.intro (qGc d h hl) (k _ (Bt.set b _) (by simp) (qBj h))
theorem W_setB (h : zH S b = some xs) (hi : i < xs.length) (k : ∀ S', Bt b S S' -> S'.length = S.length -> zH S' b = some (xs.set i v) -> Q δ S') : W (setXA v δ (.ref b) (.int (i : Int)) S) Q :=
 W.intro (setXA_ref v δ h hi) (k _ (Bt.set b _) (by simp) (qBj h))
theorem W_popB (h : zH S b = some (xs ++ [d])) (k : ∀ S', Bt b S S' -> S'.length = S.length -> zH S' b = some xs -> Q d S') : W (popD (.ref b) S) Q := by
 have e : popD (.ref b) S = ok d (S.set b (.lst xs)) := by
  show (match zH S b with | some xs => (match xs[xs.length - 1]? with | some d => ok d (S.set b (.lst xs.dropLast)) | none => none) | none => none) = _
  rw [h]
  simp
 exact W.intro e (k _ (Bt.set b _) (by simp) (qBj h))
theorem W_popAtB (h : zH S b = some xs) (hi : xs[i]? = some d) (hl : i < 1000000) (k : ∀ S', Bt b S S' -> S'.length = S.length -> zH S' b = some (xs.eraseIdx i) -> Q d S') : W (qDh (.ref b) (.int (i : Int)) S) Q := by
 have e : qDh (.ref b) (.int (i : Int)) S = ok d (S.set b (.lst (xs.eraseIdx i))) := by
  unfold qDh
  simp only [h, jCt, hi]
  rw [if_pos ⟨by omega, by omega⟩]
 exact W.intro e (k _ (Bt.set b _) (by simp) (qBj h))
theorem qDn : ∀ {ts : List Pt} {a : Nat} {t : Pt}, (ts.map (·.num)).Nodup -> ts[a]? = some t -> (ts.filter fun u => decide (u.num ≠ t.num)) = ts.eraseIdx a
 | [], _, _, _, h => by simp at h
 | u :: ts, 0, t, hn, h => by
  obtain rfl : u = t := by simpa using h
  rw [jEo, if_neg (by simp)]
  rw [jBb, jBk] at hn
  rw [List.eraseIdx_cons_zero]
  refine List.filter_eq_self.mpr fun v hv => ?_
  refine decide_eq_true fun e => hn.1 ?_
  rw [<- e]
  exact jCe.mpr ⟨v, hv, rfl⟩
 | u :: ts, a + 1, t, hn, h => by
  rw [jCg] at h
  rw [jBb, jBk] at hn
  have : u.num ≠ t.num := fun e => hn.1 (by rw [e]; exact jCe.mpr ⟨t, jBv h, rfl⟩)
  rw [jEo, if_pos (by simpa using this), jB5, qDn hn.2 h]
theorem qBv (f : α -> β) : ∀ (xs : List α) (i : Nat), (xs.eraseIdx i).map f = (xs.map f).eraseIdx i
 | [], _ => by simp
 | _ :: _, 0 => by simp
 | x :: xs, i + 1 => by simp [qBv f xs i]
theorem nodup_two {r : List (Pt × Nat)} : ∀ {i j : Nat} {y z : Pt × Nat}, (r.map (·.2)).Nodup -> r[i]? = some y -> r[j]? = some z -> i ≠ j -> z.2 ≠ y.2 := by
 induction r with
 | nil => intro i j y z _ h; simp at h
 | cons x r ih =>
  intro i j y z hn hi hj hne
  rw [jBb, jBk] at hn
  cases i with
  | zero =>
   cases j with
   | zero => exact absurd rfl hne
   | succ j =>
    obtain rfl : x = y := by simpa using hi
    rw [jCg] at hj
    exact fun e => hn.1 (by rw [<- e]; exact jCe.mpr ⟨z, jBv hj, rfl⟩)
  | succ i =>
   cases j with
   | zero =>
    obtain rfl : x = z := by simpa using hj
    rw [jCg] at hi
    exact fun e => hn.1 (by rw [e]; exact jCe.mpr ⟨y, jBv hi, rfl⟩)
   | succ j =>
    rw [jCg] at hi hj
    exact ih hn.2 hi hj fun e => hne (by rw [e])
section
variable {S : Sto} {p s n w l : Nat} {ts : List Pt}
theorem nmap {q : List (Pt × Nat)} : q.map (·.1.num) = (q.map (·.1)).map (·.num) := by rw [jCh]; rfl
theorem qD0 (f : α -> β -> γ) (g : γ -> δ) (g' : α -> δ) (h : ∀ x y, g (f x y) = g' x) : ∀ (xs : List α) (ys : List β), xs.length = ys.length -> (jDk f xs ys).map g = xs.map g'
 | [], [], _ => rfl
 | x :: xs, y :: ys, e => by
  rw [jDy, jBb, jBb, h, qD0 f g g' h xs ys (by simpa using e)]
theorem zip_map1 (f : α -> β -> γ) (a : γ -> ε) (b : α -> ε) (f' : ε -> β -> ε) (h : ∀ x y, a (f x y) = f' (b x) y) : ∀ (xs : List α) (ys : List β), (jDk f xs ys).map a = jDk f' (xs.map b) ys
 | [], _ => by simp
 | _ :: _, [] => by simp
 | x :: xs, y :: ys => by
  rw [jDy, jBb, jBb, jDy, h, zip_map1 f a b f' h xs ys]
theorem qAh (P : DS -> Sto -> Prop) (h : W (A δ S) fun fl S' => ∃ δ', fl = .nx δ' /\ P δ' S') (k : ∀ δ' S', P δ' S' -> W (B δ' S') Q) : W (seqS A B δ S) Q := by
 unfold seqS
 rw [W_bnd]
 refine h.mono ?_
 rintro fl S' ⟨δ', rfl, hp⟩
 exact k δ' S' hp
theorem tupG3b (a b c : DG) (x y z : D) (δ : DS) (S : Sto) : tupG [a, b, c] (.tup [x, y, z]) δ S = tupGs [a, b, c] [x, y, z] δ S := rfl
end
theorem rp_get (h : ((jDn a n).map f)[i]? = some x) : x = f (a + i) /\ i < n := by
 rw [jBu] at h
 cases e : (jDn a n)[i]? with
 | none => rw [e] at h; cases h
 | some y =>
  rw [e] at h
  obtain ⟨h1, h2⟩ := jAr.mp e
  rw [List.length_range'] at h1
  rw [List.getElem_range'] at h2
  refine ⟨?_, h1⟩
  rw [<- Option.some.inj h, <- h2, Nat.one_mul]
end Nm
end
section
namespace Nm
open Np PySem
theorem plus52_eq (hp : sm p) (hq : sm q) (S : Sto) : F.k52_plus [ratD p, ratD q] S = ok (ratD (p + q)) S := by
 refine W_eq ?_
 (unfold F.k52_plus; refine Np.W_fnF rfl ?_; unfold Den.k52_plus; simp_all [])
 simp_all [qAf (hp.nd hq), qAf (hq.nd hp), qAf (hp.dd hq), lowest_eq (show (0 : Int) < p.den * q.den from jEg (qB4 p) (qB4 q)), <- qCk]
theorem PtR.take (h : PtR S t as bs P H) (hb : zH S b = some ((jDk (fun a b => D.tup [.ref a, .ref b]) as bs).take k)) : PtR S b (as.take k) (bs.take k) (P.take k) (H.take k) := by
 refine ⟨by rw [hb, List.take_zipWith], by simp [h.la], by simp [h.lb], by simp [h.lh], fun i a r h1 h2 => ?_, fun i a r h1 h2 => ?_⟩
 ·rw [jD2] at h1 h2
  split at h1
  ·rename_i hi
   rw [if_pos hi] at h2
   exact h.left i a r h1 h2
  ·cases h1
 ·rw [jD2] at h1 h2
  split at h1
  ·rename_i hi
   rw [if_pos hi] at h2
   exact h.shs i a r h1 h2
  ·cases h1
theorem PtR.keep (h : PtR S t as bs P H) (k : ∀ x, x = t \/ x ∈ as \/ x ∈ bs -> zH S' x = zH S x) : PtR S' t as bs P H :=
 ⟨by rw [k t (.inl rfl)]; exact h.at', h.la, h.lb, h.lh, fun i a r h1 h2 => by
  show zH S' a = _
  rw [k a (.inr (.inl (zK h1)))]
  exact h.left i a r h1 h2, fun i a r h1 h2 => by
  show zH S' a = _
  rw [k a (.inr (.inr (zK h1)))]
  exact h.shs i a r h1 h2⟩
theorem wpos (hw : ws.length = n) (h : ∀ x ∈ ws, 0 < x) : ∀ c, c < n -> 0 < Vf ws c := fun c hc => h _ (getD_mem (by omega))
theorem snoc_at (rows : List (List Rat)) (row : List Rat) : (rows ++ [row])[rows.length]? = some row := by simp
theorem gsR_init (rows : List (List Rat)) (row ws : List Rat) : (gsR (rows ++ [row]) ws).P.take rows.length = (gsR rows ws).P /\ (gsR (rows ++ [row]) ws).H.take rows.length = (gsR rows ws).H := by
 have := gsR_pre ws (rows ++ [row]) (i := rows.length) (rows ++ [row]).length (by simp) (jAx _)
 rw [jDp] at this
 simpa using this
theorem qE1 {b n : Nat} {T : List (List Rat)} (h : LeT b T) (hb : 0 < b) : LeT b (qAs T n) := fun r hr x hx => by
 obtain ⟨i, _, rfl⟩ := jCe.mp hr
 obtain ⟨q, hq, rfl⟩ := jCe.mp hx
 exact le_getD (h q hq) hb i
theorem qFf (h : qAo S f = some (c, fs)) (hl : fs.length < 900) (k : ∀ S', S'.length = S.length -> qAo S' f = some (c, putD fl v fs) -> (∀ b xs, zH S b = some xs -> zH S' b = some xs) -> (∀ S0, SLe S0 S -> S0.length <= f -> SLe S0 S') -> Q (.nx δ) S') : W (qFl c fl v δ (.ref f) S) Q := by
 have e : qFl c fl v δ (.ref f) S = ok (.nx δ) (S.set f (.ins c (putD fl v fs))) := by
  unfold qFl
  simp only [h]
  rw [if_pos ⟨trivial, hl⟩]
 refine W.intro e (k _ (by simp) ?_ (fun b xs hb => (Bt.set f _).lst (qAw h hb).symm hb) fun S0 l hf => l.set hf _)
 have := qCh h
 simp [qAo, this]
def tpD (x : Pt × Nat) : D := .tup [.ref x.2, ratD x.1.want, ratD x.1.wt]
abbrev ftF (w : Nat) (c wa we pa : Nat) (nr : D) : List (Str × D) := [(("wide" : Str), .int (w : Int)), (("columns" : Str), .ref c), (("wants" : Str), .ref wa), (("weights" : Str), .ref we), (("parts" : Str), .ref pa), (("near" : Str), nr)]
structure FtA (S : Sto) (f w : Nat) (ts : List Pt) (c wa we pa n1 n2 : Nat) (cs as bs : List Nat) : Prop where
 ins : qAo S f = some (("Fit" : Str), ftF w c wa we pa (.tup [.ref n1, .ref n2]))
 col : TabR S c cs (qAs (ts.map (·.row)) w)
 wan : RowA S wa (ts.map (·.want))
 wei : RowA S we (ts.map (·.wt))
 par : PtR S pa as bs (gsR (qAs (ts.map (·.row)) w) (ts.map (·.wt))).P (gsR (qAs (ts.map (·.row)) w) (ts.map (·.wt))).H
 nea : RowA S n1 (zR (gsR (qAs (ts.map (·.row)) w ++ [ts.map (·.want)]) (ts.map (·.wt))).P w)
 sha : RowA S n2 (zR (gsR (qAs (ts.map (·.row)) w ++ [ts.map (·.want)]) (ts.map (·.wt))).H w)
theorem FtA.mono (h : FtA S f w ts c wa we pa n1 n2 cs as bs) (l : SLe S S') : FtA S' f w ts c wa we pa n1 n2 cs as bs :=
 ⟨l.ins h.ins, ⟨l.lst h.col.1, h.col.2.1, fun i b r h1 h2 => l.lst (h.col.2.2 i b r h1 h2)⟩, l.lst h.wan, l.lst h.wei, h.par.le l, l.lst h.nea, l.lst h.sha⟩
theorem gb_14 (hR : Wide rows n) (hw : ws.length = n) (hp : ∀ c, c < n -> 0 < Vf ws c) (hb : LeT 24 rows) (hq : ∀ x ∈ ws, Le 3 x) (hn : n <= 14) (hl : rows.length <= 7) : GB rows ws 264000 530000 := by
 have e1 : 24 * n + 1 <= 337 := by omega
 have e2 : 3 * n + 1 + 4 + 1 <= 48 := by omega
 have hmono : ∀ k u e u' e', u <= u' -> e <= e' -> vt u e k <= vt u' e' k := by
  intro k u e u' e' h1 h2
  induction k with
  | zero => exact jAx _
  | succ k ih => simp only [vt]; omega
 have h4 : vt (24 * n + 1) (3 * n + 1 + 4 + 1) (rows.length - 1) <= vt 337 48 6 := jAj (hmono _ _ _ _ _ e1 e2) (qD2 _ _ (by omega))
 have e4 : vt 337 48 6 <= 263000 := by decide
 refine gs_GB (s := 4) hR hw hp hb hq (by omega) ?_ ?_ <;> omega
theorem rat_pos {x : Rat} (h : 0 < x.num) : 0 < x := by
 have := Rat.num_nonneg (q := x)
 rcases Rat.le_iff_lt_or_eq.mp (this.mp (by omega)) with z | z
 ·exact z
 ·rw [<- z] at h
  exact absurd h (by decide)
abbrev colP (w : Nat) (ts : List Pt) : List (List Rat) := qAs (ts.map (·.row)) w
structure Sml (w : Nat) (ts : List Pt) : Prop where
 wide : w <= 6
 len : ts.length <= 14
 each : ∀ t ∈ ts, t.row.length = w /\ (∀ x ∈ t.row, Le 150 x) /\ Le 70 t.want /\ Le 70 t.wt /\ 0 < t.wt.num
 gb : GB (colP w ts) (ts.map (·.wt)) 264000 530000
 gb2 : GB (colP w ts ++ [ts.map (·.want)]) (ts.map (·.wt)) 264000 530000
theorem Sml.pos (h : Sml w ts) : ∀ c, c < ts.length -> 0 < Vf (ts.map (·.wt)) c := wpos (by simp) fun x hx => by
 obtain ⟨t, ht, rfl⟩ := jCe.mp hx
 exact rat_pos (h.each t ht).2.2.2.2
theorem pos_of {ts : List Pt} (h : ∀ t ∈ ts, 0 < t.wt.num) : ∀ c, c < ts.length -> 0 < Vf (ts.map (·.wt)) c := wpos (by simp) fun x hx => by
 obtain ⟨t, ht, rfl⟩ := jCe.mp hx
 exact rat_pos (h t ht)
theorem Sml.mk' {w B Q : Nat} {ts : List Pt} (hw : w <= 6) (hl : ts.length <= 14) (hB : 0 < B) (hB' : B <= 150) (hQ : Q <= 70) (each : ∀ t ∈ ts, t.row.length = w /\ (∀ x ∈ t.row, Le B x) /\ Le 70 t.want /\ Le Q t.wt /\ 0 < t.wt.num) (hwa : ∀ t ∈ ts, Le B t.want)
  (gb : ∀ rows : List (List Rat), Wide rows ts.length -> LeT B rows -> (∀ x ∈ ts.map (·.wt), Le Q x) -> (∀ c, c < ts.length -> 0 < Vf (ts.map (·.wt)) c) -> rows.length <= w + 1 -> GB rows (ts.map (·.wt)) 264000 530000) : Sml w ts := by
 have W0 : Wide (colP w ts) ts.length := by
  have := qC7 (ts.map (·.row)) w
  rwa [jBd] at this
 have R0 : LeT B (colP w ts) := qE1 (fun r hr x hx => by
  obtain ⟨t, ht, rfl⟩ := jCe.mp hr
  exact (each t ht).2.1 x hx) hB
 have q0 : ∀ x ∈ ts.map (·.wt), Le Q x := fun x hx => by
  obtain ⟨t, ht, rfl⟩ := jCe.mp hx
  exact (each t ht).2.2.2.1
 have p0 := pos_of fun t ht => (each t ht).2.2.2.2
 have cl : (colP w ts).length = w := qBa _ _
 refine ⟨hw, hl, fun t ht => ?_, gb _ W0 R0 q0 p0 (by omega), gb _ (fun r hr => ?_) (fun r hr => ?_) q0 p0 (by rw [jBw, cl]; simp)⟩
 ·obtain ⟨a, b, c, d, e⟩ := each t ht
  exact ⟨a, fun x hx => (b x hx).mono hB', c, d.mono hQ, e⟩
 ·rcases jAp.mp hr with hr | hr
  ·exact W0 r hr
  ·rw [jCr.mp hr]; simp
 ·rcases jAp.mp hr with hr | hr
  ·exact R0 r hr
  ·rw [jCr.mp hr]
   intro x hx
   obtain ⟨t, ht, rfl⟩ := jCe.mp hx
   exact hwa t ht
theorem Sml.of14 (hw : w <= 6) (hl : ts.length <= 14) (each : ∀ t ∈ ts, t.row.length = w /\ (∀ x ∈ t.row, Le 24 x) /\ Le 24 t.want /\ Le 3 t.wt /\ 0 < t.wt.num) : Sml w ts :=
 Sml.mk' (B := 24) (Q := 3) hw hl (by decide) (by decide) (by decide) (fun t ht => ⟨(each t ht).1, (each t ht).2.1, (each t ht).2.2.1.mono (by decide), (each t ht).2.2.2.1, (each t ht).2.2.2.2⟩) (fun t ht => (each t ht).2.2.1) fun rows hR hb hq hp hl' => gb_14 hR (by simp) hp hb hq hl (by omega)
theorem are_points_w {S : Sto} {a w : Nat} {q : List (Pt × Nat)} (ha : zH S a = some (q.map tpD)) (hr : ∀ x ∈ q, RowA S x.2 x.1.row) (h : Sml w (q.map (·.1))) : W (F.are_points [.ref a, .int (w : Int)] S) fun d S' => d = .bl true /\ SLe S S' := by
 have hl := h.len
 rw [jBd] at hl
 (unfold F.are_points; refine Np.W_fnF rfl ?_; unfold Den.are_points; simp_all [])
 simp_all [qB1 ha]
 refine W_compX (base := [some (.ref a), some (.int (w : Int))]) (k := 1) (fun x => [some x]) (q.map tpD) (fun _ d => d = .bl true) (fun _ => True) (qBh [some (.ref a), some (.int (w : Int))]) (fun _ _ => trivial) ?_ ?_ ?_
 ·simp_all [qAn ha]
  exact ⟨by rw [qAk ha]; exact jAx _, by rw [qAk ha]; simp; omega, SLe.rfl, fun i S'' l => qBs (l.lst ha) i⟩
 ·intro x S' hx l
  obtain ⟨y, hy, rfl⟩ := jCe.mp hx
  obtain ⟨g1, g2, g3, g4, g5⟩ := h.each y.1 (jCe.mpr ⟨y, hy, rfl⟩)
  have hw := h.wide
  unfold tpD
  simp_all []
  have := qDb (want := y.1.want) (l.lst (hr y hy)) (by omega) (g4.sm (by decide)) g5
  rw [g1] at this
  exact this.mono fun d S'' h => h
 ·intro ds S' l hd he
  have : ∀ d ∈ ds, d = .bl true := fun d hm => by
   obtain ⟨i, hi, rfl⟩ := jDq hm
   exact he i ((q.map tpD)[i]'(by omega)) _ (jEl _) (jEl hi)
  simp_all [qC4 (qAb S' ds) (qDz this)]
  exact ⟨trivial, l.push _⟩
theorem comp_tp {e : DE} {base : DS} {S : Sto} {a : Nat} {q : List (Pt × Nat)} {g : Pt × Nat -> D} {it : DI} (hit : it base S = ok (.one a) S) (ha : zH S a = some (q.map tpD)) (hl : q.length <= 1000000) (he : ∀ x, e (base ++ [some (tpD x)]) S = ok (g x) S) (hg : ∃ g' : D -> D, ∀ x, g' (tpD x) = g x) :
  qAj it 1 (setG base.length) e base S = ok (.ref S.length) (S ++ [.lst (q.map g)]) := by
 obtain ⟨g', hg⟩ := hg
 rw [qCd _ (qBh base) hit (Has.one ha) (by rw [qAk ha, jBd]; exact hl) (fun _ _ => trivial) (f := g') fun x hx => by
  obtain ⟨y, hy, rfl⟩ := jCe.mp hx
  rw [hg]
  exact he y]
 rw [jCh]
 rw [show (g' ∘ tpD) = g from funext hg]
def at0 : D -> D
 | .tup (x :: _) => x
 | x => x
def at1 : D -> D
 | .tup (_ :: x :: _) => x
 | x => x
def at2 : D -> D
 | .tup (_ :: _ :: x :: _) => x
 | x => x
theorem fit_mk {S : Sto} {a w : Nat} {q : List (Pt × Nat)} (ha : zH S a = some (q.map tpD)) (hr : ∀ x ∈ q, RowA S x.2 x.1.row) (h : Sml w (q.map (·.1))) : W (mkA "Fit" F.Fit___init__ [.ref a, .int (w : Int)] S) fun d S' => SLe S S' /\ ∃ f c wa we pa n1 n2 cs as bs, d = .ref f /\ (S.length <= f /\ S.length <= n2) /\ FtA S' f w (q.map (·.1)) c wa we pa n1 n2 cs as bs := by
 have hl := h.len
 have hw := h.wide
 rw [jBd] at hl
 generalize hts : q.map (·.1) = ts at h
 have lts : ts.length = q.length := by rw [<- hts]; simp
 have hpos := h.pos
 have R0 : LeT 150 (ts.map (·.row)) := fun r hr x hx => by
  obtain ⟨t, ht, rfl⟩ := jCe.mp hr
  exact (h.each t ht).2.1 x hx
 have W0 : Wide (ts.map (·.row)) w := fun r hr => by
  obtain ⟨t, ht, rfl⟩ := jCe.mp hr
  exact (h.each t ht).1
 have hq70 : ∀ x ∈ ts.map (·.wt), Le 70 x := fun x hx => by
  obtain ⟨t, ht, rfl⟩ := jCe.mp hx
  exact (h.each t ht).2.2.2.1
 have hwant : ∀ x ∈ ts.map (·.want), Le 150 x := fun x hx => by
  obtain ⟨t, ht, rfl⟩ := jCe.mp hx
  exact (h.each t ht).2.2.1.mono (by decide)
 have e : W (F.Fit___init__ [.ref S.length, .ref a, .int (w : Int)] (S ++ [O.ins "Fit" []])) fun d S' => d = .non /\ SLe S S' /\ ∃ c wa we pa n1 n2 cs as bs, S.length <= n2 /\ FtA S' S.length w ts c wa we pa n1 n2 cs as bs := by
  unfold F.Fit___init__
  refine W_fnF rfl ?_
  rw [W_outF]
  unfold Den.Fit___init__
  have l0 : SLe S (S ++ [O.ins "Fit" []]) := SLe.app _
  refine qAh (fun δ' S' => δ' = [some (.ref S.length), some (.ref a), some (.int (w : Int))] /\ SLe (S ++ [O.ins "Fit" []]) S') ?_ ?_
  ·simp_all [qDa (show w <= 12 by omega)]
   refine (are_points_w (l0.lst ha) (fun x hx => l0.lst (hr x hx)) (by rw [hts]; exact h)).mono ?_
   rintro d S' ⟨rfl, l⟩
   simp_all []
   exact ⟨_, rfl, rfl, l⟩
  rintro _ S1 ⟨rfl, l1⟩
  have i1 : qAo S1 S.length = some (("Fit" : Str), []) := l1.ins (qDw S _ _)
  refine qAh (fun δ' S' => δ' = [some (.ref S.length), some (.ref a), some (.int (w : Int))] /\ SLe S S' /\ qAo S' S.length = some (("Fit" : Str), [(("wide" : Str), D.int (w : Int))])) ?_ ?_
  ·simp_all [qBp, qFk]
   refine qFf i1 (by decide) fun S' _ i _ k => ?_
   exact ⟨_, rfl, rfl, k _ (l0.trans l1) (jAx _), i⟩
  rintro _ S2 ⟨rfl, l2, i2⟩
  refine qAh (fun δ' S' => δ' = [some (.ref S.length), some (.ref a), some (.int (w : Int))] /\ SLe S S' /\ ∃ c cs, qAo S' S.length = some (("Fit" : Str), [(("wide" : Str), D.int (w : Int)), (("columns" : Str), .ref c)]) /\ TabR S' c cs (qAs (ts.map (·.row)) w)) ?_ ?_
  ·have c1 := comp_tp (base := [some (.ref S.length), some (.ref a), some (.int (w : Int))]) (it := itE itL (vr 1)) (e := op2 ixD (vr 3) (cst (.int 0))) (g := fun x => .ref x.2) (by simp only [Np.itA, Np.itE, Np.yF, Np.aConsK, Np.aNil, Np.consK, Np.vr, Np.cst, jCu, jCg, Np.bnd_ok]; exact qAn (l2.lst ha)) (l2.lst ha) (by omega) (fun _ => rfl) ⟨at0, fun _ => rfl⟩
   simp only [jA7, jCq, jDf] at c1
   simp_all [qBp, qFk, c1]
   have tb : TabR (S2 ++ [.lst (q.map fun x => D.ref x.2)]) S2.length (q.map (·.2)) (ts.map (·.row)) := by
    refine ⟨by rw [qAb, jCh]; rfl, by simp [lts], fun i b r hb hr' => ?_⟩
    rw [jBu] at hb
    rw [<- hts, jCh, jBu] at hr'
    cases ei : q[i]? with
    | none => rw [ei] at hb; cases hb
    | some y =>
     rw [ei] at hb hr'
     obtain rfl := Option.some.inj hb
     obtain rfl := Option.some.inj hr'
     exact (SLe.rfl.push _).lst (l2.lst (hr y (jBv ei)))
   refine turned_w tb W0 (by simp; omega) (by omega) fun S3 c cs l3 ft => ?_
   have l23 := (SLe.app (S := S2) [.lst (q.map fun x => D.ref x.2)]).trans l3
   have i3 := l23.ins i2
   refine qFf i3 (by simp) fun S' _ i kl k => ?_
   exact ⟨_, rfl, rfl, k _ (l2.trans l23) (jAx _), c, cs, i, ⟨kl _ _ ft.tab.1, ft.tab.2.1, fun i b r h1 h2 => kl _ _ (ft.tab.2.2 i b r h1 h2)⟩⟩
  rintro _ S3 ⟨rfl, l3, c, cs, i3, tc⟩
  refine qAh (fun δ' S' => δ' = [some (.ref S.length), some (.ref a), some (.int (w : Int))] /\ SLe S S' /\ TabR S' c cs (qAs (ts.map (·.row)) w) /\ ∃ wa, qAo S' S.length = some (("Fit" : Str), [(("wide" : Str), D.int (w : Int)), (("columns" : Str), .ref c), (("wants" : Str), .ref wa)]) /\ RowA S' wa (ts.map (·.want))) ?_ ?_
  ·have c1 := comp_tp (base := [some (.ref S.length), some (.ref a), some (.int (w : Int))]) (it := itE itL (vr 1)) (e := op2 ixD (vr 3) (cst (.int 1))) (g := fun x => ratD x.1.want) (by simp only [Np.itA, Np.itE, Np.yF, Np.aConsK, Np.aNil, Np.consK, Np.vr, Np.cst, jCu, jCg, Np.bnd_ok]; exact qAn (l3.lst ha)) (l3.lst ha) (by omega) (fun _ => rfl) ⟨at1, fun _ => rfl⟩
   simp only [jA7, jCq, jDf] at c1
   simp_all [qBp, qFk, c1]
   have la : SLe S3 (S3 ++ [.lst (q.map fun x => ratD x.1.want)]) := SLe.app _
   refine qFf (la.ins i3) (by simp) fun S' _ i kl k => ?_
   refine ⟨_, rfl, rfl, k _ (l3.trans la) (jAx _), ⟨kl _ _ (la.lst tc.1), tc.2.1, fun i b r h1 h2 => kl _ _ (la.lst (tc.2.2 i b r h1 h2))⟩, S3.length, i, kl _ _ ?_⟩
   rw [qAb, <- hts, jCh, jCh]
   rfl
  rintro _ S4 ⟨rfl, l4, tc, wa, i4, ra⟩
  refine qAh (fun δ' S' => δ' = [some (.ref S.length), some (.ref a), some (.int (w : Int))] /\ SLe S S' /\ TabR S' c cs (qAs (ts.map (·.row)) w) /\ RowA S' wa (ts.map (·.want)) /\ ∃ we, qAo S' S.length = some (("Fit" : Str), [(("wide" : Str), D.int (w : Int)), (("columns" : Str), .ref c), (("wants" : Str), .ref wa), (("weights" : Str), .ref we)]) /\ RowA S' we (ts.map (·.wt))) ?_ ?_
  ·have c1 := comp_tp (base := [some (.ref S.length), some (.ref a), some (.int (w : Int))]) (it := itE itL (vr 1)) (e := op2 ixD (vr 3) (cst (.int 2))) (g := fun x => ratD x.1.wt) (by simp only [Np.itA, Np.itE, Np.yF, Np.aConsK, Np.aNil, Np.consK, Np.vr, Np.cst, jCu, jCg, Np.bnd_ok]; exact qAn (l4.lst ha)) (l4.lst ha) (by omega) (fun _ => rfl) ⟨at2, fun _ => rfl⟩
   simp only [jA7, jCq, jDf] at c1
   simp_all [qBp, qFk, c1]
   have la : SLe S4 (S4 ++ [.lst (q.map fun x => ratD x.1.wt)]) := SLe.app _
   refine qFf (la.ins i4) (by simp) fun S' _ i kl k => ?_
   refine ⟨_, rfl, rfl, k _ (l4.trans la) (jAx _), ⟨kl _ _ (la.lst tc.1), tc.2.1, fun i b r h1 h2 => kl _ _ (la.lst (tc.2.2 i b r h1 h2))⟩, kl _ _ (la.lst ra), S4.length, i, kl _ _ ?_⟩
   rw [qAb, <- hts, jCh, jCh]
   rfl
  rintro _ S5 ⟨rfl, l5, tc, ra, we, i5, rw5⟩
  have hRw : Wide (qAs (ts.map (·.row)) w) ts.length := by
   have := qC7 (ts.map (·.row)) w
   rwa [jBd] at this
  have hRl : (qAs (ts.map (·.row)) w).length = w := qBa _ _
  have hRb : LeT 150 (qAs (ts.map (·.row)) w) := qE1 R0 (by decide)
  have hR2 : Wide (qAs (ts.map (·.row)) w ++ [ts.map (·.want)]) ts.length := fun r hr => by
   rcases jAp.mp hr with hr | hr
   ·exact hRw r hr
   ·rw [jCr.mp hr]; simp
  have hb2 : LeT 150 (qAs (ts.map (·.row)) w ++ [ts.map (·.want)]) := fun r hr => by
   rcases jAp.mp hr with hr | hr
   ·exact hRb r hr
   ·rw [jCr.mp hr]; exact hwant
  have hwl : (ts.map (·.wt)).length = ts.length := by simp
  have B := h.gb
  have B' := h.gb2
  have hB1 : (150 + 264000 + 70 + 1) * (ts.length + 1) <= 20000000 := by omega
  have hB2 : (264000 + 264000 + 70 + 1) * (ts.length + 1) <= 20000000 := by omega
  have hB3 : (264000 + 530000 + 1) * ((qAs (ts.map (·.row)) w).length + 1) <= 20000000 := by rw [hRl]; omega
  refine qAh (fun δ' S' => δ' = [some (.ref S.length), some (.ref a), some (.int (w : Int))] /\ SLe S S' /\ TabR S' c cs (qAs (ts.map (·.row)) w) /\ RowA S' wa (ts.map (·.want)) /\ RowA S' we (ts.map (·.wt)) /\ ∃ pa as bs, qAo S' S.length = some (("Fit" : Str), [(("wide" : Str), D.int (w : Int)), (("columns" : Str), .ref c), (("wants" : Str), .ref wa), (("weights" : Str), .ref we), (("parts" : Str), .ref pa)]) /\ PtR S' pa as bs (gsR (qAs (ts.map (·.row)) w) (ts.map (·.wt))).P (gsR (qAs (ts.map (·.row)) w) (ts.map (·.wt))).H) ?_ ?_
  ·simp_all [qBp, qFk, qBc i5 (show jBa ("columns" : Str) [(("wide" : Str), D.int (w : Int)), (("columns" : Str), .ref c), (("wants" : Str), .ref wa), (("weights" : Str), .ref we)] = some (.ref c) from rfl), qBc i5 (show jBa ("weights" : Str) [(("wide" : Str), D.int (w : Int)), (("columns" : Str), .ref c), (("wants" : Str), .ref wa), (("weights" : Str), .ref we)] = some (.ref we) from rfl)]
   refine lefts_w tc rw5 hRw hwl hpos hRb hq70 B hB1 hB2 hB3 (by omega) (by omega) fun S6 pa as bs l6 n6 pt _ _ => ?_
   refine qFf (l6.ins i5) (by simp) fun S' _ i kl k => ?_
   refine ⟨_, rfl, rfl, k _ (l5.trans l6) (jAx _), ⟨kl _ _ (l6.lst tc.1), tc.2.1, fun i b r h1 h2 => kl _ _ (l6.lst (tc.2.2 i b r h1 h2))⟩, kl _ _ (l6.lst ra), kl _ _ (l6.lst rw5), pa, as, bs, i, ⟨kl _ _ pt.at', pt.la, pt.lb, pt.lh, fun i a r h1 h2 => kl _ _ (pt.left i a r h1 h2), fun i a r h1 h2 => kl _ _ (pt.shs i a r h1 h2)⟩⟩
  rintro _ S6 ⟨rfl, l6, tc, ra, rw6, pa, as, bs, i6, pt⟩
  obtain ⟨eP, eH⟩ := qFa (ws := ts.map (·.wt)) (snoc_at (qAs (ts.map (·.row)) w) (ts.map (·.want)))
  obtain ⟨iP, iH⟩ := gsR_init (qAs (ts.map (·.row)) w) (ts.map (·.want)) (ts.map (·.wt))
  rw [iP] at eP eH
  rw [iH] at eH
  have hPl := (qAp (ts.map (·.wt)) (qAs (ts.map (·.row)) w)).1
  simp_all [qBp, qFk, qBc i6 (show jBa ("wants" : Str) [(("wide" : Str), D.int (w : Int)), (("columns" : Str), .ref c), (("wants" : Str), .ref wa), (("weights" : Str), .ref we), (("parts" : Str), .ref pa)] = some (.ref wa) from rfl), qBc i6 (show jBa ("parts" : Str) [(("wide" : Str), D.int (w : Int)), (("columns" : Str), .ref c), (("wants" : Str), .ref wa), (("weights" : Str), .ref we), (("parts" : Str), .ref pa)] = some (.ref pa) from rfl), qBc i6 (show jBa ("weights" : Str) [(("wide" : Str), D.int (w : Int)), (("columns" : Str), .ref c), (("wants" : Str), .ref wa), (("weights" : Str), .ref we), (("parts" : Str), .ref pa)] = some (.ref we) from rfl)]
  refine parted_w (n := ts.length) (k := (qAs (ts.map (·.row)) w).length) (m := 150) (V := 264000) (A := 530000) (q := 70) ra pt rw6 (by simp) hwl hpos (qCa hRw) (fun j sh hj => qCb hj) hPl hwant B.P B.H (fun x hx => ?_) hq70 (fun rr hr x hx => ?_) hB1 hB2 hB3 (by omega) (by omega) fun S7 n1 n2 l7 _ nn2 _ r1 r2 => ?_
  ·obtain ⟨l, hl, rfl⟩ := jCe.mp hx
   obtain ⟨j, hj⟩ := jD3 hl
   have hjl : j < (qAs (ts.map (·.row)) w).length := by rw [<- hPl]; exact (jAr.mp hj).1
   have := B'.A (qAs (ts.map (·.row)) w).length j (by simp) hjl
   unfold gsA at this
   rw [yB (snoc_at (qAs (ts.map (·.row)) w) (ts.map (·.want))), <- qE4 hjl, iP, yB hj] at this
   exact this
  ·obtain ⟨sh, hsh, rfl⟩ := jCe.mp hr
   obtain ⟨j, hj⟩ := jD3 hsh
   have hjl : j < (qAs (ts.map (·.row)) w).length := by rw [<- (qAp (ts.map (·.wt)) (qAs (ts.map (·.row)) w)).2]; exact (jAr.mp hj).1
   exact B.M j sh (qAs (ts.map (·.row)) w).length hj (by omega) x hx
  ·refine qFf (l7.ins i6) (by simp) fun S' _ i kl k => ?_
   have r1' : RowA S7 n1 (zR (gsR (qAs (ts.map (·.row)) w ++ [ts.map (·.want)]) (ts.map (·.wt))).P w) := by
    have := yB eP
    rw [hRl, jBd] at this
    rw [this]
    exact r1
   have r2' : RowA S7 n2 (zR (gsR (qAs (ts.map (·.row)) w ++ [ts.map (·.want)]) (ts.map (·.wt))).H w) := by
    have e := yB eH
    have r2 := r2
    rw [<- e, hRl] at r2
    exact r2
   refine ⟨rfl, k _ (l6.trans l7) (jAx _), c, wa, we, pa, n1, n2, cs, as, bs, jAj l6.len nn2, ⟨i, ⟨kl _ _ (l7.lst tc.1), tc.2.1, fun i b r h1 h2 => kl _ _ (l7.lst (tc.2.2 i b r h1 h2))⟩, kl _ _ (l7.lst ra), kl _ _ (l7.lst rw6), ⟨kl _ _ (l7.lst pt.at'), pt.la, pt.lb, pt.lh, fun i a r h1 h2 => kl _ _ (l7.lst (pt.left i a r h1 h2)), fun i a r h1 h2 => kl _ _ (l7.lst (pt.shs i a r h1 h2))⟩, kl _ _ r1', kl _ _ r2'⟩⟩
 obtain ⟨d, S', e0, rfl, h1, c, wa, we, pa, n1, n2, cs, as, bs, hn2, h2⟩ := e.out
 unfold mkA
 rw [e0]
 show W (some (.ok (D.ref S.length) S')) _
 rw [W_ok]
 exact ⟨h1, S.length, c, wa, we, pa, n1, n2, cs, as, bs, rfl, ⟨jAx _, hn2⟩, h2⟩
section
variable {S : Sto} {p s n w l : Nat} {ts : List Pt}
theorem al2_tab (n : Nat) : ∀ {T : List (List Rat)} {as bs : List Nat}, as.length = T.length -> bs.length = T.length -> (∀ (i b : Nat) r, as[i]? = some b -> T[i]? = some r -> RowA S b r) -> (∀ (i b : Nat) r, bs[i]? = some b -> T[i]? = some r -> RowA S b r) -> (∀ r ∈ T, r.length <= 1000) -> Al2 (Al S (n + 3)) (as.map D.ref) (bs.map D.ref)
 | [], [], [], _, _, _, _, _ => trivial
 | r :: T, x :: as, y :: bs, la, lb, ra, rb, h => ⟨al_row n (ra 0 x r rfl rfl) (rb 0 y r rfl rfl) (h r (.head _)), al2_tab n (by simpa using la) (by simpa using lb) (fun i b q h1 h2 => ra (i + 1) b q h1 h2) (fun i b q h1 h2 => rb (i + 1) b q h1 h2) fun q hq => h q (.tail _ hq)⟩
theorem al_tab {a b : Nat} {as bs : List Nat} {T : List (List Rat)} (n : Nat) (ha : TabR S a as T) (hb : TabR S b bs T) (h1 : T.length <= 1000) (h2 : ∀ r ∈ T, r.length <= 1000) : Al S (n + 4) (.ref a) (.ref b) :=
 .inr (.inr ⟨a, b, _, _, rfl, rfl, ha.1, hb.1, by rw [jBd, ha.2.1]; exact h1, al2_tab n ha.2.1 hb.2.1 ha.2.2 hb.2.2 h2⟩)
end
end Nm
end
section
namespace Nm
open Np PySem
def BoX (S : Sto) (p s n w l : Nat) (ts : List Pt) (M : List Nat) (xs : List D) (st : Nat) : Prop := ∃ ss k ps q r, Two S p s ss st k ps xs w l q r w l /\ q.map (·.1) = ts /\ r.map (·.1) = ts /\ xs.length <= n /\ Ok n w l ts /\ M = ss :: s :: ps :: r.map (·.2)
theorem BoX.mono (h : BoX S p s n w l ts M xs st) (e : SLe S S') : BoX S' p s n w l ts M xs st := by
 obtain ⟨ss, k, ps, q, r, T, h2⟩ := h
 exact ⟨ss, k, ps, q, r, T.mono e, h2⟩
def Sub (ts' ts : List Pt) : Prop := ∀ t ∈ ts', ∃ u ∈ ts, t.want = u.want /\ t.wt = u.wt /\ ∀ x ∈ t.row, x ∈ u.row
theorem sub_erase (ts : List Pt) (a : Nat) : Sub (ts.eraseIdx a) ts := fun t ht => ⟨t, jEq ht, rfl, rfl, fun _ h => h⟩
theorem sub_drop (ts : List Pt) : Sub (ts.map fun t => { t with row := t.row.dropLast }) ts := fun t ht => by
 obtain ⟨u, hu, rfl⟩ := jCe.mp ht
 exact ⟨u, hu, rfl, rfl, fun x hx => List.dropLast_subset _ hx⟩
def Left (S S' : Sto) (M M' : List Nat) : Prop := Bts M S S' /\ ∀ a ∈ M', a ∈ M \/ S.length <= a
theorem Bts.sub (h : Bts L S S') (k : ∀ a ∈ L, a ∈ L') : Bts L' S S' := ⟨h.1, fun b hb hn => h.2 b hb fun z => hn (k b z)⟩
theorem Bts.sle (h : Bts L S S') (k : SLe S' S'') : Bts L S S'' := ⟨jAj h.1 k.len, fun b hb hn => by rw [k.get (jAd hb h.1), h.2 b hb hn]⟩
theorem Bts.off (h : Bts L S S') (k : Bt a S' S'') (ha : S.length <= a \/ a ∈ L) : Bts L S S'' := ⟨jAj h.1 k.1, fun b hb hn => by
 rw [k.2 b (jAd hb h.1) (fun e => by
  rcases ha with z | z
  ·omega
  ·exact hn (e ▸ z)), h.2 b hb hn]⟩
theorem Bts.off2 (h : Bts L S S') (k : Bts L2 S' S'') (ha : ∀ a ∈ L2, a ∈ L) : Bts L S S'' := h.trans (k.sub ha)
theorem SLe.bts (h : SLe S S') : Bts L S S' := ⟨h.len, fun _ hb _ => h.get hb⟩
section
variable {S : Sto} {p s n w l : Nat} {ts : List Pt} {M : List Nat} {xs : List D} {st : Nat}
theorem takenX_w (h : BoX S p s n w l ts M xs st) (hn : n <= 900) (h0 : ts ≠ []) : W (F.k52_taken [.ref p, .ref s, .int m] S) fun d S' => ∃ ts' M' st', ts'.length <= ts.length /\ Sub ts' ts /\ BoX S' p s (n + 1) w l ts' M' (xs ++ [.ref st]) st' /\ Left S S' M M' := by
 obtain ⟨ss, k, ps, q, r, T, eq, er, hx, O, rfl⟩ := h
 have lq : q.length = ts.length := by rw [<- eq]; simp
 have lr : r.length = ts.length := by rw [<- er]; simp
 have ol := O.len
 have lt : 0 < ts.length := List.length_pos_iff.mpr h0
 have hne : ((r.map ptD).length : Int) ≠ 0 := by rw [jBd]; omega
 obtain ⟨f1, f2⟩ := qBl m (show (0 : Int) < ((r.map ptD).length : Int) by rw [jBd]; omega)
 obtain ⟨a, ha⟩ : ∃ a : Nat, m.fmod ((r.map ptD).length : Int) = (a : Int) := ⟨(m.fmod ((r.map ptD).length : Int)).toNat, by omega⟩
 rw [jBd] at f2
 have ha' : a < r.length := by rw [jBd] at ha; omega
 have hy : r[a]? = some r[a] := jEl ha'
 have hpy : (r.map ptD)[a]? = some (ptD r[a]) := by rw [jBu, hy]; rfl
 (unfold F.k52_taken; refine Np.W_fnF rfl ?_; unfold Den.k52_taken; simp_all [])
 simp_all [qA8 T.L.st rfl, qAe T.L.pt.1, qAi hne, ha, qAa, T.P.meth (m := "take") rfl, qAr, qAg T.L.pt.1 hpy]
 unfold ptD
 simp_all [tix4_0]
 have hm : r[a].1.num ∈ q.map (·.1.num) := by
  rw [nmap, eq, <- er, <- nmap]
  exact jCe.mpr ⟨r[a], jDs ha', rfl⟩
 refine (take_w T.P (by omega) (by omega) hm).mono ?_
 intro d S1 N
 obtain ⟨st', k', q', T1, b1, n1, n2, n3, e1⟩ := T.step N
 have hta : ts[a]? = some r[a].1 := by rw [<- er, jBu, hy]; rfl
 rw [eq, qDn O.nums hta] at e1
 simp_all [qA8 T1.L.st rfl, qAv T1.L.pt.1]
 refine W_popAtB T1.L.pt.1 hpy (by omega) fun S2 b2 l2 r2 => ?_
 have T2 : Two S2 p s ss st' k' ps (xs ++ [.ref st]) w l q' (r.eraseIdx a) w l := by
  refine T1.setP (by rw [r2, qBv]) b2 (fun x hx => ?_) (fun x hx => ?_) ?_ fun x hx y hy => T1.qr x hx y (jEq hy)
  ·have nr : r ≠ [] := fun z => by rw [z] at ha'; simp at ha'
   exact (qDj T1.L.pt.1 (T1.P.kp.2 x hx) (qA6 nr)).symm
  ·have hx' := jEq hx
   have nr : r ≠ [] := fun z => by rw [z] at ha'; simp at ha'
   exact ⟨(qDj T1.L.pt.1 (T1.L.pt.2 x hx') (qA6 nr)).symm, T1.L.pt.2 x hx'⟩
  ·rw [qBv]
   exact T1.L.nd.sublist (jEr ..)
 refine ⟨ts.eraseIdx a, _, st', jEs ts a, sub_erase ts a, ⟨ss, k', ps, q', r.eraseIdx a, T2, e1, by rw [qBv, er], by simp; omega, ⟨?_, O.wide, by have := O.laid; omega, ?_, fun t ht => O.each t (jEq ht)⟩, rfl⟩, (b1.bts (by simp)).off b2 (.inr (by simp)), fun z hz => ?_⟩
 ·have := jEs ts a
  omega
 ·rw [qBv]
  exact O.nums.sublist (jEr ..)
 ·left
  rw [qBv] at hz
  simp only [jAo] at hz ⊢
  rcases hz with hz | hz | hz | hz
  ·exact .inl hz
  ·exact .inr (.inl hz)
  ·exact .inr (.inr (.inl hz))
  ·exact .inr (.inr (.inr (jEq hz)))
theorem narrowedX_w (h : BoX S p s n (w + 1) l ts M xs st) (hn : n <= 900) : W (F.k52_narrowed [.ref p, .ref s] S) fun d S' => ∃ ts' M' st', ts'.length <= ts.length /\ Sub ts' ts /\ BoX S' p s (n + 1) w l ts' M' (xs ++ [.ref st]) st' /\ Left S S' M M' := by
 obtain ⟨ss, k, ps, q, r, T, eq, er, hx, O, rfl⟩ := h
 have lq : q.length = ts.length := by rw [<- eq]; simp
 have lr : r.length = ts.length := by rw [<- er]; simp
 have ol := O.len
 (unfold F.k52_narrowed; refine Np.W_fnF rfl ?_; unfold Den.k52_narrowed; simp_all [])
 simp_all [qAa, T.P.meth (m := "narrow") rfl, qAr]
 refine (narrow_w T.P (by omega) (by omega)).mono ?_
 intro d S1 N
 obtain ⟨st', k', q', T1, b1, n1, n2, n3, e1⟩ := T.step N
 rw [eq] at e1
 have lq' : q'.length = r.length := by
  have := congrArg jBp e1
  simp at this
  omega
 simp_all [qA8 T1.L.st rfl, qAn T1.L.pt.1]
 have O1 := T1.off lq'
 refine qDo (r.map ptD) (fun i δ S' => Bts (r.map (·.2)) S1 S' /\ (∀ (j : Nat) y, r[j]? = some y -> RowA S' y.2 (if j < i then y.1.row.dropLast else y.1.row)) /\ ∃ o, δ = [some (.ref p), some (.ref s), o]) (by rw [qAk T1.L.pt.1]; exact jAx _) ⟨Bts.rfl, fun j y hy => by rw [if_neg (by omega)]; exact T1.L.pt.2 y (jBv hy), _, rfl⟩ ?_ ?_ ?_
 ·rintro i δ S' ⟨b, _, _⟩
  refine qBs (b.lst (fun hm => ?_) T1.L.pt.1) i
  obtain ⟨y, hy, e⟩ := jCe.mp hm
  exact (O1 y hy).2.2.2.2.2.2 e.symm
 ·rintro i x δ S' hx ⟨b, hr, o, rfl⟩
  obtain ⟨y, hy, rfl⟩ := qEh hx
  have hym := jBv hy
  have ry := hr i y hy
  rw [if_neg (by omega)] at ry
  have hyl : y.1.row.length = w + 1 := (O.each y.1 (by rw [<- er]; exact jCe.mpr ⟨y, hym, rfl⟩)).2.1
  have hsp : y.1.row.map ratD = y.1.row.dropLast.map ratD ++ [ratD (y.1.row.getLast (fun z => by rw [z] at hyl; simp at hyl))] := by
   conv => lhs; rw [<- List.dropLast_concat_getLast (fun z => by rw [z] at hyl; simp at hyl : y.1.row ≠ [])]
   simp
  unfold ptD
  simp_all [qE2]
  refine W_popB (show zH S' y.2 = some _ by rw [ry, hsp]) fun S2 b2 l2 r2 => ?_
  refine ⟨b.trans (b2.bts (jCe.mpr ⟨y, hym, rfl⟩)), fun j z hz => ?_, _, rfl⟩
  by_cases hj : j = i
  ·subst hj
   rw [hy] at hz
   obtain rfl := Option.some.inj hz
   rw [if_pos (by omega)]
   exact r2
  ·have hz' := hr j z hz
   have : (if j < i + 1 then z.1.row.dropLast else z.1.row) = (if j < i then z.1.row.dropLast else z.1.row) := by
    by_cases hlt : j < i
    ·rw [if_pos hlt, if_pos (by omega)]
    ·rw [if_neg hlt, if_neg (by omega)]
   rw [this]
   exact b2.lst (nodup_two T1.L.nd hy hz (Ne.symm hj)) hz'
 ·rintro δ S2 ⟨b, hr, o, rfl⟩
  have T2 : Two S2 p s ss st' k' ps (xs ++ [.ref st]) w l q' (r.map fun y => ({ y.1 with row := y.1.row.dropLast }, y.2)) (w + 1) l := by
   refine T1.setR lq' b (by rw [jCh]; rfl) (by rw [jCh]; rfl) fun x hx => ?_
   obtain ⟨y, hy, rfl⟩ := jCe.mp hx
   obtain ⟨j, hj⟩ := jD3 hy
   have := hr j y hj
   rw [if_pos (by rw [jBd]; exact (jAr.mp hj).1)] at this
   exact this
  have hw1 : ((w + 1 : Nat) : Int) - 1 = (w : Int) := by omega
  simp_all [qB0 T2.L.st rfl, hw1, qEv, setXK]
  refine W_setB (i := 0) T2.L.st (by simp) fun S3 b3 l3 r3 => ?_
  have T3 : Two S3 p s ss st' k' ps (xs ++ [.ref st]) w l q' (r.map fun y => ({ y.1 with row := y.1.row.dropLast }, y.2)) w l := T2.setS r3 b3
  refine ⟨_, _, st', by simp, sub_drop ts, ⟨ss, k', ps, q', _, T3, e1, ?_, by simp; omega, ⟨by simp; omega, by have := O.wide; omega, by have := O.laid; omega, ?_, fun t ht => ?_⟩, rfl⟩, ((b1.bts (by simp)).off2 b (fun a ha => by simp only [jAo]; exact .inr (.inr (.inr ha)))).off b3 (.inr (by simp)), fun z hz => ?_⟩
  ·rw [jCh, <- er, jCh]; rfl
  ·rw [jCh]; exact O.nums
  ·obtain ⟨u, hu, rfl⟩ := jCe.mp ht
   obtain ⟨g1, g2, g3, g4, g5, g6⟩ := O.each u hu
   exact ⟨g1, by simp [g2], fun x hx => g3 x (List.dropLast_subset _ hx), g4, g5, g6⟩
  ·left
   rw [jCh] at hz
   exact hz
end
end Nm
end
section
namespace Nm
open Np PySem
abbrev gPa (w : Nat) (ts : List Pt) : List (List Rat) := (gsR (colP w ts) (ts.map (·.wt))).P
abbrev gHa (w : Nat) (ts : List Pt) : List (List Rat) := (gsR (colP w ts) (ts.map (·.wt))).H
def stl (r : List Rat) : Bool := r.all fun x => decide (x = 0)
def qF3 (w : Nat) (ts : List Pt) : List Nat := (jAg w).filter fun i => stl (zR (gPa w ts) i)
def wayL (w : Nat) (ts : List Pt) : List (List Rat) := (qF3 w ts).map fun k => molR (zR (gHa w ts) k) w
abbrev qEw (w : Nat) (ts : List Pt) : List Rat := zR (gsR (colP w ts ++ [ts.map (·.want)]) (ts.map (·.wt))).P w
abbrev shaR (w : Nat) (ts : List Pt) : List Rat := zR (gsR (colP w ts ++ [ts.map (·.want)]) (ts.map (·.wt))).H w
section
variable {w : Nat} {ts : List Pt}
theorem colP_len : (colP w ts).length = w := qBa _ _
theorem qF2 : (gPa w ts).length = w := by rw [(qAp _ _).1]; exact qBa _ _
theorem gHa_len : (gHa w ts).length = w := by rw [(qAp _ _).2]; exact qBa _ _
theorem Sml.wideC (h : Sml w ts) : Wide (colP w ts) ts.length := by
 have := qC7 (ts.map (·.row)) w
 rwa [jBd] at this
theorem Sml.leW (h : Sml w ts) : ∀ x ∈ ts.map (·.wt), Le 70 x := fun x hx => by
 obtain ⟨t, ht, rfl⟩ := jCe.mp hx
 exact (h.each t ht).2.2.2.1
theorem gP_wide (h : Sml w ts) : Wide (gPa w ts) ts.length := qCa h.wideC
theorem qFr : qEw w ts ∈ (gsR (colP w ts ++ [ts.map (·.want)]) (ts.map (·.wt))).P := by
 have hl := (qAp (ts.map (·.wt)) (colP w ts ++ [ts.map (·.want)])).1
 rw [jBw, colP_len] at hl
 obtain ⟨r, hr⟩ := zQ (show w < (gsR (colP w ts ++ [ts.map (·.want)]) (ts.map (·.wt))).P.length by rw [hl]; simp)
 show zR _ w ∈ _
 rw [yB hr]
 exact jBv hr
end
theorem qGe {src : Src} {g : DG} {t : DT} {e : DE} {base : DS} {k : Nat} {S0 : Sto} (vals : D -> List (Option D)) {xs : List D} {P : D -> Prop} (p : D -> Bool) (f : D -> D) (hg : Tg g k vals base P) (hs : ∀ i S', SLe S0 S' -> src.get S' i = some xs[i]?) (hP : ∀ x ∈ xs, P x)
  (step : ∀ x S', x ∈ xs -> SLe S0 S' -> W (t (base ++ vals x) S') fun b S2 => SLe S' S2 /\ b = p x /\ (p x = true -> W (e (base ++ vals x) S2) fun d S3 => d = f x /\ SLe S2 S3)) :
  ∀ n i os S', SLe S0 S' -> os.length = k -> i <= xs.length -> xs.length <= i + n -> W (qAt src g t e n i (base ++ os) S') fun ds S2 => SLe S' S2 /\ ds = ((xs.drop i).filter p).map f
 | 0, i, os, S', hS, ho, hi, hn => by
  unfold qAt
  rw [hs i S' hS, jCy (by omega), W_ok]
  exact ⟨SLe.rfl, by rw [jEt (by omega)]; rfl⟩
 | n + 1, i, os, S', hS, ho, hi, hn => by
  unfold qAt
  rw [hs i S' hS]
  by_cases h : i < xs.length
  ·have hx : xs[i] ∈ xs := jDs h
   rw [jEl h, jEn h]
   show W (bnd (g xs[i] (base ++ os) S') (qFd t e (qAt src g t e n (i + 1)))) _
   obtain ⟨e1, e2⟩ := hg xs[i] os S' ho (hP _ hx)
   rw [e1, bnd_ok]
   unfold qFd
   rw [W_bnd]
   refine (step _ S' hx hS).mono ?_
   rintro b S2 ⟨l2, rfl, hb⟩
   cases hp : p xs[i] with
   | true =>
    show W (bnd (e (base ++ vals xs[i]) S2) (qC0 (qAt src g t e n (i + 1)) (base ++ vals xs[i]))) _
    rw [W_bnd]
    refine (hb hp).mono ?_
    rintro d S3 ⟨rfl, l3⟩
    unfold qC0
    rw [W_bnd]
    refine (qGe vals p f hg hs hP step n (i + 1) (vals xs[i]) S3 (hS.trans (l2.trans l3)) e2 h (by omega)).mono ?_
    rintro ds S4 ⟨l4, rfl⟩
    unfold consK
    rw [W_ok]
    exact ⟨l2.trans (l3.trans l4), by rw [List.filter_cons_of_pos hp]; rfl⟩
   | false =>
    show W (qAt src g t e n (i + 1) (base ++ vals xs[i]) S2) _
    refine (qGe vals p f hg hs hP step n (i + 1) (vals xs[i]) S2 (hS.trans l2) e2 h (by omega)).mono ?_
    rintro ds S4 ⟨l4, rfl⟩
    exact ⟨l2.trans l4, by rw [List.filter_cons_of_neg (by simp [hp])]⟩
  ·rw [jCy (by omega)]
   show W (some (.ok [] S')) _
   rw [W_ok]
   exact ⟨SLe.rfl, by rw [jEt (by omega)]; rfl⟩
theorem W_compF {it : DI} {g : DG} {t : DT} {e : DE} {base : DS} {k : Nat} {S : Sto} {Q : D -> Sto -> Prop} (vals : D -> List (Option D)) (xs : List D) (P : D -> Prop) (p : D -> Bool) (f : D -> D) (hg : Tg g k vals base P) (hP : ∀ x ∈ xs, P x)
  (hit : W (it base S) fun src S' => xs.length <= src.len S' /\ src.len S' <= 1000000 /\ SLe S S' /\ ∀ i S'', SLe S' S'' -> src.get S'' i = some xs[i]?)
  (step : ∀ x S', x ∈ xs -> SLe S S' -> W (t (base ++ vals x) S') fun b S2 => SLe S' S2 /\ b = p x /\ (p x = true -> W (e (base ++ vals x) S2) fun d S3 => d = f x /\ SLe S2 S3))
  (fin : ∀ S' b, SLe S S' -> S.length <= b -> zH S' b = some ((xs.filter p).map f) -> Q (.ref b) S') : W (qC1 it k g t e base S) Q := by
 obtain ⟨src, S0, e0, h1, h2, h3, h4⟩ := hit.out
 unfold qC1
 rw [e0, bnd_ok]
 unfold compIL
 rw [if_pos h2, W_bnd, W_noer]
 refine (qGe vals p f hg h4 hP (fun x S' hx hS => step x S' hx (h3.trans hS)) _ 0 (jBm k none) S0 SLe.rfl (by simp) (jBg _) (by omega)).mono ?_
 rintro ds S2 ⟨l2, rfl⟩
 exact W.intro rfl (fin _ _ ((h3.trans l2).push _) (h3.trans l2).len (by rw [qAb]; rfl))
def enmG (xs : List D) : List D := (jAg xs.length).map fun i => D.tup [.int (i : Nat), xs.getD i .non]
theorem get_enmG (h : zH S a = some xs) (i : Nat) : (Src.enm a).get S i = some (enmG xs)[i]? := by
 show (match zH S a with | some xs => some (enm1 i xs[i]?) | none => none) = _
 rw [h]
 show some (enm1 i xs[i]?) = _
 unfold enmG
 by_cases hi : i < xs.length
 ·simp [enm1, hi]
 ·simp [enm1, hi, jCy (show xs.length <= i by omega)]
section
variable {S : Sto} {f w c wa we pa n1 n2 : Nat} {ts : List Pt} {cs as bs : List Nat}
theorem FtA.fl (h : FtA S f w ts c wa we pa n1 n2 cs as bs) (e : (ftF w c wa we pa (.tup [.ref n1, .ref n2])).lookup x = some d) : fldD "Fit" x (.ref f) S = ok d S := qBc h.ins e
theorem FtA.me (h : FtA S f w ts c wa we pa n1 n2 cs as bs) (e : (ftF w c wa we pa (.tup [.ref n1, .ref n2])).lookup m = none) : qEx "Fit" m Fm as' δ (.ref f) S = bnd (as' δ S) (qAr Fm (.ref f)) := qFs h.ins e
theorem told_w (h : FtA S f w ts c wa we pa n1 n2 cs as bs) : W (F.Fit_told [.ref f] S) fun d S' => SLe S S' /\ ∃ b, d = .ref b /\ RowA S' b (shaR w ts) /\ S.length <= b := by
 (unfold F.Fit_told; refine Np.W_fnF rfl ?_; unfold Den.Fit_told; simp_all [])
 simp_all [h.fl (x := "near") rfl, show ixD (.tup [.ref n1, .ref n2]) (.int 1) S = ok (.ref n2) S from rfl]
 refine qAx (qA9 h.sha) fun S1 b l1 n1 r1 => ?_
 exact ⟨l1, b, rfl, r1, n1⟩
theorem rests_w (h : FtA S f w ts c wa we pa n1 n2 cs as bs) : W (F.Fit_rests [.ref f] S) fun d S' => SLe S S' /\ ∃ b, d = .ref b /\ RowA S' b (qEw w ts) := by
 (unfold F.Fit_rests; refine Np.W_fnF rfl ?_; unfold Den.Fit_rests; simp_all [])
 simp_all [h.fl (x := "near") rfl, show ixD (.tup [.ref n1, .ref n2]) (.int 0) S = ok (.ref n1) S from rfl]
 refine qAx (qA9 h.nea) fun S1 b l1 n1 r1 => ?_
 exact ⟨l1, b, rfl, r1⟩
theorem qD5 (h : FtA S f w ts c wa we pa n1 n2 cs as bs) (hs : Sml w ts) : W (F.Fit_squares [.ref f] S) fun d S' => SLe S S' /\ d = ratD (dotW (qEw w ts) (qEw w ts) (ts.map (·.wt))) := by
 have hl := hs.len
 have nl : (qEw w ts).length = ts.length := qCa (n := ts.length) (rows := colP w ts ++ [ts.map (·.want)]) (fun r hr => by
  rcases jAp.mp hr with hr | hr
  ·exact hs.wideC r hr
  ·rw [jCr.mp hr]; simp) _ qFr
 (unfold F.Fit_squares; refine Np.W_fnF rfl ?_; unfold Den.Fit_squares; simp_all [])
 simp_all [h.fl (x := "near") rfl, h.fl (x := "weights") rfl, show ixD (.tup [.ref n1, .ref n2]) (.int 0) S = ok (.ref n1) S from rfl]
 exact square_w h.nea h.wei (fun x hx => hs.gb2.P _ qFr x hx) hs.leW (by rw [nl]; omega) (by rw [nl]; omega)
theorem PtR.ix (h : PtR S t as bs P H) (hi : i < P.length) : ∃ a b, (jDk (fun a b => D.tup [.ref a, .ref b]) as bs)[i]? = some (.tup [.ref a, .ref b]) /\ RowA S a (zR P i) /\ RowA S b (zR H i) := by
 obtain ⟨a, ha⟩ := zQ (show i < as.length by rw [h.la]; exact hi)
 obtain ⟨b, hb⟩ := zQ (show i < bs.length by rw [h.lb]; exact hi)
 obtain ⟨r, hr⟩ := zQ hi
 obtain ⟨z, hz⟩ := zQ (show i < H.length by rw [h.lh]; exact hi)
 exact ⟨a, b, by rw [jDl, ha, hb], by rw [yB hr]; exact h.left i a r ha hr, by rw [yB hz]; exact h.shs i b z hb hz⟩
theorem free_w (h : FtA S f w ts c wa we pa n1 n2 cs as bs) (hs : Sml w ts) : W (F.Fit_free [.ref f] S) fun d S' => SLe S S' /\ ∃ b, d = .ref b /\ zH S' b = some ((qF3 w ts).map natD) := by
 have hw := hs.wide
 have zl : (jDk (fun a b => D.tup [.ref a, .ref b]) as bs).length = w := by
  have h1 := h.par.la
  have h2 := h.par.lb
  rw [qF2] at h1 h2
  simp [h1, h2]
 (unfold F.Fit_free; refine Np.W_fnF rfl ?_; unfold Den.Fit_free; simp_all [])
 refine W_compF _ (enmG (jDk (fun a b => D.tup [.ref a, .ref b]) as bs)) _ (fun x => match x with | .tup (.int i :: _) => stl (zR (gPa w ts) i.toNat) | _ => false) (fun x => match x with | .tup (y :: _) => y | x => x) (tg_two [some (.ref f)]) (fun x hx => ?_) ?_ ?_ ?_
 ·obtain ⟨i, _, rfl⟩ := jCe.mp hx
  exact ⟨_, _, rfl⟩
 ·simp_all [h.fl (x := "parts") rfl, enumD_ref h.par.at', itA]
  exact ⟨by rw [len_enm h.par.at']; simp [enmG], by rw [len_enm h.par.at', zl]; omega, SLe.rfl, fun i S'' l => get_enmG (l.lst h.par.at') i⟩
 ·intro x S' hx l
  obtain ⟨i, hi, rfl⟩ := jCe.mp hx
  rw [jAi, zl] at hi
  obtain ⟨a, b, e, ra, rb⟩ := h.par.ix (i := i) (by rw [qF2]; exact hi)
  have eg : (jDk (fun a b => D.tup [.ref a, .ref b]) as bs).getD i .non = .tup [.ref a, .ref b] := by rw [jD7, e]; rfl
  rw [eg]
  have hl : (zR (gPa w ts) i).length <= 1000000 := by
   obtain ⟨r, hr⟩ := zQ (show i < (gPa w ts).length by rw [qF2]; exact hi)
   rw [yB hr, gP_wide hs r (jBv hr)]
   have := hs.len
   omega
  obtain ⟨o, eo⟩ := qEn (l.lst ra) hl
  show W (tv (fnE F.is_still (yF (op2 ixD (vr 2) (cst (.int 0))) aNil)) [some (.ref f), some (.int (i : Nat)), some (.tup [.ref a, .ref b])] S') _
  simp_all [show ixD (.tup [.ref a, .ref b]) (.int 0) S' = ok (.ref a) S' from rfl, eo]
  exact ⟨SLe.app _, by simp [stl], fun _ => W.intro rfl ⟨rfl, SLe.rfl⟩⟩
 ·intro S' b l n e
  refine ⟨l, b, rfl, ?_⟩
  rw [e]
  unfold enmG qF3
  rw [zl, List.filter_map, jCh]
  rfl
theorem ways_w (h : FtA S f w ts c wa we pa n1 n2 cs as bs) (hs : Sml w ts) : W (F.Fit_ways [.ref f] S) fun d S' => SLe S S' /\ ∃ b ds, d = .ref b /\ TabR S' b ds (wayL w ts) := by
 have hw := hs.wide
 have fl : (qF3 w ts).length <= w := by
  have := jEu (fun i => stl (zR (gPa w ts) i)) (jAg w)
  rwa [jD4] at this
 (unfold F.Fit_ways; refine Np.W_fnF rfl ?_; unfold Den.Fit_ways; simp_all [])
 refine W_compT _ ((qF3 w ts).map natD) (wayL w ts) _ (qBh [some (.ref f)]) (fun _ _ => trivial) (by simp [wayL]) ?_ ?_ ?_
 ·simp_all [qAa, h.me (m := "free") rfl, qAr]
  refine (free_w h hs).mono ?_
  rintro d S1 ⟨l1, b, rfl, e1⟩
  simp_all [qAn e1]
  exact ⟨by rw [qAk e1]; exact jAx _, by rw [qAk e1]; simp; omega, l1, fun i S'' l => qBs (l.lst e1) i⟩
 ·intro i x r S' hx hr l
  rw [jBu] at hx
  unfold wayL at hr
  rw [jBu] at hr
  cases hk : (qF3 w ts)[i]? with
  | none => rw [hk] at hx; cases hx
  | some k =>
   rw [hk] at hx hr
   obtain rfl := Option.some.inj hx
   obtain rfl := Option.some.inj hr
   have hkw : k < w := jAi.mp (jAh.mp (jBv hk)).1
   have h' := h.mono l
   obtain ⟨a, b, e, ra, rb⟩ := h'.par.ix (i := k) (by rw [qF2]; exact hkw)
   obtain ⟨z, hz⟩ := zQ (show k < (gHa w ts).length by rw [gHa_len]; exact hkw)
   have hzl := qCb hz
   rw [yB hz] at rb
   show W (fnE F.mix_of_left _ [some (.ref f), some (.int (k : Nat))] S') _
   rw [show ((fun k => molR (zR (gHa w ts) k) w) k) = molR z w from congrArg (molR · w) (yB hz)]
   simp_all [h'.fl (x := "parts") rfl, h'.fl (x := "wide") rfl, qAg h'.par.at' e, show ixD (.tup [.ref a, .ref b]) (.int 1) S' = ok (.ref b) S' from rfl]
   exact qCy rb (by omega) (by omega) (fun x hx => hs.gb.H z (jBv hz) x hx) (by decide) fun S2 b' l2 n2 r2 => ⟨b', rfl, n2, l2, r2⟩
 ·intro S' b ds l ft
  exact ⟨l, b, ds, rfl, ft.tab⟩
end
end Nm
end
section
namespace Nm
open Np PySem
def pr3 : D -> Option D
 | .tup (_ :: _ :: y :: _) => some y
 | _ => none
def pr4 : D -> Option D
 | .tup (_ :: _ :: _ :: y :: _) => some y
 | _ => none
theorem tg_four (base : DS) : Tg (tupG [setG base.length, setG (base.length + 1), setG (base.length + 2), setG (base.length + 3)]) 4 (fun x => [pr1 x, pr2 x, pr3 x, pr4 x]) base fun x => ∃ p q r s, x = .tup [p, q, r, s] := fun x os S ho hp => by
 obtain ⟨p, q, r, s, rfl⟩ := hp
 match os, ho with
 | [o, o', o2, o3], _ => exact ⟨by simp [tupG, tupGs, setG, pr1, pr2, pr3, pr4, jCx], rfl⟩
theorem W_compG (dd : Pt × Nat -> D) (vals : D -> List (Option D)) (xs : List D) (P : D -> Prop) (hP : ∀ x ∈ xs, P x) (hg : Tg g kk vals base P) (ts : List Pt) (hl : ts.length = xs.length)
  (hit : W (it base S) fun src S' => S' = S /\ xs.length <= src.len S /\ src.len S <= 1000000 /\ ∀ i S'', SLe S S'' -> src.get S'' i = some xs[i]?)
  (step : ∀ (i : Nat) x t S', xs[i]? = some x -> ts[i]? = some t -> SLe S S' -> W (e (base ++ vals x) S') fun d S'' => SLe S' S'' /\ ∃ c, S'.length <= c /\ d = dd (t, c) /\ RowA S'' c t.row)
  (fin : ∀ (q' : List (Pt × Nat)) S' c, SLe S S' -> S.length <= c -> zH S' c = some (q'.map dd) -> (∀ x ∈ q', RowA S' x.2 x.1.row) -> q'.map (·.1) = ts -> (∀ x ∈ q', S.length <= x.2 /\ x.2 < c) -> (q'.map (·.2)).Nodup -> Q (.ref c) S') : W (qAj it kk g e base S) Q := by
 refine qCs vals xs (fun i acc S' => SLe S S' /\ ∃ q' : List (Pt × Nat), acc = q'.map dd /\ q'.map (·.1) = ts.take i /\ (∀ x ∈ q', S.length <= x.2 /\ x.2 < S'.length /\ RowA S' x.2 x.1.row) /\ (q'.map (·.2)).Nodup) P hP hg ?_ ?_ ?_
 ·refine hit.mono ?_
  rintro src S' ⟨rfl, h1, h2, h3⟩
  exact ⟨h1, h2, ⟨SLe.rfl, [], rfl, by simp, fun _ h => (by cases h), .nil⟩, fun i acc S'' h => h3 i S'' h.1⟩
 ·rintro i x acc S' hx ha ⟨l1, q', rfl, hq, hr, nd⟩
  have hi : i < ts.length := by rw [hl]; exact (jAr.mp hx).1
  have ht : ts[i]? = some ts[i] := jEl hi
  refine (step i x ts[i] S' hx ht l1).mono ?_
  rintro d S'' ⟨l2, c, hc, rfl, rc⟩
  have e1 := l1.len
  have e2 := qAd rc
  have e3 := l2.len
  refine ⟨l1.trans l2, q' ++ [(ts[i], c)], by simp, ?_, fun y hy => ?_, ?_⟩
  ·rw [jEj, hq, jDo, ht]
   rfl
  ·rcases jAp.mp hy with h | h
   ·have := hr y h
    exact ⟨this.1, by omega, l2.lst this.2.2⟩
   ·rw [jCr.mp h]
    exact ⟨by show S.length <= c; omega, e2, rc⟩
  ·rw [jEj]
   refine jEv.mpr ⟨nd, by simp, fun a ha b hb => ?_⟩
   obtain ⟨y, hy, rfl⟩ := jCe.mp ha
   have := (hr y hy).2.1
   obtain rfl : b = c := by simpa using hb
   omega
 ·rintro acc S' ⟨l1, q', rfl, hq, hr, nd⟩ _
  rw [<- hl, jDp] at hq
  exact fin q' _ _ (l1.push _) l1.len (qAb S' _) (fun x hx => (SLe.rfl.push _).lst (hr x hx).2.2) hq (fun x hx => ⟨(hr x hx).1, (hr x hx).2.1⟩) nd
theorem tup3f (x y z : D) (S : Sto) : tupD [x, y, z] S = ok (.tup [x, y, z]) S := rfl
theorem comp_rows (dd : Pt × Nat -> D) (h : PtsA S ps r) (er : r.map (·.1) = ts) (hl : r.length <= 1000) (hit : it base S = ok (.one ps) S)
  (step : ∀ (y : Pt × Nat) S', y ∈ r -> SLe S S' -> W (e (base ++ [some (.int (y.1.num : Int)), some (.ref y.2), some (ratD y.1.want), some (ratD y.1.wt)]) S') fun d S'' => SLe S' S'' /\ ∃ c, S'.length <= c /\ d = dd (y.1, c) /\ RowA S'' c y.1.row)
  (fin : ∀ (q' : List (Pt × Nat)) S' c, SLe S S' -> S.length <= c -> zH S' c = some (q'.map dd) -> (∀ x ∈ q', RowA S' x.2 x.1.row) -> q'.map (·.1) = ts -> (∀ x ∈ q', S.length <= x.2 /\ x.2 < c) -> (q'.map (·.2)).Nodup -> Q (.ref c) S') : W (qAj it 4 (tupG [setG base.length, setG (base.length + 1), setG (base.length + 2), setG (base.length + 3)]) e base S) Q := by
 refine W_compG dd _ (r.map ptD) _ (fun x hx => ?_) (tg_four base) ts (by rw [<- er]; simp) ?_ ?_ fin
 ·obtain ⟨y, _, rfl⟩ := jCe.mp hx
  exact ⟨_, _, _, _, rfl⟩
 ·rw [hit, W_ok]
  exact ⟨rfl, by rw [qAk h.1]; exact jAx _, by rw [qAk h.1, jBd]; omega, fun i S'' l => qBs (l.lst h.1) i⟩
 ·intro i x t S' hx ht l
  obtain ⟨y, hy, rfl⟩ := qEh hx
  rw [<- er, jBu, hy] at ht
  obtain rfl := Option.some.inj ht
  exact step y S' (jBv hy) l
section
variable {S : Sto} {p ss st k : Nat} {xs : List D} {w l : Nat} {q : List (Pt × Nat)} {ts : List Pt}
theorem qA7 (h : Pl S p ss st k xs w l q) (e : q.map (·.1) = ts) (hs : Sml w ts) : W (F.Plane_fit [.ref p] S) fun d S' => SLe S S' /\ ∃ f c wa we pa n1 n2 cs as bs, d = .ref f /\ FtA S' f w ts c wa we pa n1 n2 cs as bs /\ S.length <= n2 := by
 have hl := hs.len
 have lq : q.length = ts.length := by rw [<- e]; simp
 unfold F.Plane_fit
 refine W_fnF rfl ?_
 rw [W_outF]
 unfold Den.Plane_fit
 refine qAh (fun δ' S' => S' = S /\ δ' = [some (.ref p), some (.ref st)]) ?_ ?_
 ·simp_all [h.f1, h.f2]
  exact ⟨_, rfl, trivial, rfl⟩
 rintro _ S' ⟨e', rfl⟩
 obtain rfl : S = S' := e'.symm
 have c1 : qAj (itE itL (op1 (fldD "State" "kept") (vr 1))) 1 (setG 2) (slE (vr 2) (atP (cst (.int 1))) noP) [some (.ref p), some (.ref st)] S = ok (.ref S.length) (S ++ [.lst (q.map tpD)]) := by
  refine (qCd (fun x => [some x]) (xs := q.map ptD) (f := fun x => match x with | .tup (_ :: r) => .tup r | x => x) (qBh [some (.ref p), some (.ref st)]) (src := .one k) (by simp only [itE, op1, vr, jCu, jCg, bnd_ok, h.f5, qAn h.kp.1]) (Has.one h.kp.1) (by rw [qAk h.kp.1]; simp; omega) (fun _ _ => trivial) fun x hx => by
   obtain ⟨y, _, rfl⟩ := jCe.mp hx
   rfl).trans ?_
  rw [jCh]
  rfl
 simp_all [mkE, c1]
 have la : SLe S (S ++ [.lst (q.map tpD)]) := SLe.app _
 simp_all [qBc (la.ins h.st) (show (stF (.int (w : Int)) (.int (l : Int)) (.ref k)).lookup ("wide" : Str) = some (.int (w : Int)) from rfl)]
 refine (fit_mk (qAb S _) (fun x hx => la.lst (h.kp.2 x hx)) (by rw [e]; exact hs)).mono ?_
 rintro d S1 ⟨l1, f, c, wa, we, pa, n1, n2, cs, as, bs, rfl, ⟨_, hn2⟩, F⟩
 rw [e] at F
 exact ⟨la.trans l1, f, c, wa, we, pa, n1, n2, cs, as, bs, rfl, F, jAj la.len hn2⟩
theorem plane_told_w (h : Pl S p ss st k xs w l q) (e : q.map (·.1) = ts) (hs : Sml w ts) : W (F.Plane_told [.ref p] S) fun d S' => SLe S S' /\ ∃ b, d = .ref b /\ RowA S' b (shaR w ts) /\ S.length <= b := by
 (unfold F.Plane_told; refine Np.W_fnF rfl ?_; unfold Den.Plane_told; simp_all [])
 simp_all [qAa, h.meth (m := "fit") rfl, qAr]
 refine (qA7 h e hs).mono ?_
 rintro d S1 ⟨l1, f, c, wa, we, pa, n1, n2, cs, as, bs, rfl, F, _⟩
 simp_all [F.me (m := "told") rfl, qAr]
 exact (told_w F).mono fun d S2 ⟨l2, b, e, r, n⟩ => ⟨l1.trans l2, b, e, r, jAj l1.len n⟩
theorem plane_free_w (h : Pl S p ss st k xs w l q) (e : q.map (·.1) = ts) (hs : Sml w ts) : W (F.Plane_free [.ref p] S) fun d S' => SLe S S' /\ ∃ b, d = .ref b /\ zH S' b = some ((qF3 w ts).map natD) := by
 (unfold F.Plane_free; refine Np.W_fnF rfl ?_; unfold Den.Plane_free; simp_all [])
 simp_all [qAa, h.meth (m := "fit") rfl, qAr]
 refine (qA7 h e hs).mono ?_
 rintro d S1 ⟨l1, f, c, wa, we, pa, n1, n2, cs, as, bs, rfl, F, _⟩
 simp_all [F.me (m := "free") rfl, qAr]
 exact (free_w F hs).mono fun d S2 ⟨l2, r⟩ => ⟨l1.trans l2, r⟩
theorem plane_ways_w (h : Pl S p ss st k xs w l q) (e : q.map (·.1) = ts) (hs : Sml w ts) : W (F.Plane_ways [.ref p] S) fun d S' => SLe S S' /\ ∃ b ds, d = .ref b /\ TabR S' b ds (wayL w ts) := by
 (unfold F.Plane_ways; refine Np.W_fnF rfl ?_; unfold Den.Plane_ways; simp_all [])
 simp_all [qAa, h.meth (m := "fit") rfl, qAr]
 refine (qA7 h e hs).mono ?_
 rintro d S1 ⟨l1, f, c, wa, we, pa, n1, n2, cs, as, bs, rfl, F, _⟩
 simp_all [F.me (m := "ways") rfl, qAr]
 exact (ways_w F hs).mono fun d S2 ⟨l2, r⟩ => ⟨l1.trans l2, r⟩
theorem qEa (h : Pl S p ss st k xs w l q) (e : q.map (·.1) = ts) (hs : Sml w ts) : W (F.Plane_squares [.ref p] S) fun d S' => SLe S S' /\ d = ratD (dotW (qEw w ts) (qEw w ts) (ts.map (·.wt))) := by
 (unfold F.Plane_squares; refine Np.W_fnF rfl ?_; unfold Den.Plane_squares; simp_all [])
 simp_all [qAa, h.meth (m := "fit") rfl, qAr]
 refine (qA7 h e hs).mono ?_
 rintro d S1 ⟨l1, f, c, wa, we, pa, n1, n2, cs, as, bs, rfl, F, _⟩
 simp_all [F.me (m := "squares") rfl, qAr]
 exact (qD5 F hs).mono fun d S2 ⟨l2, r⟩ => ⟨l1.trans l2, r⟩
end
def Sm (ts us : List Pt) : Prop := us.map (·.row) = ts.map (·.row) /\ us.map (·.want) = ts.map (·.want) /\ us.map (·.wt) = ts.map (·.wt)
theorem Sm.len (h : Sm ts us) : us.length = ts.length := by
 have := congrArg jBp h.1
 simpa using this
theorem al_nats (n : Nat) : ∀ ks : List Nat, Al2 (Al S (n + 1)) (ks.map natD) (ks.map natD)
 | [] => trivial
 | k :: ks => ⟨.inl ⟨_, rfl, rfl⟩, al_nats n ks⟩
theorem al_natl {S : Sto} {a b : Nat} {ks : List Nat} (ha : zH S a = some (ks.map natD)) (hb : zH S b = some (ks.map natD)) (hl : ks.length <= 1000) : Al S 7 (.ref a) (.ref b) := .inr (.inr ⟨a, b, _, _, rfl, rfl, ha, hb, by rw [jBd]; exact hl, al_nats 5 ks⟩)
end Nm
end
section
namespace Nm
open Np PySem
theorem qFj : (shaR w ts).length <= w := by
 have hl := (qAp (ts.map (·.wt)) (colP w ts ++ [ts.map (·.want)])).2
 rw [jBw, colP_len] at hl
 obtain ⟨r, hr⟩ := zQ (show w < (gsR (colP w ts ++ [ts.map (·.want)]) (ts.map (·.wt))).H.length by rw [hl]; simp)
 show (zR _ w).length <= w
 rw [yB hr, qCb hr]
 exact jAx _
theorem freeL_len (w : Nat) (ts : List Pt) : (qF3 w ts).length <= w := by
 have := jEu (fun i => stl (zR (gPa w ts) i)) (jAg w)
 rwa [jD4] at this
theorem wayL_each : ∀ r ∈ wayL w ts, r.length <= w := fun r hr => by
 obtain ⟨k, hk, rfl⟩ := jCe.mp hr
 have hkw : k < w := jAi.mp (jAh.mp hk).1
 obtain ⟨z, hz⟩ := zQ (show k < (gHa w ts).length by rw [gHa_len]; exact hkw)
 rw [yB hz, qBi (by rw [qCb hz]; omega)]
 exact jAx _
theorem sle_of (hl : S.length <= S'.length) (h : ∀ a, a < S.length -> S'[a]? = S[a]?) : SLe S S' := by
 refine ⟨S'.drop S.length, ?_⟩
 refine List.ext_getElem? fun i => ?_
 by_cases hi : i < S.length
 ·rw [h i hi, jBt hi]
 ·rw [jBr (by omega), List.getElem?_drop]
  congr 1
  omega
theorem sle_bt (l : SLe S S') (b : Bt a S' S'') (h : S.length <= a) : SLe S S'' := sle_of (jAj l.len b.1) fun i hi => by
 rw [b.2 i (jAd hi l.len) (by omega), l.get hi]
def Tt (x : Rat) : Prop := Le 4 x \/ (x.den = 1 /\ x.num.natAbs < 2 ^ 19)
theorem Tt.le (h : Tt x) : Le 24 x := by
 rcases h with h | ⟨h1, h2⟩
 ·exact h.mono (by decide)
 ·exact ⟨jAd h2 (by decide), by rw [h1]; decide⟩
theorem Tt.add (h : Tt x) (k : Tt y) : Le 24 (x + y) := by
 have hx : x.num.natAbs < 2 ^ 19 /\ x.den < 16 /\ (x.num.natAbs < 16 \/ x.den = 1) := by
  rcases h with h | ⟨h1, h2⟩
  ·exact ⟨jAd h.1 (by decide), h.2, .inl h.1⟩
  ·exact ⟨h2, by omega, .inr h1⟩
 have hy : y.num.natAbs < 2 ^ 19 /\ y.den < 16 /\ (y.num.natAbs < 16 \/ y.den = 1) := by
  rcases k with h | ⟨h1, h2⟩
  ·exact ⟨jAd h.1 (by decide), h.2, .inl h.1⟩
  ·exact ⟨h2, by omega, .inr h1⟩
 have dx := x.den_pos
 have dy := y.den_pos
 rw [qCk]
 have b1 : (x.num * (y.den : Int)).natAbs <= 2 ^ 19 * 15 := by
  rw [jC4, jC3]
  exact jEh (by omega) (by omega)
 have b2 : (y.num * (x.den : Int)).natAbs <= 2 ^ 19 * 15 := by
  rw [jC4, jC3]
  exact jEh (by omega) (by omega)
 have b3 : x.den * y.den <= 15 * 15 := jEh (by omega) (by omega)
 have b4 := jC7 (x.num * (y.den : Int)) (y.num * (x.den : Int))
 have e : ((x.den : Int) * (y.den : Int)).natAbs = x.den * y.den := by rw [jC4, jC3, jC3]
 refine Le.divInt' (jEg (by omega) (by omega)) ?_ ?_
 ·have : (2 : Nat) ^ 24 = 16777216 := by decide
  have : (2 : Nat) ^ 19 = 524288 := by decide
  omega
 ·rw [e]
  have : (2 : Nat) ^ 24 = 16777216 := by decide
  omega
theorem ratio54_w (h0 : 0 <= n) (h1 : n < 100003) (S : Sto) : W (F.k54_ratio [.int n] S) fun d S' => SLe S S' /\ ∃ q, Tt q /\ d = ratD q := by
 (unfold F.k54_ratio; refine Np.W_fnF rfl ?_; unfold Den.k54_ratio; simp_all [])
 have a1 : n.fdiv 16 = n / 16 := jEw _ (by decide)
 have a2 : (n.fdiv 16).fdiv 8 = n.fdiv 16 / 8 := jEw _ (by decide)
 have m2 : ((n.fdiv 16).fdiv 8).natAbs.log2 + (1000 : Int).natAbs.log2 <= 100000000 := by
  have := qE9 (i := (n.fdiv 16).fdiv 8) (n := 17) (by omega) (by omega)
  have : (1000 : Int).natAbs.log2 = 9 := by decide +kernel
  omega
 simp_all [Np.W_ifK, Np.W_ifEK, Np.W_andTK, Np.W_orTK, Np.W_andVB, Np.W_orVB, Np.W_chnB, dvm_eq (show (16 : Int) ≠ 0 by decide), dvm_eq (show (8 : Int) ≠ 0 by decide), tupG2, qAf m2, qAi (show (19 : Int) ≠ 0 by decide), qAz (show [D.int 1, D.int 1, D.int 1, D.int 2, D.int 3, D.int 4, D.int 6, D.int 12].length <= 1000 by decide)]
 split
 ·refine ⟨SLe.rfl, (((n.fdiv 16).fdiv 8 * 1000 - 500000 : Int) : Rat), .inr ⟨rfl, ?_⟩, rfl⟩
  show ((n.fdiv 16).fdiv 8 * 1000 - 500000 : Int).natAbs < _
  have : (2 : Nat) ^ 19 = 524288 := by decide
  omega
 ·obtain ⟨h1, h2⟩ := qBl (n.fdiv 16) (show (0 : Int) < 8 by decide)
  obtain ⟨h3, h4⟩ := qBl ((n.fdiv 16).fdiv 8) (show (0 : Int) < 19 by decide)
  obtain ⟨c, c1, c2, c3⟩ := eight _ h1 h2 (qAb S _)
  simp_all [c3, lowest_eq (show (0 : Int) < c by omega)]
  exact ⟨SLe.app _, _, .inl <| Le.divInt' (by omega) (by omega) (by omega), rfl⟩
theorem row54_w (n : Int) {k : Nat} (hk : k < 900) (S : Sto) : W (F.k54_row [.int n, .int (k : Int)] S) fun d S' => ∃ c xs, d = .ref c /\ S.length <= c /\ SLe S S' /\ RowA S' c xs /\ xs.length = k /\ ∀ x ∈ xs, Tt x := by
 (unfold F.k54_row; refine Np.W_fnF rfl ?_; unfold Den.k54_row; simp_all [])
 refine qAx (qAz (by simp) _) fun S1 c l1 n1 r1 => ?_
 simp_all [qCv (show k < 1000000 by omega), qBw]
 refine qDo ((jAg k).map fun i => D.int (i : Nat)) (fun i δ S' => SLe S S' /\ (∃ xs, RowA S' c xs /\ xs.length = i /\ ∀ x ∈ xs, Tt x) /\ ∃ (o3 : Option D), δ = [some (.int n), some (.int (k : Int)), some (.ref c), o3]) (jAx _)
  ⟨l1, ⟨[], r1, rfl, fun _ h => (by cases h)⟩, _, rfl⟩ (fun i δ S' _ => rfl) ?_ ?_
 ·rintro i x δ S2 hx ⟨L, ⟨xs, rc, hxl, hxs⟩, o3, rfl⟩
  obtain ⟨rfl, hi⟩ := qAu hx
  obtain ⟨m, m0, em⟩ := mixed_eq (k := 31 + (i : Int)) (by omega) (by omega) n S2
  obtain ⟨g1, g2⟩ := qBl m (show (0 : Int) < 100003 by decide)
  simp_all [qAv rc, em, qAi (show (100003 : Int) ≠ 0 by decide)]
  refine (ratio54_w g1 g2 S2).mono ?_
  rintro d S3 ⟨l3, q, hq, rfl⟩
  refine W_app (l3.lst rc) (by simp; omega) fun S4 _ k4 _ r4 => ?_
  refine ⟨k4 _ (L.trans l3) n1, ⟨xs ++ [q], by show zH S4 c = _; rw [r4]; simp, by simp [hxl], fun x hx => ?_⟩, _, rfl⟩
  rcases jAp.mp hx with h | h
  ·exact hxs x h
  ·rw [jCr.mp h]; exact hq
 ·rintro δ S2 ⟨L, ⟨xs, rc, hxl, hxs⟩, o3, rfl⟩
  simp_all []
  exact ⟨c, xs, rfl, n1, L, rc, by simpa using hxl, hxs⟩
theorem pointL54_w {n : Int} (h0 : 0 <= n) {k : Nat} (hk : k < 900) (lean : Bool) (S : Sto) : W (F.k54_point [.int n, .int (k : Int), .bl lean] S) fun d S' => ∃ c xs want wt, d = .tup [.ref c, ratD want, ratD wt] /\ S.length <= c /\ SLe S S' /\ RowA S' c xs /\ xs.length = k /\ (∀ x ∈ xs, Le 24 x) /\ Le 24 want /\ Le 3 wt /\ 0 < wt.num := by
 unfold F.k54_point
 refine W_fnF rfl ?_
 rw [W_outF]
 unfold Den.k54_point
 refine qAh (fun δ' S' => S' = S /\ δ' = [some (.int (n.fdiv 100003)), some (.int (k : Int)), some (.bl lean), some (.int (n.fmod 100003)), none, none]) ?_ ?_
 ·simp_all [dvm_eq (show (100003 : Int) ≠ 0 by decide), tupG2]
  exact ⟨_, rfl, trivial, rfl⟩
 rintro _ S' ⟨e, rfl⟩
 obtain rfl : S = S' := e.symm
 refine qAh (fun δ' S' => S' = S /\ δ' = [some (.int ((n.fdiv 100003).fdiv 6)), some (.int (k : Int)), some (.bl lean), some (.int (n.fmod 100003)), some (.int ((n.fdiv 100003).fmod 6)), none]) ?_ ?_
 ·simp_all [dvm_eq (show (6 : Int) ≠ 0 by decide), tupG2]
  exact ⟨_, rfl, trivial, rfl⟩
 rintro _ S' ⟨e, rfl⟩
 obtain rfl : S = S' := e.symm
 refine qAh (fun δ' S' => ∃ c xs, δ' = [some (.int ((n.fdiv 100003).fdiv 6)), some (.int (k : Int)), some (.bl lean), some (.int (n.fmod 100003)), some (.int ((n.fdiv 100003).fmod 6)), some (.ref c)] /\ S.length <= c /\ SLe S S' /\ RowA S' c xs /\ xs.length = k /\ ∀ x ∈ xs, Tt x) ?_ ?_
 ·simp_all []
  refine (row54_w ((n.fdiv 100003).fdiv 6) hk S).mono ?_
  rintro d S1 ⟨c, xs, rfl, hc, l1, rc, hl, hx⟩
  exact ⟨_, rfl, c, xs, rfl, hc, l1, rc, hl, hx⟩
 rintro _ S0 ⟨c, xs0, rfl, hc, l0, rc0, hl0, hx0⟩
 refine qAh (fun δ' S' => ∃ xs, δ' = [some (.int ((n.fdiv 100003).fdiv 6)), some (.int (k : Int)), some (.bl lean), some (.int (n.fmod 100003)), some (.int ((n.fdiv 100003).fmod 6)), some (.ref c)] /\ SLe S S' /\ RowA S' c xs /\ xs.length = k /\ ∀ x ∈ xs, Le 24 x) ?_ ?_
 ·have w150 : ∀ x ∈ xs0, Le 24 x := fun x hx => (hx0 x hx).le
  cases lean with
  | false =>
   simp_all []
   exact ⟨_, rfl, xs0, rfl, l0, rc0, hl0, w150⟩
  | true =>
   by_cases h1 : (1 : Int) < (k : Int)
   ·have k1 : k - 1 < xs0.length := by omega
    have k2 : k - 2 < xs0.length := by omega
    have k0 : 0 < xs0.length := by omega
    have e1 : ((k : Int) - 1) = ((k - 1 : Nat) : Int) := by omega
    have e2 : ((k : Int) - 2) = ((k - 2 : Nat) : Int) := by omega
    have g0 : (xs0.map ratD)[0]? = some (ratD xs0[0]) := by simp [k0]
    have g2 : (xs0.map ratD)[k - 2]? = some (ratD xs0[k - 2]) := by simp [k2]
    have z0 := hx0 _ (jDs k0)
    have z2 := hx0 _ (jDs k2)
    simp_all [h1, qB0 rc0 g0, e2, qAg rc0 g2, plus52_eq (z0.le.sm (by decide)) (z2.le.sm (by decide)), e1, qEv, setXK]
    refine W_setX rc0 (by simpa using k1) fun S' _ kS _ r' => ?_
    refine ⟨_, rfl, xs0.set (k - 1) (xs0[0] + xs0[k - 2]), rfl, kS _ l0 hc, by show zH _ _ = _; rw [r', List.map_set], by simp [hl0], fun x hx => ?_⟩
    rcases jD5 hx with hx | rfl
    ·exact w150 x hx
    ·exact z0.add z2
   ·simp_all [h1]
    exact ⟨_, rfl, xs0, rfl, l0, rc0, hl0, w150⟩
 rintro _ S1 ⟨xs, rfl, l1, rc, hl, hx⟩
 obtain ⟨g1, g2⟩ := qBl n (show (0 : Int) < 100003 by decide)
 simp_all []
 refine (ratio54_w g1 g2 S1).mono ?_
 rintro d S2 ⟨l2, want, hw, rfl⟩
 simp_all [tup2, tup3]
 refine qAx (qAz (by simp) _) fun S3 b l3 n3 hp => ?_
 obtain ⟨i1, i2⟩ := qBl (n.fdiv 100003) (show (0 : Int) < 6 by decide)
 have hq : ∃ wt : Rat, Le 3 wt /\ 0 < wt.num /\ ixD (.ref b) (.int ((n.fdiv 100003).fmod 6)) S3 = ok (ratD wt) S3 := by
  generalize (n.fdiv 100003).fmod 6 = j at i1 i2
  have : j = 0 \/ j = 1 \/ j = 2 \/ j = 3 \/ j = 4 \/ j = 5 := by omega
  rcases this with rfl | rfl | rfl | rfl | rfl | rfl
  ·exact ⟨1, ⟨by decide, by decide⟩, by decide, qAg (i := 0) hp rfl⟩
  ·exact ⟨1, ⟨by decide, by decide⟩, by decide, qAg (i := 1) hp rfl⟩
  ·exact ⟨mkRat 1 2, ⟨by decide, by decide⟩, by decide, qAg (i := 2) hp (by show some (D.tup [.int 1, .int 2]) = some (D.tup [.int (mkRat 1 2).num, .int ((mkRat 1 2).den : Int)]); rw [show (mkRat 1 2).num = 1 by decide, show (mkRat 1 2).den = 2 by decide]; rfl)⟩
  ·exact ⟨2, ⟨by decide, by decide⟩, by decide, qAg (i := 3) hp rfl⟩
  ·exact ⟨3, ⟨by decide, by decide⟩, by decide, qAg (i := 4) hp rfl⟩
  ·exact ⟨mkRat 5 7, ⟨by decide, by decide⟩, by decide, qAg (i := 5) hp (by show some (D.tup [.int 5, .int 7]) = some (D.tup [.int (mkRat 5 7).num, .int ((mkRat 5 7).den : Int)]); rw [show (mkRat 5 7).num = 5 by decide, show (mkRat 5 7).den = 7 by decide]; rfl)⟩
 obtain ⟨wt, w1, w2, w3⟩ := hq
 rw [w3, show (ok (ratD wt) S3 : R D) = some (.ok (ratD wt) S3) from rfl, W_ok]
 exact ⟨c, xs, want, wt, rfl, hc, (l1.trans l2).trans l3, l3.lst (l2.lst rc), hl, hx, hw.le, w1, w2⟩
def Tg (ts : List Pt) : Prop := ∀ t ∈ ts, (∀ x ∈ t.row, Le 24 x) /\ Le 24 t.want /\ Le 3 t.wt
theorem Sub.tg (h : Sub ts' ts) (k : Tg ts) : Tg ts' := fun t ht => by
 obtain ⟨u, hu, e1, e2, e3⟩ := h t ht
 obtain ⟨k1, k2, k3⟩ := k u hu
 exact ⟨fun x hx => k1 x (e3 x hx), by rw [e1]; exact k2, by rw [e2]; exact k3⟩
theorem tg_wid (h : Tg ts) (k : ∀ v ∈ cs, Le 24 v) : Tg (jDk widR ts cs) := fun t ht => by
 obtain ⟨j, hj⟩ := jD3 ht
 rw [jDl] at hj
 cases e1 : ts[j]? with
 | none => rw [e1] at hj; cases hj
 | some u =>
  cases e2 : cs[j]? with
  | none => rw [e1, e2] at hj; cases hj
  | some v =>
   rw [e1, e2] at hj
   obtain rfl := Option.some.inj hj
   obtain ⟨k1, k2, k3⟩ := h u (jBv e1)
   refine ⟨fun x hx => ?_, k2, k3⟩
   rcases jAp.mp hx with hx | hx
   ·exact k1 x hx
   ·rw [jCr.mp hx]; exact k v (jBv e2)
theorem tg_snoc (h : Tg ts) (h1 : ∀ x ∈ row, Le 24 x) (h2 : Le 24 want) (h3 : Le 3 wt) : Tg (ts ++ [⟨l, row, want, wt⟩]) := fun t ht => by
 rcases jAp.mp ht with ht | ht
 ·exact h t ht
 ·rw [jCr.mp ht]; exact ⟨h1, h2, h3⟩
theorem Tg.sml (h : Tg ts) (O : Ok n w l ts) (hw : w <= 6) (hl : ts.length <= 14) : Sml w ts := Sml.of14 hw hl fun t ht => ⟨(O.each t ht).2.1, (h t ht).1, (h t ht).2.1, (h t ht).2.2, (O.each t ht).2.2.2.2.2⟩
section
variable {S : Sto} {p s n w l : Nat} {ts : List Pt} {M : List Nat} {xs : List D} {st : Nat}
theorem widened54_w (h : BoX S p s n w l ts M xs st) (hn : n <= 800) (hw : w < 12) (hT : Tg ts) (m : Int) : W (F.k54_widened [.ref p, .ref s, .int m] S) fun d S' => ∃ ts' M' st', ts'.length <= ts.length /\ Tg ts' /\ BoX S' p s (n + 1) (w + 1) l ts' M' (xs ++ [.ref st]) st' /\ Left S S' M M' := by
 obtain ⟨ss, k, ps, q, r, T, eq, er, hx, O, rfl⟩ := h
 have lq : q.length = ts.length := by rw [<- eq]; simp
 have lr : r.length = ts.length := by rw [<- er]; simp
 have ol := O.len
 obtain ⟨u1, u2, u3, u4, u5, u6, u7, u8⟩ := T.lt
 (unfold F.k54_widened; refine Np.W_fnF rfl ?_; unfold Den.k54_widened; simp_all [])
 simp_all [qA8 T.L.st rfl, qAe T.L.pt.1, jBd]
 refine (row54_w m (show r.length < 900 by omega) S).mono ?_
 rintro d S1 ⟨c, cs, rfl, nc, l1, rc, hcl, hcs⟩
 have T1 := T.mono l1
 refine qAx (qA9 rc) fun S2 hd l2 n2 r2 => ?_
 have T2 := T1.mono l2
 simp_all [qAa, T2.P.meth (m := "widen") rfl, qAr]
 refine (widen_w T2.P (cs := cs) r2 (by omega) hw (fun x hx => ?_) (by omega) (by omega)).mono ?_
 ·have := (O.each x.1 (by rw [<- eq]; exact jCe.mpr ⟨x, hx, rfl⟩)).2.1
  omega
 intro d S3 N
 obtain ⟨st', k', q', T3, b3, n31, n32, n33, e3⟩ := T2.step N
 rw [eq] at e3
 have v1 := l1.len
 have v2 := l2.len
 have vh := qAd r2
 have vc := qAd rc
 have r3 : zH S3 hd = some (cs.map ratD) := b3.lst (by omega) r2
 have rc3 : RowA S3 c cs := b3.lst (by omega) (l2.lst rc)
 simp_all [qAv r3, tup2]
 refine W_appB r3 (by simp; omega) fun S4 b4 l4 r4 => ?_
 have T4 := T3.aside b4 (by omega) (by omega) (by omega) (by omega) (fun x hx => by
  rcases n33 x hx with z | ⟨z, hz, e⟩
  ·omega
  ·have := u5 z hz
   omega) (by omega) (by omega) (fun x hx => by have := u8 x hx; omega)
 have rc4 : RowA S4 c cs := b4.lst (by omega) rc3
 have lq' : q'.length = r.length := by
  have := congrArg jBp e3
  simp at this
  omega
 have O4 := T4.off lq'
 have off : ∀ a, (∀ y ∈ r, a ≠ y.2) -> a ∉ r.map (·.2) := fun a ha hm => by
  obtain ⟨y, hy, e⟩ := jCe.mp hm
  exact ha y hy e.symm
 simp_all [qAe rc4, jBd, qCv (show cs.length < 1000000 by omega), qBw]
 refine qDo ((jAg cs.length).map fun i => D.int (i : Nat)) (fun i δ S' => Bts (r.map (·.2)) S4 S' /\ (∀ (j : Nat) y, r[j]? = some y -> RowA S' y.2 (if j < i then y.1.row ++ (cs[j]?).toList else y.1.row)) /\ ∃ o, δ = [some (.ref p), some (.ref s), some (.int m), some (.ref c), some (.ref hd), o]) (jAx _) ⟨Bts.rfl, fun j y hy => by rw [if_neg (by omega)]; exact T4.L.pt.2 y (jBv hy), _, rfl⟩ (fun i δ S' _ => rfl) ?_ ?_
 ·rintro i x δ S' hx ⟨b, hr, o, rfl⟩
  obtain ⟨rfl, hi⟩ := qAu hx
  have hi' : i < r.length := by omega
  have hy : r[i]? = some r[i] := jEl hi'
  have hpy : (r.map ptD)[i]? = some (ptD r[i]) := by rw [jBu, hy]; rfl
  have hci : (cs.map ratD)[i]? = some (ratD cs[i]) := by simp [hi]
  have ry := hr i r[i] hy
  rw [if_neg (by omega)] at ry
  have s5 := b.lst (off s fun y hy => (O4 y hy).2.2.2.2.2.1) T4.L.st
  have p5 := b.lst (off ps fun y hy => (O4 y hy).2.2.2.2.2.2) T4.L.pt.1
  have c5 : RowA S' c cs := b.lst (off c fun y hy => by have := u8 y hy; omega) rc4
  have hyl := (O.each r[i].1 (by rw [<- er]; exact jCe.mpr ⟨r[i], jDs hi', rfl⟩)).2.1
  simp_all [qA8 s5 rfl, qAg p5 hpy]
  unfold ptD
  simp_all [qE2, qAv ry, qAg c5 hci]
  refine W_appB ry (by simp; omega) fun S6 b6 l6 r6 => ?_
  refine ⟨b.trans (b6.bts (jCe.mpr ⟨r[i], jDs hi', rfl⟩)), fun j z hz => ?_, _, rfl⟩
  by_cases hj : j = i
  ·subst hj
   rw [hy] at hz
   obtain rfl := Option.some.inj hz
   rw [if_pos (by omega), jEl hi]
   show zH _ _ = _
   rw [r6]
   simp
  ·have hz' := hr j z hz
   have : (if j < i + 1 then z.1.row ++ (cs[j]?).toList else z.1.row) = (if j < i then z.1.row ++ (cs[j]?).toList else z.1.row) := by
    by_cases hlt : j < i
    ·rw [if_pos hlt, if_pos (by omega)]
    ·rw [if_neg hlt, if_neg (by omega)]
   rw [this]
   exact b6.lst (nodup_two T4.L.nd hy hz (Ne.symm hj)) hz'
 ·rintro δ S5 ⟨b, hr, o, rfl⟩
  have hlen : r.length = cs.length := by omega
  have T5 : Two S5 p s ss st' k' ps (xs ++ [.ref st]) (w + 1) l q' (jDk (fun y c => (widR y.1 c, y.2)) r cs) w l := by
   refine T4.setR lq' b (qD0 (fun (y : Pt × Nat) (c : Rat) => (widR y.1 c, y.2)) ptD ptD (fun _ _ => rfl) _ _ hlen) (qD0 (fun (y : Pt × Nat) (c : Rat) => (widR y.1 c, y.2)) (·.2) (·.2) (fun _ _ => rfl) _ _ hlen) fun x hx => ?_
   obtain ⟨j, hj⟩ := jD3 hx
   rw [jDl] at hj
   cases e1 : r[j]? with
   | none => rw [e1] at hj; cases hj
   | some y =>
    cases e2 : cs[j]? with
    | none => rw [e1, e2] at hj; cases hj
    | some v =>
     rw [e1, e2] at hj
     obtain rfl := Option.some.inj hj
     have := hr j y e1
     rw [if_pos (by rw [jBd, jD4]; exact (jAr.mp e2).1), e2] at this
     exact this
  have hw1 : (w : Int) + 1 = ((w + 1 : Nat) : Int) := by omega
  simp_all [qB0 T5.L.st rfl, hw1, qEv, setXK]
  refine W_setB (i := 0) T5.L.st (by simp) fun S6 b6 l6 r6 => ?_
  have T6 : Two S6 p s ss st' k' ps (xs ++ [.ref st]) (w + 1) l q' (jDk (fun y c => (widR y.1 c, y.2)) r cs) (w + 1) l := T5.setS r6 b6
  refine ⟨jDk widR ts cs, _, st', by simp; omega, tg_wid hT fun v hv => (hcs v hv).le, ⟨ss, k', ps, q', _, T6, e3, ?_, by simp; omega, ⟨by simp; omega, by omega, by have := O.laid; omega, ?_, fun t ht => ?_⟩, rfl⟩, (((((SLe.bts (l1.trans l2))).off b3 (.inr (by simp))).off b4 (.inl (by omega))).off2 b (fun a ha => by simp only [jAo]; exact .inr (.inr (.inr ha)))).off b6 (.inr (by simp)), fun z hz => ?_⟩
  ·rw [zip_map1 (fun (y : Pt × Nat) (c : Rat) => (widR y.1 c, y.2)) (·.1) (·.1) widR (fun _ _ => rfl), er]
  ·rw [qD0 widR (·.num) (·.num) (fun _ _ => rfl) ts cs (by omega)]; exact O.nums
  ·obtain ⟨j, hj⟩ := jD3 ht
   rw [jDl] at hj
   cases e1 : ts[j]? with
   | none => rw [e1] at hj; cases hj
   | some u =>
    cases e2 : cs[j]? with
    | none => rw [e1, e2] at hj; cases hj
    | some v =>
     rw [e1, e2] at hj
     obtain rfl := Option.some.inj hj
     obtain ⟨g1, g2, g3, g4, g5, g6⟩ := O.each u (jBv e1)
     refine ⟨g1, by simp [widR, g2], fun x hx => ?_, g4, g5, g6⟩
     rcases jAp.mp hx with hx | hx
     ·exact g3 x hx
     ·rw [jCr.mp hx]; exact (hcs v (jBv e2)).le.mono (by decide)
  ·left
   rw [qD0 (fun (y : Pt × Nat) (c : Rat) => (widR y.1 c, y.2)) (·.2) (·.2) (fun _ _ => rfl) _ _ hlen] at hz
   exact hz
theorem laid54_w (h : BoX S p s n w l ts M xs st) (hn : n <= 800) (hT : Tg ts) (hm : 0 <= m) (lean : Bool) : W (F.k54_laid [.ref p, .ref s, .int m, .bl lean] S) fun d S' => d = .bl true /\ ∃ ts' M' st', ts'.length <= ts.length + 1 /\ Tg ts' /\ BoX S' p s (n + 1) w (l + 1) ts' M' (xs ++ [.ref st]) st' /\ Left S S' M M' := by
 obtain ⟨ss, k, ps, q, r, T, eq, er, hx, O, rfl⟩ := h
 have lq : q.length = ts.length := by rw [<- eq]; simp
 have lr : r.length = ts.length := by rw [<- er]; simp
 have ol := O.len
 have ow := O.wide
 obtain ⟨u1, u2, u3, u4, u5, u6, u7, u8⟩ := T.lt
 unfold F.k54_laid
 refine W_fnF rfl ?_
 rw [W_outF]
 unfold Den.k54_laid
 refine qAh (fun δ' S' => ∃ c row want wt, δ' = [some (.ref p), some (.ref s), some (.int m), some (.bl lean), some (.ref c), some (ratD want), some (ratD wt), none, none] /\ SLe S S' /\ S.length <= c /\ RowA S' c row /\ row.length = w /\ (∀ x ∈ row, Le 24 x) /\ Le 24 want /\ Le 3 wt /\ 0 < wt.num) ?_ ?_
 ·simp_all [qB0 T.L.st rfl]
  refine (pointL54_w hm (show w < 900 by omega) lean S).mono ?_
  rintro d S1 ⟨c, row, want, wt, rfl, nc, l1, rc, h1, h2, h3, h4, h5⟩
  simp_all [tupG3b]
  exact ⟨_, rfl, c, row, want, wt, rfl, l1, nc, rc, h1, h2, h3, h4, h5⟩
 rintro _ S1 ⟨c1, row1, want, wt, rfl, l1, nc1, rc1, hl1, hx1, hwant, hwt, hpos⟩
 have T1 := T.mono l1
 refine qAh (fun δ' S' => ∃ c row, δ' = [some (.ref p), some (.ref s), some (.int m), some (.bl lean), some (.ref c), some (ratD want), some (ratD wt), none, none] /\ SLe S S' /\ S.length <= c /\ RowA S' c row /\ row.length = w /\ (∀ x ∈ row, Le 24 x)) ?_ ?_
 ·by_cases hr0 : (0 : Int) < ((r.map ptD).length : Int)
  ·by_cases h5 : m.fmod 5 = 1
   ·obtain ⟨f1, f2⟩ := qBl (m.fdiv 5) hr0
    obtain ⟨a, ha⟩ : ∃ a : Nat, (m.fdiv 5).fmod ((r.map ptD).length : Int) = (a : Int) := ⟨((m.fdiv 5).fmod ((r.map ptD).length : Int)).toNat, by omega⟩
    have ha' : a < r.length := by rw [jBd] at ha f2; omega
    have hy : r[a]? = some r[a] := jEl ha'
    have hpy : (r.map ptD)[a]? = some (ptD r[a]) := by rw [jBu, hy]; rfl
    have hym := jDs ha'
    have ry := T1.L.pt.2 _ hym
    have hne : ((r.map ptD).length : Int) ≠ 0 := by omega
    obtain ⟨g1, g2, g3, g4, g5, g6⟩ := O.each r[a].1 (by rw [<- er]; exact jCe.mpr ⟨r[a], hym, rfl⟩)
    simp_all [qA8 T1.L.st rfl, qAe T1.L.pt.1, hr0, qAi (show (5 : Int) ≠ 0 by decide), h5, qA0 (show (5 : Int) ≠ 0 by decide), qAi hne, ha, qAg T1.L.pt.1 hpy]
    unfold ptD
    simp_all [qE2, qA9 ry]
    exact ⟨_, rfl, _, _, rfl, l1.push _, l1.len, qAb S1 _, g2, (hT r[a].1 (by rw [<- er]; exact jCe.mpr ⟨r[a], hym, rfl⟩)).1⟩
   ·simp_all [qA8 T1.L.st rfl, qAe T1.L.pt.1, hr0, qAi (show (5 : Int) ≠ 0 by decide), h5]
    exact ⟨_, rfl, c1, row1, rfl, l1, nc1, rc1, hl1, hx1⟩
  ·simp_all [qA8 T1.L.st rfl, qAe T1.L.pt.1, hr0]
   exact ⟨_, rfl, c1, row1, rfl, l1, nc1, rc1, hl1, hx1⟩
 rintro _ S2 ⟨c, row, rfl, l2, nc, rc, hl, hx2⟩
 have T2 := T.mono l2
 refine qAh (fun δ' S' => ∃ hd, δ' = [some (.ref p), some (.ref s), some (.int m), some (.bl lean), some (.ref c), some (ratD want), some (ratD wt), some (.ref hd), none] /\ SLe S2 S' /\ S2.length <= hd /\ RowA S' hd row) ?_ ?_
 ·simp_all []
  refine qAx (qA9 rc) fun S3 hd l3 n3 r3 => ?_
  exact ⟨_, rfl, hd, rfl, l3, n3, r3⟩
 rintro _ S3 ⟨hd, rfl, l3, n3, r3⟩
 have T3 := T2.mono l3
 have hsm : sm wt := hwt.sm (by decide)
 refine qAh (fun δ' S' => δ' = [some (.ref p), some (.ref s), some (.int m), some (.bl lean), some (.ref c), some (ratD want), some (ratD wt), some (.ref hd), some (.int (l : Int))] /\ Nx S3 S' p ss st xs q w (l + 1) (q.map (·.1) ++ [⟨l, row, want, wt⟩])) ?_ ?_
 ·by_cases h1 : wt = 1
  ·simp_all [tup2, rat1, eqD_rat, h1, qAa, T3.P.meth (m := "lay") rfl, qAr, fnD]
   rw [h1] at hsm hpos
   refine (lay_w T3.P r3 hl (by omega) ow (by omega) hsm hpos (.inl ⟨rfl, rfl⟩)).mono ?_
   rintro d S4 ⟨rfl, N⟩
   exact ⟨_, rfl, rfl, N⟩
  ·simp_all [tup2, rat1, eqD_rat, h1, qAa, T3.P.meth (m := "lay") rfl, qAr]
   refine (lay_w T3.P r3 hl (by omega) ow (by omega) hsm hpos (.inr rfl)).mono ?_
   rintro d S4 ⟨rfl, N⟩
   exact ⟨_, rfl, rfl, N⟩
 rintro _ S4 ⟨rfl, N⟩
 obtain ⟨st', k', q', T4, b4, n41, n42, n43, e4⟩ := T3.step N
 rw [eq] at e4
 have v2 := l2.len
 have v3 := l3.len
 have vh := qAd r3
 have vc := qAd rc
 have r4 : RowA S4 hd row := b4.lst (by omega) r3
 have c4 : RowA S4 c row := b4.lst (by omega) (l3.lst rc)
 simp_all [neD_row r4 c4, qAv r4, tup2]
 refine W_appB r4 (by simp; omega) fun S5 b5 l5 r5 => ?_
 have T5 := T4.aside b5 (by omega) (by omega) (by omega) (by omega) (fun x hx => by
  rcases n43 x hx with z | ⟨z, hz, e⟩
  ·omega
  ·have := u5 z hz
   omega) (by omega) (by omega) (fun x hx => by have := u8 x hx; omega)
 have c5 : RowA S5 c row := b5.lst (by omega) c4
 simp_all [qA8 T5.L.st rfl, qAv T5.L.pt.1, show ixD (.ref s) (.int 2) S5 = ok (.int (l : Int)) S5 from qAg (i := 2) T5.L.st rfl, tup4]
 refine W_appB T5.L.pt.1 (by simp; omega) fun S6 b6 l6 r6 => ?_
 have cps : c ≠ ps := by omega
 have T6 : Two S6 p s ss st' k' ps (xs ++ [.ref st]) w (l + 1) q' (r ++ [(⟨l, row, want, wt⟩, c)]) w l := by
  refine T5.setP (by rw [r6]; simp [ptD]) b6 (fun x hx => ?_) (fun x hx => ?_) ?_ fun x hx y hy => ?_
  ·by_cases nr : r = []
   ·rcases n43 x hx with z | ⟨z, hz, e⟩
    ·omega
    ·exfalso
     have : r.length = 0 := by rw [nr]; rfl
     have : q.length = 0 := by omega
     rw [jEp this] at hz
     cases hz
   ·exact (qDj T5.L.pt.1 (T5.P.kp.2 x hx) (qA6 nr)).symm
  ·rcases jAp.mp hx with hx | hx
   ·have nr : r ≠ [] := fun z => by rw [z] at hx; cases hx
    exact ⟨(qDj T5.L.pt.1 (T5.L.pt.2 x hx) (qA6 nr)).symm, T5.L.pt.2 x hx⟩
   ·rw [jCr.mp hx]
    exact ⟨cps, c5⟩
  ·rw [jEj]
   refine jEv.mpr ⟨T5.L.nd, by simp, fun a ha b hb => ?_⟩
   obtain ⟨y, hy, rfl⟩ := jCe.mp ha
   have := u8 y hy
   obtain rfl : b = c := by simpa using hb
   omega
  ·rcases jAp.mp hy with hy | hy
   ·exact T5.qr x hx y hy
   ·rw [jCr.mp hy]
    rcases n43 x hx with z | ⟨z, hz, e⟩
    ·show x.2 ≠ c
     omega
    ·have := u5 z hz
     show x.2 ≠ c
     omega
 have hl1 : (l : Int) + 1 = ((l + 1 : Nat) : Int) := by omega
 simp_all [show ixD (.ref s) (.int 2) S6 = ok (.int (l : Int)) S6 from qAg (i := 2) T6.L.st rfl, hl1, qEv, setXK]
 refine W_setB (i := 2) T6.L.st (by simp) fun S7 b7 l7 r7 => ?_
 have T7 : Two S7 p s ss st' k' ps (xs ++ [.ref st]) w (l + 1) q' (r ++ [(⟨l, row, want, wt⟩, c)]) w (l + 1) := T6.setS r7 b7
 have hl2 : ((l + 1 : Nat) : Int) - 1 = (l : Int) := by omega
 simp_all [show ixD (.ref s) (.int 2) S7 = ok (.int ((l + 1 : Nat) : Int)) S7 from qAg (i := 2) T7.L.st rfl, hl2]
 refine (qBd (n := 7) (show Al S7 7 (.int (l : Int)) (.int (l : Int)) from .inl ⟨_, rfl, rfl⟩)).mono ?_
 rintro d S8 ⟨rfl, l8⟩
 simp_all []
 refine ⟨trivial, ts ++ [⟨l, row, want, wt⟩], _, st', by simp, tg_snoc hT hx2 hwant hwt, ⟨ss, k', ps, q', _, T7.mono l8, e4, by rw [jEj, er]; rfl, by simp; omega, ⟨by simp; omega, ow, by have := O.laid; omega, ?_, fun t ht => ?_⟩, rfl⟩, (((((SLe.bts (l2.trans l3)).off b4 (.inr (by simp))).off b5 (.inl (by omega))).off b6 (.inr (by simp))).off b7 (.inr (by simp))).sle l8, fun z hz => ?_⟩
 ·rw [jEj]
  refine jEv.mpr ⟨O.nums, by simp, fun a ha b hb => ?_⟩
  obtain ⟨t, ht, rfl⟩ := jCe.mp ha
  have := (O.each t ht).1
  obtain rfl : b = l := by simpa using hb
  omega
 ·rcases jAp.mp ht with ht | ht
  ·obtain ⟨g1, g2⟩ := O.each t ht
   exact ⟨by omega, g2⟩
  ·rw [jCr.mp ht]
   exact ⟨jBf _, hl, fun x hx => (hx2 x hx).mono (by decide), hwant.mono (by decide), hwt.mono (by decide), hpos⟩
 ·rw [jEj] at hz
  simp only [jAo, jAp, jBb, jCc, jCo, or_false] at hz ⊢
  rcases hz with hz | hz | hz | hz | hz
  ·exact .inl (.inl hz)
  ·exact .inl (.inr (.inl hz))
  ·exact .inl (.inr (.inr (.inl hz)))
  ·exact .inl (.inr (.inr (.inr hz)))
  ·exact .inr (by omega)
end
end Nm
end
section
namespace Nm
open Np PySem
theorem nearR_len (hs : Sml w ts) : (qEw w ts).length = ts.length := qCa (n := ts.length) (rows := colP w ts ++ [ts.map (·.want)]) (fun r hr => by
  rcases jAp.mp hr with hr | hr
  ·exact hs.wideC r hr
  ·rw [jCr.mp hr]; simp) _ qFr
theorem W_orE1 (k : W (g δ S) Q) : W (orE g h δ S) Q := by
 obtain ⟨d, S', e, q⟩ := k.out
 unfold orE
 rw [e]
 exact W.intro rfl q
theorem W_orE2 (e : g δ S = none) (k : W (h δ S) Q) : W (orE g h δ S) Q := by
 unfold orE
 rw [e]
 exact k
def Tl (S : Sto) (a w : Nat) (ts : List Pt) : Prop := ∀ S' x y z, SLe S S' ->
 W (orE (qAa "Plane" "told" F.Plane_told (vr 0) aNil) (qAa "Fit" "told" F.Fit_told (vr 0) aNil) [some (.ref a), x, y, z] S') (fun d S'' => SLe S' S'' /\ ∃ b, d = .ref b /\ RowA S'' b (shaR w ts) /\ S'.length <= b) /\
 W (orE (qAa "Plane" "free" F.Plane_free (vr 0) aNil) (qAa "Fit" "free" F.Fit_free (vr 0) aNil) [some (.ref a), x, y, z] S') (fun d S'' => SLe S' S'' /\ ∃ b, d = .ref b /\ zH S'' b = some ((qF3 w ts).map natD)) /\
 W (orE (qAa "Plane" "ways" F.Plane_ways (vr 0) aNil) (qAa "Fit" "ways" F.Fit_ways (vr 0) aNil) [some (.ref a), x, y, z] S') (fun d S'' => SLe S' S'' /\ ∃ b ds, d = .ref b /\ TabR S'' b ds (wayL w ts)) /\
 W (orE (qAa "Plane" "squares" F.Plane_squares (vr 0) aNil) (qAa "Fit" "squares" F.Fit_squares (vr 0) aNil) [some (.ref a), x, y, z] S') (fun d S'' => SLe S' S'' /\ d = ratD (dotW (qEw w ts) (qEw w ts) (ts.map (·.wt))))
theorem Pl.tl {S : Sto} {p ss st k : Nat} {xs : List D} {w l : Nat} {q : List (Pt × Nat)} {ts : List Pt} (h : Pl S p ss st k xs w l q) (e : q.map (·.1) = ts) (hs : Sml w ts) : Tl S p w ts := fun S' x y z l' => by
 have h' := h.mono l'
 refine ⟨W_orE1 ?_, W_orE1 ?_, W_orE1 ?_, W_orE1 ?_⟩
 ·simp_all [qAa, h'.meth (m := "told") rfl, qAr]
  exact plane_told_w h' e hs
 ·simp_all [qAa, h'.meth (m := "free") rfl, qAr]
  exact plane_free_w h' e hs
 ·simp_all [qAa, h'.meth (m := "ways") rfl, qAr]
  exact plane_ways_w h' e hs
 ·simp_all [qAa, h'.meth (m := "squares") rfl, qAr]
  exact qEa h' e hs
theorem qDu (h : qAo S a = some (("Fit" : Str), fs)) : qAa "Plane" m Fm (vr 0) aNil [some (.ref a), x, y, z] S = none := by
 show qEx "Plane" m Fm aNil _ (.ref a) S = none
 unfold qEx
 simp only [h]
 rw [if_neg (fun z => absurd z.1 (by decide +kernel))]
section
variable {S : Sto} {f w c wa we pa n1 n2 : Nat} {ts : List Pt} {cs as bs : List Nat}
theorem FtA.tl (h : FtA S f w ts c wa we pa n1 n2 cs as bs) (hs : Sml w ts) : Tl S f w ts := fun S' x y z l' => by
 have h' := h.mono l'
 refine ⟨W_orE2 (qDu h'.ins) ?_, W_orE2 (qDu h'.ins) ?_, W_orE2 (qDu h'.ins) ?_, W_orE2 (qDu h'.ins) ?_⟩
 ·simp_all [qAa, h'.me (m := "told") rfl, qAr]
  exact told_w h'
 ·simp_all [qAa, h'.me (m := "free") rfl, qAr]
  exact free_w h' hs
 ·simp_all [qAa, h'.me (m := "ways") rfl, qAr]
  exact ways_w h' hs
 ·simp_all [qAa, h'.me (m := "squares") rfl, qAr]
  exact qD5 h' hs
theorem same_w (T : Tl S a w ts) (h : FtA S f w ts c wa we pa n1 n2 cs as bs) (hs : Sml w ts) (b : Bool) : W (F.k54_same [.ref a, .ref f, .bl b] S) fun d S' => d = .bl true /\ SLe S S' := by
 have hw := hs.wide
 have sq : ∀ {S' : Sto} {y z : Option D} {Q : D -> Sto -> Prop}, SLe S S' -> (∀ S'', SLe S' S'' -> Q (.bl true) S'') -> W (orE (qAa "Plane" "squares" F.Plane_squares (vr 0) aNil) (qAa "Fit" "squares" F.Fit_squares (vr 0) aNil) [some (.ref a), some (.ref f), y, z] S') fun d1 S1 => W (qAa "Fit" "squares" F.Fit_squares (vr 1) aNil [some (.ref a), some (.ref f), y, z] S1) fun d2 S2 => W (F.k52_alike 7 [d1, d2] S2) Q := fun {S' y z Q} l k => by
  refine (T S' _ _ _ l).2.2.2.mono ?_
  rintro d S1 ⟨l1, rfl⟩
  simp_all [qAa, (h.mono (l.trans l1)).me (m := "squares") rfl, qAr]
  refine (qD5 (h.mono (l.trans l1)) hs).mono ?_
  rintro d S2 ⟨l2, rfl⟩
  refine (qBd (al_rat S2 5 _)).mono ?_
  rintro d S3 ⟨rfl, l3⟩
  exact k S3 (l1.trans (l2.trans l3))
 have wy : ∀ {S' : Sto} {y z : Option D} {Q : D -> Sto -> Prop}, SLe S S' -> (∀ S'', SLe S' S'' -> Q (.bl true) S'') -> W (orE (qAa "Plane" "ways" F.Plane_ways (vr 0) aNil) (qAa "Fit" "ways" F.Fit_ways (vr 0) aNil) [some (.ref a), some (.ref f), y, z] S') fun d1 S1 => W (qAa "Fit" "ways" F.Fit_ways (vr 1) aNil [some (.ref a), some (.ref f), y, z] S1) fun d2 S2 => W (F.k52_alike 7 [d1, d2] S2) Q := fun {S' y z Q} l k => by
  refine (T S' _ _ _ l).2.2.1.mono ?_
  rintro d S1 ⟨l1, b, ds, rfl, r1⟩
  simp_all [qAa, (h.mono (l.trans l1)).me (m := "ways") rfl, qAr]
  refine (ways_w (h.mono (l.trans l1)) hs).mono ?_
  rintro d S2 ⟨l2, b', ds', rfl, r2⟩
  refine (qBd (al_tab 3 (r1.le l2) r2 (by rw [wayL, jBd]; have := freeL_len w ts; omega) fun r hr => by have := wayL_each r hr; omega)).mono ?_
  rintro d S3 ⟨rfl, l3⟩
  exact k S3 (l1.trans (l2.trans l3))
 have td : ∀ {S' : Sto} {y z : Option D} {Q : D -> Sto -> Prop} {b : Nat}, SLe S S' -> RowA S' b (shaR w ts) -> (∀ S'', SLe S' S'' -> Q (.bl true) S'') -> W (qAa "Fit" "told" F.Fit_told (vr 1) aNil [some (.ref a), some (.ref f), y, z] S') fun d2 S2 => W (F.k52_alike 7 [.ref b, d2] S2) Q := fun {S' y z Q b} l r k => by
  simp_all [qAa, (h.mono l).me (m := "told") rfl, qAr]
  refine (told_w (h.mono l)).mono ?_
  rintro d S2 ⟨l2, b', rfl, r2, _⟩
  refine (qBd (al_row 4 (l2.lst r) r2 (by have := qFj (w := w) (ts := ts); omega))).mono ?_
  rintro d S3 ⟨rfl, l3⟩
  exact k S3 (l2.trans l3)
 unfold F.k54_same
 refine W_fnF rfl ?_
 rw [W_outF]
 unfold Den.k54_same
 refine qAh (fun δ' S' => SLe S S' /\ δ' = [some (.ref a), some (.ref f), some (.bl b), none]) ?_ ?_
 ·cases b with
  | false =>
   simp_all []
   exact ⟨_, rfl, SLe.rfl, rfl⟩
  | true =>
   simp_all []
   refine sq SLe.rfl fun S1 l1 => ?_
   simp_all []
   refine wy l1 fun S2 l2 => ?_
   simp_all []
   exact ⟨_, rfl, l1.trans l2, rfl⟩
 rintro _ S1 ⟨l1, rfl⟩
 refine qAh (fun δ' S' => ∃ b', SLe S1 S' /\ δ' = [some (.ref a), some (.ref f), some (.bl b), some (.ref b')] /\ RowA S' b' (shaR w ts) /\ S1.length <= b') ?_ ?_
 ·simp_all []
  refine (T S1 _ _ _ l1).1.mono ?_
  rintro d S2 ⟨l2, b', rfl, r2, n2⟩
  exact ⟨_, rfl, b', l2, rfl, r2, n2⟩
 rintro _ S2 ⟨b', l2, rfl, r2, nb⟩
 have L2 := l1.trans l2
 refine qAh (fun δ' S' => SLe S2 S' /\ δ' = [some (.ref a), some (.ref f), some (.bl b), some (.ref b')]) ?_ ?_
 ·simp_all []
  refine td L2 r2 fun S3 l3 => ?_
  simp_all []
  refine (T S3 _ _ _ (L2.trans l3)).2.1.mono ?_
  rintro d S4 ⟨l4, e, rfl, r4⟩
  have L4 := L2.trans (l3.trans l4)
  simp_all [qAa, (h.mono L4).me (m := "free") rfl, qAr]
  refine (free_w (h.mono L4) hs).mono ?_
  rintro d S5 ⟨l5, e', rfl, r5⟩
  refine (qBd (al_natl (l5.lst r4) r5 (by have := freeL_len w ts; omega))).mono ?_
  rintro d S6 ⟨rfl, l6⟩
  simp_all []
  exact ⟨_, rfl, l3.trans (l4.trans (l5.trans l6)), rfl⟩
 rintro _ S3 ⟨l3, rfl⟩
 refine qAh (fun δ' S' => SLe S S' /\ δ' = [some (.ref a), some (.ref f), some (.bl b), some (.ref b')]) ?_ ?_
 ·have r3 : RowA S3 b' (shaR w ts) := l3.lst r2
  simp_all [qAv r3, tup2]
  refine W_appB r3 (by have := qFj (w := w) (ts := ts); simp; omega) fun S4 b4 _ _ => ?_
  exact ⟨_, rfl, sle_bt (L2.trans l3) b4 (jAj l1.len nb), rfl⟩
 rintro _ S4 ⟨l4, rfl⟩
 refine qAh (fun δ' S' => SLe S S' /\ δ' = [some (.ref a), some (.ref f), some (.bl b), some (.ref b')]) ?_ ?_
 ·simp_all []
  refine wy l4 fun S5 l5 => ?_
  simp_all []
  refine sq (l4.trans l5) fun S6 l6 => ?_
  simp_all []
  exact ⟨_, rfl, l4.trans (l5.trans l6), rfl⟩
 rintro _ S5 ⟨l5, rfl⟩
 simp_all []
 refine (T S5 _ _ _ l5).1.mono ?_
 rintro d S6 ⟨l6, e, rfl, r6, _⟩
 refine td (l5.trans l6) r6 fun S7 l7 => ?_
 exact ⟨rfl, l5.trans (l6.trans l7)⟩
end
theorem asked54_w (T : Two S p s ss st k ps xs w l q r w l) (eq : q.map (·.1) = ts) (er : r.map (·.1) = ts) (hs : Sml w ts) (m : Int) : W (F.k54_asked [.ref p, .ref s, .int m] S) fun d S' => d = .bl true /\ SLe S S' := by
 have lr : r.length = ts.length := by rw [<- er]; simp
 have hl := hs.len
 unfold F.k54_asked
 refine W_fnF rfl ?_
 rw [W_outF]
 unfold Den.k54_asked
 refine qAh (fun δ' S' => SLe S S' /\ ∃ f c wa we pa n1 n2 cs as bs, δ' = [some (.ref p), some (.ref s), some (.int m), some (.ref f), none] /\ FtA S' f w ts c wa we pa n1 n2 cs as bs) ?_ ?_
 ·simp_all [mkE]
  refine comp_rows (base := [some (.ref p), some (.ref s), some (.int m), none, none]) tpD T.L.pt er (by omega) (by show bnd (ixD (.ref s) (.int 1) S) itL = _; rw [qA8 T.L.st rfl, bnd_ok]; exact qAn T.L.pt.1) ?_ ?_
  ·intro y S' hy l
   show W (fnE tupD _ [some (.ref p), some (.ref s), some (.int m), none, none, some (.int (y.1.num : Int)), some (.ref y.2), some (ratD y.1.want), some (ratD y.1.wt)] S') _
   simp_all []
   refine qAx (qA9 (l.lst (T.L.pt.2 y hy))) fun S1 b l1 n1 r1 => ?_
   simp_all [tup3f]
   exact ⟨l1, b, n1, rfl, r1⟩
  ·intro q' S1 c l1 n e1 e2 e3 e4 e5
   rw [qB0 (l1.lst T.L.st) rfl, W_ok]
   refine (fit_mk e1 e2 (by rw [e3]; exact hs)).mono ?_
   rintro d S2 ⟨l2, f, c, wa, we, pa, n1, n2, cs, as, bs, rfl, _, F⟩
   rw [e3] at F
   exact ⟨_, rfl, l1.trans l2, f, c, wa, we, pa, n1, n2, cs, as, bs, rfl, F⟩
 rintro _ S1 ⟨l1, f, c, wa, we, pa, n1, n2, cs, as, bs, rfl, F⟩
 refine qAh (fun δ' S' => SLe S1 S' /\ ∃ f' c wa we pa n1 n2 cs as bs, δ' = [some (.ref p), some (.ref s), some (.int m), some (.ref f), some (.ref f')] /\ FtA S' f' w ts c wa we pa n1 n2 cs as bs) ?_ ?_
 ·simp_all [qAa, (T.mono l1).P.meth (m := "fit") rfl, qAr]
  refine (qA7 (T.mono l1).P eq hs).mono ?_
  rintro d S2 ⟨l2, f', c, wa, we, pa, n1, n2, cs, as, bs, rfl, F', _⟩
  exact ⟨_, rfl, l2, f', c, wa, we, pa, n1, n2, cs, as, bs, rfl, F'⟩
 rintro _ S2 ⟨l2, f', c', wa', we', pa', n1', n2', cs', as', bs', rfl, F'⟩
 have F2 := F.mono l2
 have T2 := T.mono (l1.trans l2)
 refine qAh (fun δ' S' => SLe S2 S' /\ δ' = [some (.ref p), some (.ref s), some (.int m), some (.ref f), some (.ref f')]) ?_ ?_
 ·have io : isoD "Fit" (.ref f') S2 = ok (.bl true) S2 := by
   unfold isoD
   simp only [F'.ins, if_true]
  simp_all [io, F'.fl (x := "wide") rfl, qB0 T2.L.st rfl]
  refine (qBd (n := 7) (show Al S2 7 (.int (w : Int)) (.int (w : Int)) from .inl ⟨_, rfl, rfl⟩)).mono ?_
  rintro d S3 ⟨rfl, l3⟩
  simp_all [qAa, (F'.mono l3).me (m := "rests") rfl, qAr]
  refine (rests_w (F'.mono l3)).mono ?_
  rintro d S4 ⟨l4, b, rfl, r4⟩
  simp_all [qAa, (F2.mono (l3.trans l4)).me (m := "rests") rfl, qAr]
  refine (rests_w (F2.mono (l3.trans l4))).mono ?_
  rintro d S5 ⟨l5, b', rfl, r5⟩
  refine (qBd (al_row 4 (l5.lst r4) r5 (by rw [nearR_len hs]; omega))).mono ?_
  rintro d S6 ⟨rfl, l6⟩
  simp_all []
  exact ⟨_, rfl, l3.trans (l4.trans (l5.trans l6)), rfl⟩
 rintro _ S3 ⟨l3, rfl⟩
 simp_all [qAi (show (2 : Int) ≠ 0 by decide), qAi (show (4 : Int) ≠ 0 by decide)]
 refine (same_w ((T2.mono l3).P.tl eq hs) (F2.mono l3) hs _).mono ?_
 rintro d S4 ⟨rfl, l4⟩
 simp_all [qAi (show (2 : Int) ≠ 0 by decide), qAi (show (4 : Int) ≠ 0 by decide)]
 refine (same_w ((F'.mono (l3.trans l4)).tl hs) (F2.mono (l3.trans l4)) hs _).mono ?_
 rintro d S5 ⟨rfl, l5⟩
 exact ⟨rfl, l1.trans (l2.trans (l3.trans (l4.trans l5)))⟩
end Nm
end
section
namespace Nm
open Np PySem
section
variable {S : Sto} {p s n w l : Nat} {ts : List Pt} {M : List Nat} {xs : List D} {st : Nat}
theorem step54_w (h : BoX S p s n w l ts M xs st) (hn : n <= 800) (hT : Tg ts) {big : Nat} (hb : big <= 9) (hw6 : (w : Int) <= 3 + (big : Int).fdiv 3) (hl5 : ts.length <= 5 + big) {num way : Int} (h0 : 0 <= num) {lean : Bool} {a0 a2 a6 a7 a10 : Option D} :
  W ((ifS (orT (andT (tv (op2 eqD (vr 9) (cst (.int 0)))) (tv (op2 gtD (fnE lenD (yF (op2 ixD (vr 5) (cst (.int 1))) aNil)) (cst (.int 0))))) (tv (op2 eqD (fnE lenD (yF (op2 ixD (vr 5) (cst (.int 1))) aNil)) (op2 addD (cst (.int 5)) (vr 1))))) (dropS (fnE F.k52_taken (yF (vr 4) (yF (vr 5) (yF (vr 8) aNil))))) (ifS (andT (tv (op2 eqD (vr 9) (cst (.int 1)))) (tv (op2 ltD (op2 ixD (vr 5) (cst (.int 0))) (op2 addD (cst (.int 3)) (op2 qCm (vr 1) (cst (.int 3))))))) (dropS (fnE F.k54_widened (yF (vr 4) (yF (vr 5) (yF (vr 8) aNil))))) (ifS (andT (tv (op2 eqD (vr 9) (cst (.int 2)))) (tv (op2 gtD (op2 ixD (vr 5) (cst (.int 0))) (cst (.int 0))))) (dropS (fnE F.k52_narrowed (yF (vr 4) (yF (vr 5) aNil)))) (ifS (notT (tv (fnE F.k54_laid (yF (vr 4) (yF (vr 5) (yF (vr 8) (yF (vr 3) aNil))))))) (retS (cst (.bl false))) nxS)))) [a0, some (.int (big : Int)), a2, some (.bl lean), some (.ref p), some (.ref s), a6, a7, some (.int num), some (.int way), a10] S) fun fl S' => ∃ δ', fl = .nx δ' /\ δ' = [a0, some (.int (big : Int)), a2, some (.bl lean), some (.ref p), some (.ref s), a6, a7, some (.int num), some (.int way), a10] /\ ∃ (w l : Nat) (ts : List Pt) (M' : List Nat) (xs' : List D) (st' : Nat), (w : Int) <= 3 + (big : Int).fdiv 3 /\ ts.length <= 5 + big /\ Tg ts /\ BoX S' p s (n + 1) w l ts M' xs' st' /\ Left S S' M M' := by
 have h' := h
 obtain ⟨ss, k, ps, q, r, T, eq, er, hx, O, rfl⟩ := h'
 have s0 := qB0 T.L.st rfl
 have s1 := qA8 T.L.st rfl
 have lr : r.length = ts.length := by rw [<- er]; simp
 have rl : ((r.map ptD).length : Int) = (ts.length : Int) := by rw [jBd]; omega
 have e3 : (3 : Int) ≠ 0 := by decide
 have b3 : (big : Int).fdiv 3 = (big : Int) / 3 := jEw _ (by decide)
 have tk : ts ≠ [] -> W (F.k52_taken [.ref p, .ref s, .int num] S) fun d S' => ∃ (w l : Nat) (ts : List Pt) (M' : List Nat) (xs' : List D) (st' : Nat), (w : Int) <= 3 + (big : Int).fdiv 3 /\ ts.length <= 5 + big /\ Tg ts /\ BoX S' p s (n + 1) w l ts M' xs' st' /\ Left S S' (ss :: s :: ps :: r.map (·.2)) M' := fun h2 => by
  refine (takenX_w h (by omega) h2).mono ?_
  rintro d S' ⟨ts', M', st', hl, sb, B, L⟩
  exact ⟨w, l, ts', M', _, st', hw6, by omega, sb.tg hT, B, L⟩
 have ld : ts.length < 5 + big -> W (F.k54_laid [.ref p, .ref s, .int num, .bl lean] S) fun d S' => d = .bl true /\ ∃ (w l : Nat) (ts : List Pt) (M' : List Nat) (xs' : List D) (st' : Nat), (w : Int) <= 3 + (big : Int).fdiv 3 /\ ts.length <= 5 + big /\ Tg ts /\ BoX S' p s (n + 1) w l ts M' xs' st' /\ Left S S' (ss :: s :: ps :: r.map (·.2)) M' := fun h2 => by
  refine (laid54_w h hn hT h0 lean).mono ?_
  rintro d S' ⟨rfl, ts', M', st', hl, tg, B, L⟩
  exact ⟨rfl, w, _, ts', M', _, st', hw6, by omega, tg, B, L⟩
 by_cases c8 : (ts.length : Int) = 5 + (big : Int)
 ·have c2 : (0 : Int) < (ts.length : Int) := by omega
  have ne : ts ≠ [] := fun z => by rw [z] at c2; simp at c2
  by_cases c1 : way = 0
  ·simp_all [c1, s1, qAe T.L.pt.1, rl, c2]
   exact (tk ne).mono fun d S' h => ⟨_, rfl, rfl, h⟩
  ·simp_all [c1, s1, qAe T.L.pt.1, rl, c8]
   exact (tk ne).mono fun d S' h => ⟨_, rfl, rfl, h⟩
 ·have hlt : ts.length < 5 + big := by omega
  by_cases c1 : way = 0
  ·by_cases c2 : (0 : Int) < (ts.length : Int)
   ·have ne : ts ≠ [] := fun z => by rw [z] at c2; simp at c2
    simp_all [c1, s1, qAe T.L.pt.1, rl, c2]
    exact (tk ne).mono fun d S' h => ⟨_, rfl, rfl, h⟩
   ·simp_all [c1, s1, qAe T.L.pt.1, rl, c2, c8, show ¬ ((0 : Int) = 1) by decide, show ¬ ((0 : Int) = 2) by decide]
    refine (ld hlt).mono ?_
    rintro d S' ⟨rfl, h⟩
    simp_all []
    exact ⟨_, rfl, rfl, h⟩
  ·by_cases d1 : way = 1
   ·by_cases hw : (w : Int) < 3 + (big : Int).fdiv 3
    ·simp_all [c1, d1, s1, qAe T.L.pt.1, rl, c8, show ¬ ((1 : Int) = 0) by decide, s0, qA0 e3, hw]
     refine (widened54_w h hn (by omega) hT num).mono ?_
     rintro d S' ⟨ts', M', st', hl, tg, B, L⟩
     exact ⟨_, rfl, rfl, _, l, ts', M', _, st', by omega, by omega, tg, B, L⟩
    ·simp_all [c1, d1, s1, qAe T.L.pt.1, rl, c8, show ¬ ((1 : Int) = 0) by decide, show ¬ ((1 : Int) = 2) by decide, s0, qA0 e3, hw]
     refine (ld hlt).mono ?_
     rintro d S' ⟨rfl, h⟩
     simp_all []
     exact ⟨_, rfl, rfl, h⟩
   ·by_cases d2 : way = 2
    ·by_cases hw : (0 : Int) < (w : Int)
     ·simp_all [c1, d1, d2, s1, qAe T.L.pt.1, rl, c8, show ¬ ((2 : Int) = 0) by decide, show ¬ ((2 : Int) = 1) by decide, s0, hw]
      obtain ⟨v, rfl⟩ : ∃ v, w = v + 1 := ⟨w - 1, by omega⟩
      refine (narrowedX_w h (by omega)).mono ?_
      rintro d S' ⟨ts', M', st', hl, sb, B, L⟩
      exact ⟨_, rfl, rfl, _, l, ts', M', _, st', by omega, by omega, sb.tg hT, B, L⟩
     ·simp_all [c1, d1, d2, s1, qAe T.L.pt.1, rl, c8, show ¬ ((2 : Int) = 0) by decide, show ¬ ((2 : Int) = 1) by decide, s0, hw]
      refine (ld hlt).mono ?_
      rintro d S' ⟨rfl, h⟩
      simp_all []
      exact ⟨_, rfl, rfl, h⟩
    ·simp_all [c1, d1, d2, s1, qAe T.L.pt.1, rl, c8]
     refine (ld hlt).mono ?_
     rintro d S' ⟨rfl, h⟩
     simp_all []
     exact ⟨_, rfl, rfl, h⟩
end
theorem Two.insM (T : Two S p s ss st k ps xs w l q r w' l') (hx : qAo S x = some (c, fs)) : x ∉ ss :: s :: ps :: r.map (·.2) := fun z => by
 simp only [jAo] at z
 rcases z with z | z | z | z
 ·exact qAw hx T.P.sl z
 ·exact qAw hx T.L.st z
 ·exact qAw hx T.L.pt.1 z
 ·obtain ⟨y, hy, e⟩ := jCe.mp z
  exact qAw hx (T.L.pt.2 y hy) e.symm
def K6 (S : Sto) (M : List Nat) (v : D) : Prop := v = .non \/ ∃ (kl f tl n2 : Nat) (row : List Rat) (w c wa we pa n1 : Nat), v = .ref kl /\ zH S kl = some [.ref f, .ref tl] /\ qAo S f = some (("Fit" : Str), ftF w c wa we pa (.tup [.ref n1, .ref n2])) /\ RowA S n2 row /\ RowA S tl row /\ row.length <= 1000 /\ kl ∉ M /\ tl ∉ M /\ n2 ∉ M
theorem K6.mono (h : K6 S M v) (l : SLe S S') : K6 S' M v := by
 rcases h with h | ⟨kl, f, tl, n2, row, w, c, wa, we, pa, n1, e, h1, h2, h3, h4, h5⟩
 ·exact .inl h
 ·exact .inr ⟨kl, f, tl, n2, row, w, c, wa, we, pa, n1, e, l.lst h1, l.ins h2, l.lst h3, l.lst h4, h5⟩
theorem K6.left (h : K6 S M v) (B : BoX S p s n w l ts M xs st) (L : Left S S' M M') : K6 S' M' v := by
 rcases h with h | ⟨kl, f, tl, n2, row, w, c, wa, we, pa, n1, e, h1, h2, h3, h4, h5, h6, h7, h8⟩
 ·exact .inl h
 ·obtain ⟨ss, k, ps, q, r, T, _, _, _, _, rfl⟩ := B
  have nm : ∀ a, a < S.length -> a ∉ ss :: s :: ps :: r.map (·.2) -> a ∉ M' := fun a ha hn hm => by
   rcases L.2 a hm with z | z
   ·exact hn z
   ·omega
  exact .inr ⟨kl, f, tl, n2, row, w, c, wa, we, pa, n1, e, L.1.lst h6 h1, L.1.ins (T.insM h2) h2, L.1.lst h8 h3, L.1.lst h7 h4, h5, nm _ (qAd h1) h6, nm _ (qAd h4) h7, nm _ (qAd h3) h8⟩
theorem told2_w (hi : qAo S f = some (("Fit" : Str), ftF w c wa we pa (.tup [.ref n1, .ref n2]))) (hr : RowA S n2 row) : W (F.Fit_told [.ref f] S) fun d S' => SLe S S' /\ ∃ b, d = .ref b /\ RowA S' b row := by
 (unfold F.Fit_told; refine Np.W_fnF rfl ?_; unfold Den.Fit_told; simp_all [])
 simp_all [qBc hi (show (ftF w c wa we pa (.tup [.ref n1, .ref n2])).lookup ("near" : Str) = some (.tup [.ref n1, .ref n2]) from rfl), show ixD (.tup [.ref n1, .ref n2]) (.int 1) S = ok (.ref n2) S from rfl]
 refine qAx (qA9 hr) fun S1 b l1 _ r1 => ?_
 exact ⟨l1, b, rfl, r1⟩
theorem freshT_w (h : Pl S p ss st k [] w 0 []) : W (F.k52_fresh [.int (w : Int)] S) fun d S' => SLe S S' /\ ∃ s ps, d = .ref s /\ Two S' p s ss st k ps [] w 0 [] [] w 0 := by
 (unfold F.k52_fresh; refine Np.W_fnF rfl ?_; unfold Den.k52_fresh; simp_all [])
 refine qAx (qAz (by simp) _) fun S1 ps l1 n1 r1 => ?_
 refine qAx (qAz (by simp) _) fun S2 s l2 n2 r2 => ?_
 have u := qAd h.kp.1
 exact ⟨l1.trans l2, s, ps, rfl, (h.mono l1).mono l2, ⟨r2, ⟨l2.lst r1, fun _ h => by cases h⟩, by simp⟩, by omega, fun _ h => by cases h⟩
theorem W_if_t (h : W (t δ S) fun b S' => b = true /\ S' = S) (k : W (A δ S) Q) : W (ifS t A B δ S) Q := by
 unfold ifS
 rw [W_bnd]
 refine h.mono ?_
 rintro b S' ⟨rfl, rfl⟩
 exact k
theorem W_if_f (h : W (t δ S) fun b S' => b = false /\ S' = S) (k : W (B δ S) Q) : W (ifS t A B δ S) Q := by
 unfold ifS
 rw [W_bnd]
 refine h.mono ?_
 rintro b S' ⟨rfl, rfl⟩
 exact k
theorem qDy (ns : List Int) (S : Sto) : F.k11_cell_at [.scr (ns.map D.int), .int 0] S = ok (.int (ns.getD 0 0)) S := by
 refine W_eq ?_
 (unfold F.k11_cell_at; refine Np.W_fnF rfl ?_; unfold Den.k11_cell_at; simp_all [])
 by_cases h : 0 < ns.length
 ·have h1 : (0 : Int) < ((ns.map D.int).length : Int) := by rw [jBd]; omega
  have h2 : (ns.map D.int)[0]? = some (.int ns[0]) := by simp [h]
  simp_all [h1, show ixD (.scr (ns.map D.int)) (.int 0) S = ok (.int ns[0]) S from ixD_scr (i := 0) h2]
  simp [h]
 ·have h1 : ¬ (0 : Int) < ((ns.map D.int).length : Int) := by rw [jBd]; omega
  simp_all [h1]
  simp [jEp (show ns.length = 0 by omega)]
theorem k54_holds (ns : List Int) (hs : Scr ns) : W (F.k54_law [.scr (ns.map D.int)] []) fun d _ => d = .bl true := by
 unfold F.k54_law
 refine W_fnF rfl ?_
 rw [W_outF]
 unfold Den.k54_law
 have e2 : (2 : Int) ≠ 0 := by decide
 have e3 : (3 : Int) ≠ 0 := by decide
 have e4 : (4 : Int) ≠ 0 := by decide
 have e8 : (8 : Int) ≠ 0 := by decide
 refine qAh (fun δ' S' => S' = [] /\ ∃ big : Nat, big <= 9 /\ δ' = [some (.scr (ns.map D.int)), some (.int (big : Int)), none, none, none, none, none, none, none, none, none]) ?_ ?_
 ·by_cases hb : ((ns.getD 0 0).fdiv 8).fmod 8 = 1
  ·simp_all [qDy, qA0 e8, qAi e8, hb, show ∀ S, intD [.bl true] S = ok (.int 1) S from fun _ => rfl, qAf (show (9 : Int).natAbs.log2 + (1 : Int).natAbs.log2 <= 100000000 by decide +kernel)]
   exact ⟨_, rfl, trivial, 9, by decide, rfl⟩
  ·simp_all [qDy, qA0 e8, qAi e8, hb, show ∀ S, intD [.bl false] S = ok (.int 0) S from fun _ => rfl, qAf (show (9 : Int).natAbs.log2 + (0 : Int).natAbs.log2 <= 100000000 by decide +kernel)]
   exact ⟨_, rfl, trivial, 0, by decide, rfl⟩
 rintro _ S0 ⟨rfl, big, hbig, rfl⟩
 have b3 : (big : Int).fdiv 3 = (big : Int) / 3 := jEw _ (by decide)
 refine qAh (fun δ' S' => S' = [] /\ ∃ w0 : Nat, (w0 : Int) <= 3 + (big : Int).fdiv 3 /\ δ' = [some (.scr (ns.map D.int)), some (.int (big : Int)), some (.int (w0 : Int)), none, none, none, none, none, none, none, none]) ?_ ?_
 ·obtain ⟨f1, f2⟩ := qBl (ns.getD 0 0) (show (0 : Int) < 4 by decide)
  simp_all [qDy, qAi e4, qA0 e3]
  exact ⟨_, rfl, trivial, ((ns.getD 0 0).fmod 4 + (big : Int).fdiv 3).toNat, by omega, by rw [Int.toNat_of_nonneg (by omega)]⟩
 rintro _ S0 ⟨rfl, w0, hw0, rfl⟩
 refine qAh (fun δ' S' => S' = [] /\ ∃ lean : Bool, δ' = [some (.scr (ns.map D.int)), some (.int (big : Int)), some (.int (w0 : Int)), some (.bl lean), none, none, none, none, none, none, none]) ?_ ?_
 ·simp_all [qDy, qA0 e4, qAi e2]
  exact ⟨_, rfl, trivial, _, rfl⟩
 rintro _ S0 ⟨rfl, lean, rfl⟩
 refine qAh (fun δ' S' => ∃ p ss st k, δ' = [some (.scr (ns.map D.int)), some (.int (big : Int)), some (.int (w0 : Int)), some (.bl lean), some (.ref p), none, none, none, none, none, none] /\ Pl S' p ss st k [] w0 0 []) ?_ ?_
 ·simp_all [mkE]
  refine (plane_mk (by omega) []).mono ?_
  rintro d S1 ⟨ss, st, k, rfl, _, P, _⟩
  exact ⟨_, rfl, _, ss, st, k, rfl, P⟩
 rintro _ S1 ⟨p, ss, st, k, rfl, P⟩
 refine qAh (fun δ' S' => ∃ s M st, δ' = [some (.scr (ns.map D.int)), some (.int (big : Int)), some (.int (w0 : Int)), some (.bl lean), some (.ref p), some (.ref s), none, none, none, none, none] /\ BoX S' p s 1 w0 0 [] M [] st) ?_ ?_
 ·simp_all []
  refine (freshT_w P).mono ?_
  rintro d S2 ⟨_, s, ps, rfl, T⟩
  exact ⟨_, rfl, s, _, st, rfl, ss, k, ps, [], [], T, rfl, rfl, by simp, ⟨by simp, by omega, by omega, by simp, fun _ h => by cases h⟩, rfl⟩
 rintro _ S2 ⟨s, M, st2, rfl, B2⟩
 refine qAh (fun δ' S' => S' = S2 /\ δ' = [some (.scr (ns.map D.int)), some (.int (big : Int)), some (.int (w0 : Int)), some (.bl lean), some (.ref p), some (.ref s), some .non, none, none, none, none]) ?_ ?_
 ·simp_all []
  exact ⟨_, rfl, trivial, rfl⟩
 rintro _ S' ⟨rfl, rfl⟩
 refine qAh (fun δ' S5 => ∃ v o7 o8 o9 o10, δ' = [some (.scr (ns.map D.int)), some (.int (big : Int)), some (.int (w0 : Int)), some (.bl lean), some (.ref p), some (.ref s), some v, o7, o8, o9, o10] /\ ∃ (n w l : Nat) (ts : List Pt) (M : List Nat) (xs : List D) (st : Nat), n <= 700 /\ (w : Int) <= 3 + (big : Int).fdiv 3 /\ ts.length <= 5 + big /\ Tg ts /\ BoX S5 p s n w l ts M xs st) ?_ ?_
 ·have hb : ∃ b : Nat, b <= 16 /\ b <= ns.length /\ minD [.int 16, .int ((ns.map D.int).length : Int)] S' = ok (.int (b : Int)) S' := by
   by_cases h : ns.length < 16
   ·refine ⟨ns.length, by omega, jAx _, ?_⟩
    show ok (D.int (if ((ns.map D.int).length : Int) < 16 then _ else _)) S' = _
    rw [if_pos (by rw [jBd]; omega), jBd]
   ·refine ⟨16, jAx _, by omega, ?_⟩
    show ok (D.int (if ((ns.map D.int).length : Int) < 16 then _ else _)) S' = _
    rw [if_neg (by rw [jBd]; omega)]
    rfl
  obtain ⟨b, hb1, hb2, hb3⟩ := hb
  have hrng : rng2D [.int 1, .int (b : Int)] S' = ok (.fix ((jDn 1 (b - 1)).map fun i => D.int (i : Nat))) S' := rng2D_nat (p := 1) (by decide) (by omega) S'
  unfold forS
  rw [W_bnd]
  refine W.intro (a := Src.fix ((jDn 1 (b - 1)).map fun i => D.int (i : Nat))) (S := S') ?_ ?_
  ·unfold itA
   refine Eq.trans ?_ hrng
   simp only [yF, aConsK, aNil, consK, fnE, cst, vr, jCu, jCg, bnd_ok, lenD_scr, hb3]
  refine qDo _ (fun i δ S5 => i <= 16 /\ ∃ v o7 o8 o9 o10, δ = [some (.scr (ns.map D.int)), some (.int (big : Int)), some (.int (w0 : Int)), some (.bl lean), some (.ref p), some (.ref s), some v, o7, o8, o9, o10] /\ ∃ (w l : Nat) (ts : List Pt) (M : List Nat) (xs : List D) (st : Nat), (w : Int) <= 3 + (big : Int).fdiv 3 /\ ts.length <= 5 + big /\ Tg ts /\ BoX S5 p s (i + 1) w l ts M xs st /\ K6 S5 M v) (jAx _) ⟨by omega, _, _, _, _, _, rfl, w0, 0, [], M, [], st2, hw0, by simp, fun _ h => (by cases h), B2, .inl rfl⟩ (fun i δ S' _ => rfl) ?_ ?_
  ·rintro i x δ S5 hx ⟨_, v, o7, o8, o9, o10, rfl, w, l, ts, M5, xs5, st5, hw, hl, tg, B5, K5⟩
   obtain ⟨rfl, hi⟩ := rp_get hx
   refine W.intro (a := [some (.scr (ns.map D.int)), some (.int (big : Int)), some (.int (w0 : Int)), some (.bl lean), some (.ref p), some (.ref s), some v, some (.int ((1 + i : Nat) : Int)), o8, o9, o10]) (S := S5) rfl ?_
   have hk : (ns.map D.int)[1 + i]? = some (.int (ns[1 + i]'(by omega))) := by simp [show 1 + i < ns.length by omega]
   obtain ⟨m, m0, em⟩ := mixed_eq (k := ((1 + i : Nat) : Int)) (by omega) (by omega) (ns[1 + i]'(by omega)) S5
   have fd : m.fdiv 7 = m / 7 := jEw _ (by decide)
   refine qAh (fun δ' S' => S' = S5 /\ δ' = [some (.scr (ns.map D.int)), some (.int (big : Int)), some (.int (w0 : Int)), some (.bl lean), some (.ref p), some (.ref s), some v, some (.int ((1 + i : Nat) : Int)), some (.int (m.fdiv 7)), some (.int (m.fmod 7)), o10]) ?_ ?_
   ·simp_all [ixD_scr hk, em, dvm_eq (show (7 : Int) ≠ 0 by decide), tupG2]
    exact ⟨_, rfl, trivial, rfl⟩
   rintro _ S5' ⟨rfl, rfl⟩
   refine qAh (fun δ' S6 => δ' = [some (.scr (ns.map D.int)), some (.int (big : Int)), some (.int (w0 : Int)), some (.bl lean), some (.ref p), some (.ref s), some v, some (.int ((1 + i : Nat) : Int)), some (.int (m.fdiv 7)), some (.int (m.fmod 7)), o10] /\ ∃ (w l : Nat) (ts : List Pt) (M' : List Nat) (xs' : List D) (st' : Nat), (w : Int) <= 3 + (big : Int).fdiv 3 /\ ts.length <= 5 + big /\ Tg ts /\ BoX S6 p s (i + 1 + 1) w l ts M' xs' st' /\ Left S5' S6 M5 M') (step54_w B5 (by omega) tg hbig hw hl (by omega)) ?_
   rintro _ S6 ⟨rfl, w6, l6, ts6, M6, xs6, st6, hw6, hl6, tg6, B6, L6⟩
   have K6' := K5.left B5 L6
   refine qAh (fun δ' S7 => SLe S6 S7 /\ δ' = [some (.scr (ns.map D.int)), some (.int (big : Int)), some (.int (w0 : Int)), some (.bl lean), some (.ref p), some (.ref s), some v, some (.int ((1 + i : Nat) : Int)), some (.int (m.fdiv 7)), some (.int (m.fmod 7)), o10]) ?_ ?_
   ·rcases K6' with rfl | ⟨kl, f, tl, n2, row, wf, c, wa, we, pa, n1, rfl, h1, h2, h3, h4, h5, _⟩
    ·simp_all [show ∀ S, isNND .non .non S = ok (.bl false) S from fun _ => rfl]
     exact ⟨_, rfl, SLe.rfl, rfl⟩
    ·simp_all [show ∀ S, isNND (.ref kl) .non S = ok (.bl true) S from fun _ => rfl, qB0 h1 rfl, qAa, qFs h2 (show (ftF wf c wa we pa (.tup [.ref n1, .ref n2])).lookup ("told" : Str) = none from rfl), qAr]
     refine (told2_w h2 h3).mono ?_
     rintro d S7 ⟨l7, b', rfl, r7⟩
     simp_all [qA8 (l7.lst h1) rfl]
     refine (qBd (al_row 4 r7 (l7.lst h4) h5)).mono ?_
     rintro d S8 ⟨rfl, l8⟩
     simp_all []
     exact ⟨_, rfl, l7.trans l8, rfl⟩
   rintro _ S7 ⟨l7, rfl⟩
   have B7 := B6.mono l7
   have K7 := K6'.mono l7
   by_cases hk8 : ((1 + i : Nat) : Int) = 8
   ·obtain ⟨ss7, k7, ps7, q7, r7, T7, eq7, er7, hx7, O7, rfl⟩ := B7
    have sm := tg6.sml O7 (by omega) (by omega)
    refine W_if_t (by simp_all [hk8]) ?_
    refine qAh (fun δ' S8 => SLe S7 S8 /\ δ' = [some (.scr (ns.map D.int)), some (.int (big : Int)), some (.int (w0 : Int)), some (.bl lean), some (.ref p), some (.ref s), some v, some (.int ((1 + i : Nat) : Int)), some (.int (m.fdiv 7)), some (.int (m.fmod 7)), o10]) ?_ ?_
    ·simp_all []
     refine (asked54_w T7 eq7 er7 sm _).mono ?_
     rintro d S8 ⟨rfl, l8⟩
     simp_all []
     exact ⟨_, rfl, l8, rfl⟩
    rintro _ S8 ⟨l8, rfl⟩
    have T8 := T7.mono l8
    refine qAh (fun δ' S9 => SLe S8 S9 /\ ∃ f c wa we pa n1 n2 cs as bs, δ' = [some (.scr (ns.map D.int)), some (.int (big : Int)), some (.int (w0 : Int)), some (.bl lean), some (.ref p), some (.ref s), some v, some (.int ((1 + i : Nat) : Int)), some (.int (m.fdiv 7)), some (.int (m.fmod 7)), some (.ref f)] /\ FtA S9 f w6 ts6 c wa we pa n1 n2 cs as bs /\ S8.length <= n2) ?_ ?_
    ·simp_all [qAa, T8.P.meth (m := "fit") rfl, qAr]
     refine (qA7 T8.P eq7 sm).mono ?_
     rintro d S9 ⟨l9, f, c, wa, we, pa, n1, n2, cs, as, bs, rfl, F, hn2⟩
     exact ⟨_, rfl, l9, f, c, wa, we, pa, n1, n2, cs, as, bs, rfl, F, hn2⟩
    rintro _ S9 ⟨l9, f, c, wa, we, pa, n1, n2, cs, as, bs, rfl, F, hn2⟩
    simp_all [qAa, F.me (m := "told") rfl, qAr]
    refine (told_w F).mono ?_
    rintro d SA ⟨lA, tl, rfl, rA, ntl⟩
    refine qAx (qAz (by simp) _) fun SB kl lB nB rB => ?_
    have L := l8.trans (l9.trans (lA.trans lB))
    have v8 := (l8.trans l9).len
    have vA := lA.len
    have v7 := l8.len
    have ML : ∀ a, S7.length <= a -> a ∉ ss7 :: s :: ps7 :: r7.map (·.2) := fun a ha hm => by
     obtain ⟨u1, u2, u3, u4, u5, u6, u7, u8⟩ := T7.lt
     simp only [jAo] at hm
     rcases hm with hm | hm | hm | hm
     ·omega
     ·omega
     ·omega
     ·obtain ⟨y, hy, e⟩ := jCe.mp hm
      have := u8 y hy
      omega
    refine ⟨by omega, _, _, _, _, _, rfl, w6, l6, ts6, _, xs6, st6, hw6, hl6, tg6, ⟨ss7, k7, ps7, q7, r7, T7.mono L, eq7, er7, hx7, O7, rfl⟩, .inr ⟨kl, f, tl, n2, shaR w6 ts6, w6, c, wa, we, pa, n1, rfl, rB, (lA.trans lB).ins F.ins, (lA.trans lB).lst F.sha, lB.lst rA, by have := qFj (w := w6) (ts := ts6); omega, ML _ (by omega), ML _ (by omega), ML _ (by omega)⟩⟩
   ·refine W_if_f (by simp_all [hk8]) ?_
    exact W.intro rfl ⟨by omega, _, _, _, _, _, rfl, w6, l6, ts6, M6, xs6, st6, hw6, hl6, tg6, B7, K7⟩
  ·rintro δ S5 ⟨hi, v, o7, o8, o9, o10, rfl, w, l, ts, M5, xs5, st5, hw, hl, tg, B5, K5⟩
   exact ⟨_, rfl, v, _, _, _, _, rfl, _, w, l, ts, M5, xs5, st5, by omega, hw, hl, tg, B5⟩
 rintro _ S5 ⟨v, o7, o8, o9, o10, rfl, n, w, l, ts, M5, xs5, st5, hn, hw, hl, tg, B5⟩
 obtain ⟨ss, k, ps, q, r, T, eq, er, hx, O, rfl⟩ := B5
 have sm := tg.sml O (by omega) (by omega)
 simp_all []
 refine (asked54_w T eq er sm 0).mono ?_
 rintro d S6 ⟨rfl, l6⟩
 simp_all []
 refine (stands_w (show Bo S6 p s n w l ts from ⟨ss, st5, k, ps, xs5, q, r, T.mono l6, eq, er, hx, O⟩) (by omega)).mono ?_
 rintro d S7 ⟨rfl, _⟩
 rfl
end Nm
end
section
namespace Tm
open PySem PySem.Spec PyProof.Rows L2 Np
def top (i : Nat) : Stmt := PySem.Challenge.pw_nearplane_k54_as_the_fit.main.body.getD i (.Pass ⟨0, 0, 0, 0⟩)
def mt (i j : Nat) : Stmt := match top i with
 | .ClassDef _ _ _ b _ _ _ _ _ _ _ => b.getD j (.Pass ⟨0, 0, 0, 0⟩)
 | _ => .Pass ⟨0, 0, 0, 0⟩
theorem bb_abs : bootBuiltins "abs" = some (.builtin "abs") := by decide +kernel
theorem bb_all : bootBuiltins "all" = some (.builtin "all") := by decide +kernel
theorem bb_bool : bootBuiltins "bool" = some (.type "bool") := by decide +kernel
theorem bb_divmod : bootBuiltins "divmod" = some (.builtin "divmod") := by decide +kernel
theorem bb_int : bootBuiltins "int" = some (.type "int") := by decide +kernel
theorem qBf : bootBuiltins "isinstance" = some (.builtin "isinstance") := by decide +kernel
theorem bb_len : bootBuiltins "len" = some (.builtin "len") := by decide +kernel
theorem bb_list : bootBuiltins "list" = some (.type "list") := by decide +kernel
theorem bb_min : bootBuiltins "min" = some (.builtin "min") := by decide +kernel
theorem bb_tuple : bootBuiltins "tuple" = some (.type "tuple") := by decide +kernel
set_option hygiene false
local macro_rules
  | `(tactic| symm_saturate) => `(tactic| first
    | (with_reducible show PDE _ _ _ (op2 ixD _ _)); refine pd_ix ix_X zU ?_ ?_ (fun _ _ => rfl)
    | (with_reducible show PDE _ _ _ (op2 mulD _ _)); refine pd_op op_mulX od_mul ?_ ?_
    | (with_reducible show PDE _ _ _ (op2 addD _ _)); refine pd_op op_addX od_add ?_ ?_
    | (with_reducible show PDE _ _ _ (op2 modD _ _)); refine pd_op op_modN od_mod ?_ ?_
    | (with_reducible show PDE _ _ _ (op2 qCm _ _)); refine pd_op (op_fdivX hr ht rfl rfl rfl) od_fdiv ?_ ?_
    | (with_reducible show PDE _ _ _ (op2 subD _ _)); refine pd_op op_sub od_sub ?_ ?_
    | (with_reducible show PDE _ _ _ (op2 eqD _ _)); refine pd_cmp (op_eqX hr) od_eq ?_ ?_ (zZ _)
    | (with_reducible show PDE _ _ _ (op2 ltD _ _)); refine pd_cmp op_lt od_lt ?_ ?_ (zZ _)
    | (with_reducible show PDE _ _ _ (op2 geD _ _)); refine pd_cmp op_ge od_ge ?_ ?_ (zZ _))
local macro_rules
  | `(tactic| false_or_by_contra) => `(tactic| first
    | (with_reducible show PDE _ _ _ (fnE lenD _)); refine yA call_lenX cd_len rfl m_len bb_len ?_
    | (with_reducible show PDE _ _ _ (fnE tupD _)); refine pd_tup ?_
    | (with_reducible show PDE _ _ _ (fnE lstD _)); refine pd_lst ?_
    | (with_reducible show PDE _ _ _ (fnE lofD _)); refine pd_callTy call_list_of cd_lof rfl m_list bb_list ?_
    | (with_reducible show PDE _ _ _ (fnE dvmD _)); refine yA (call_divmodX hr ht rfl rfl rfl) cd_dvm rfl m_divmod bb_divmod ?_
    | (with_reducible show PDE _ _ _ (fnE absD _)); refine yA call_abs cd_abs rfl m_abs bb_abs ?_
    | (with_reducible show PDE _ _ _ (fnE allD _)); refine yA (call_allX rfl) cd_all rfl m_all bb_all ?_
    | (with_reducible show PDE _ _ _ (fnE intD _)); refine pd_callTy call_int1 cd_int rfl m_int bb_int ?_
    | (with_reducible show PDE _ _ _ (fnE minD _)); refine yA (call_min2 rfl) cd_min rfl m_min bb_min ?_
    | (with_reducible show PDE _ _ _ (fnE _ _)); refine pd_fB (by assumption) hr rfl zT ?_)
local macro_rules
  | `(tactic| subst_vars) => `(tactic| first
    | (with_reducible show PDE _ _ _ (op1 (fldD _ _) _)); refine pd_ff (by assumption) ?_
    | (with_reducible show PDE _ _ _ (op1 negD _)); refine pd_un un_neg ud_neg ?_
    | (with_reducible show PDE _ _ _ (op1 (isiD .tup) _)); refine pd_isi (hv := qBf) .tup bb_tuple rfl m_isinstance rfl m_tuple ?_
    | (with_reducible show PDE _ _ _ (op1 (isiD .lst) _)); refine pd_isi (hv := qBf) .lst bb_list rfl m_isinstance rfl m_list ?_
    | (with_reducible show PDE _ _ _ (op1 (isiD .int) _)); refine pd_isi (hv := qBf) .int bb_int rfl m_isinstance rfl m_int ?_
    | (with_reducible show PDE _ _ _ (op1 (isiD .bool) _)); refine pd_isi (hv := qBf) .bool bb_bool rfl m_isinstance rfl m_bool ?_
    | (with_reducible show PDE _ _ _ (op1 popD _)); refine pd_pop ?_
    | (with_reducible show PDE _ _ _ (op1 (isoD _) _)); refine pd_isoB rfl m_isinstance rfl (by assumption) ?_)
local macro_rules
  | `(tactic| subst_eqs) => `(tactic| first
    | (with_reducible show PDS _ _ _ (retS _)); refine zP ?_
    | (with_reducible show PDS _ _ _ (ifS _ _ _)); refine pd_if ?_ ?_ ?_
    | (with_reducible show PDS _ _ _ (dropS _)); refine pd_expr ?_
    | (with_reducible show PDS _ _ _ (qBp _ _ _ _)); refine pd_fs (by assumption) ?_ ?_
    | (with_reducible show PDS _ _ _ (asgS _ _)); refine pd_asg ?_ ?_
    | exact pd_never
    | (with_reducible show PDS _ _ _ (forS _ _ _)); refine pd_for PassesOwn.never rfl ?_ ?_ ?_
    | (with_reducible show PDS _ _ _ (setS _ (qAj _ _ _ _))); refine pd_sB rfl ?_ (fun nd _ _ _ _ _ => ?_) (fun _ _ _ _ _ => ?_) nd
    | (with_reducible show PDS _ _ _ (qCu _ _)); refine pd_while PassesOwn.never ?_ ?_
    | (with_reducible show PDS _ _ _ (setS _ (qC1 _ _ _ _ _))); refine pd_sI rfl ?_ (fun nd _ _ _ _ _ => ?_) (fun _ _ _ _ _ => ?_) (fun _ _ _ _ _ => ?_) nd
    | (with_reducible show PDS _ _ _ (parS _ _ _ _)); refine pd_par _ _ rfl nd ?_ ?_
    | (with_reducible show PDS _ _ _ (setS _ _)); refine zS _ nd ?_)
local macro_rules
  | `(tactic| ac_nf) => `(tactic| first
    | (with_reducible show PDT _ _ (.BoolOp _ _ _) _); refine pd_wt ?_
    | (with_reducible show PDT _ _ _ (notT _)); refine pd_not ?_
    | (with_reducible show PDT _ _ _ (tv (op2 eqD _ _))); refine zY (op_eqX hr) od_eq ?_ ?_ (zZ _)
    | (with_reducible show PDT _ _ _ (tv (op2 neD _ _))); refine zY (op_neX hr) od_ne ?_ ?_ (zZ _)
    | (with_reducible show PDT _ _ _ (tv (op2 gtD _ _))); refine zY op_gt od_gt ?_ ?_ (zZ _)
    | (with_reducible show PDT _ _ _ (tv (op2 ltD _ _))); refine zY op_lt od_lt ?_ ?_ (zZ _)
    | (with_reducible show PDT _ _ _ (tv (op2 isNND _ _))); refine zY op_notN od_isNN ?_ ?_ (zZ _)
    | (with_reducible show PDT _ _ _ (tv (op2 isND _ _))); refine zY op_isN od_isN ?_ ?_ (zZ _)
    | (with_reducible show PDT _ _ _ (tv (op2 notinD _ _))); refine zY (op_notinX hr) od_notin ?_ ?_ rfl
    | (with_reducible show PDT _ _ _ (tv _)); refine pt_valD ?_)
local macro_rules
  | `(tactic| and_intros) => `(tactic| first
    | (with_reducible show PDE _ _ (.BoolOp _ [_] _) _); refine pd_oneV ?_
    | (with_reducible show PDE _ _ (.Name _ _) (cst _)); exact pd_C rfl (by assumption)
    | (with_reducible show PDE _ _ _ (vr _)); exact zA _
    | (with_reducible show PDE _ _ _ (op2 _ _ _)); symm_saturate
    | (with_reducible show PDE _ _ _ (fnE _ _)); false_or_by_contra
    | (with_reducible show PDE _ _ _ (op1 _ _)); subst_vars
    | exact zF
    | (with_reducible show PDE _ _ _ (qAa _ _ _ _ aNil)); refine pd_fm0 (by assumption) hr zT ?_
    | (with_reducible show PDE _ _ _ (qAj _ _ _ _)); refine pd_cB rfl ?_ (fun nd _ _ _ _ _ => ?_) (fun _ _ _ _ _ => ?_)
    | exact pd_bl
    | (with_reducible show PDE _ _ _ (andV _ _)); refine pd_andV ?_ ?_
    | (with_reducible show PDE _ _ _ (opM appD _ _)); refine pd_append ?_ ?_
    | (with_reducible show PDE _ _ _ (mkE _ _ _)); refine pd_fn' (by assumption) hr rfl zT ?_
    | (with_reducible show PDE _ _ _ (orE _ _)); refine pd_orE ?_ ?_
    | exact pd_non
    | (with_reducible show PDE _ _ _ (notV _)); refine pd_notV ?_
    | (with_reducible show PDE _ _ _ (ifE _ _ _)); refine pd_ifE ?_ ?_ ?_
    | (with_reducible show PDE _ _ _ (slE _ _ _)); refine pd_slice ?_ ?_ ?_
    | (with_reducible show PDE _ _ _ (chn _ _ _ _ _)); refine pd_chain op_le od_le op_le od_le ?_ ?_ ?_
    | (with_reducible show PDE _ _ _ (qC1 _ _ _ _ _)); refine pd_cI rfl ?_ (fun nd _ _ _ _ _ => ?_) (fun _ _ _ _ _ => ?_) (fun _ _ _ _ _ => ?_)
    | (with_reducible show PDE _ _ _ (qAa _ _ (fnD _ _) _ _)); refine pd_fmD (by assumption) hr zT ?_ ?_
    | (with_reducible show PDE _ _ _ (opM qDh _ _)); refine pd_popAt ?_ ?_
    | (with_reducible show PDE _ _ _ (qAa _ _ _ _ (yF _ _))); refine pd_fm (by assumption) hr zT ?_ ?_)
local macro_rules
  | `(tactic| ac_rfl) => `(tactic| (first
    | (with_reducible show PDE _ _ _ _); and_intros
    | (with_reducible show PDA _ _ _ (yF _ _)); refine zB ?_ ?_
    | exact zE
    | (with_reducible show PDT _ _ _ _); ac_nf
    | (with_reducible show PDS _ _ _ _); subst_eqs
    | refine zJ ?_
    | refine zD ?_ ?_
    | exact pds_nil
    | (with_reducible show PDW _ _ (.BoolOp .Or [_] _) _); refine pd_or1 ?_
    | (with_reducible show PDW _ _ (.BoolOp .And [_] _) _); refine pd_and1 ?_
    | (with_reducible show PDG _ _ _ (setG _)); exact zL _ nd
    | (with_reducible show PDGs _ _ _ (_ :: _)); refine zX ?_ ?_
    | (with_reducible show PDI _ _ _ _ (itE itL _)); refine pdi_list ?_
    | (with_reducible show PDW _ _ _ (orT _ _)); refine pd_or ?_ ?_
    | exact pdgs_nil
    | (with_reducible show PDG _ _ _ (tupG _)); refine pdg_tup rfl ?_
    | (with_reducible show PDW _ _ _ (andT _ _)); refine pd_and ?_ ?_
    | (with_reducible show PDI _ _ _ _ (itA qC6 _)); refine pdi_zip rfl m_zip ?_ ?_
    | (with_reducible show PDI _ _ _ _ (itA qC9 _)); refine pdi_range1 rfl m_range ?_
    | (with_reducible show PDG _ _ _ (qEv _ _)); refine pdg_sub ?_ ?_
    | exact pdo_no
    | (with_reducible show PDO _ _ _ (atP _)); refine pdo_at ?_
    | (with_reducible show PDI _ _ _ _ (itA enumD _)); refine pdi_enum rfl m_enumerate ?_
    | (with_reducible show PDI _ _ _ _ (itA zipLD _)); refine pdi_zipL rfl m_zip ?_ ?_
    | (with_reducible show PDI _ _ _ _ (itA rng2D _)); refine pdi_range2 rfl m_range ?_ ?_) <;> ac_rfl)
set_option hygiene true
section
variable {P : Program} {w : World} {K : PySem.W.Frag} {mg : Str -> Option Value} {base : Heap}
variable (ht : P.given.tree = none)
  (f0 : Ff K mg "Fit" "columns")
  (f1 : Ff K mg "Fit" "near")
  (f2 : Ff K mg "Fit" "parts")
  (f3 : Ff K mg "Fit" "wants")
  (f4 : Ff K mg "Fit" "weights")
  (f5 : Ff K mg "Fit" "wide")
  (f6 : Ff K mg "Plane" "states")
  (f7 : Ff K mg "State" "kept")
  (f8 : Ff K mg "State" "laid")
  (f9 : Ff K mg "State" "wide")
  (m_abs : mg "abs" = none)
  (m_all : mg "all" = none)
  (m_bool : mg "bool" = none)
  (m_divmod : mg "divmod" = none)
  (m_enumerate : mg "enumerate" = none)
  (m_int : mg "int" = none)
  (m_isinstance : mg "isinstance" = none)
  (m_len : mg "len" = none)
  (m_list : mg "list" = none)
  (m_min : mg "min" = none)
  (m_range : mg "range" = none)
  (m_tuple : mg "tuple" = none)
  (m_zip : mg "zip" = none)
  (a0 : CstAt K mg "MOST_COLUMNS" (.int 12))
  (a1 : CstAt K mg "NOUGHT" (.tup [(.int 0), (.int 1)]))
  (a2 : CstAt K mg "ONE" (.tup [(.int 1), (.int 1)]))
  (h0 : Fk P w K mg base 1 "is_whole" F.k02_whole)
  (h1 : Fk P w K mg base 1 "greatest_common" F.greatest_common)
  (h2 : Fk P w K mg base 2 "is_ratio" F.is_ratio)
  (h3 : Fk P w K mg base 2 "ratio" F.ratio)
  (h4 : Fk P w K mg base 3 "plus" F.plus)
  (h5 : Fk P w K mg base 3 "minus" F.minus)
  (h6 : Fk P w K mg base 3 "times" F.times)
  (h7 : Fk P w K mg base 3 "over" F.over)
  (h8 : Fk P w K mg base 1 "less" F.less)
  (h9 : Fk P w K mg base 3 "is_row" F.is_row)
  (h10 : Fk P w K mg base 4 "added" F.added)
  (h11 : Fk P w K mg base 4 "taken" F.taken)
  (h12 : Fk P w K mg base 4 "scaled" F.scaled)
  (h13 : Fk P w K mg base 4 "multiplied" F.multiplied)
  (B14 : Fk P w K mg base 5 "dot" F.dot)
  (h15 : Fk P w K mg base 5 "mixed" F.mixed)
  (h16 : Fk P w K mg base 1 "is_still" F.is_still)
  (h17 : Fk P w K mg base 1 "column_of" F.column_of)
  (h18 : Fk P w K mg base 2 "turned" F.turned)
  (h19 : Fk P w K mg base 1 "unit_row" F.unit_row)
  (h20 : Fk P w K mg base 6 "square" F.square)
  (h21 : Fk P w K mg base 7 "amount" F.amount)
  (h22 : Fk P w K mg base 5 "mix_of_left" F.mix_of_left)
  (h23 : Fk P w K mg base 8 "parted" F.parted)
  (h24 : Fk P w K mg base 9 "lefts" F.lefts)
  (h25 : Fk P w K mg base 2 "is_wide" F.is_wide)
  (h26 : Fk P w K mg base 3 "is_weight" F.is_weight)
  (h27 : Fk P w K mg base 4 "is_point" F.is_point)
  (h28 : Fk P w K mg base 5 "are_points" F.are_points)
  (h29 : Fn P w K mg base 10 "Fit" F.Fit___init__)
  (h30 : Fme P w K mg base 1 "Fit" "told" [] F.Fit_told)
  (h31 : Fme P w K mg base 2 "Fit" "free" [] F.Fit_free)
  (h32 : Fme P w K mg base 1 "Fit" "rests" [] F.Fit_rests)
  (h33 : Fme P w K mg base 7 "Fit" "squares" [] F.Fit_squares)
  (h34 : Fme P w K mg base 6 "Fit" "ways" [] F.Fit_ways)
  (h35 : Fn P w K mg base 1 "State" F.State___init__)
  (h36 : Fn P w K mg base 3 "Plane" F.Plane___init__)
  (B37 : Fme P w K mg base 5 "Plane" "lay" [] F.Plane_lay)
  (D37 : Fme P w K mg base 5 "Plane" "lay" [.none] F.Plane_lay)
  (h38 : Fme P w K mg base 3 "Plane" "take" [] F.Plane_take)
  (h39 : Fk P w K mg base 1 "with_row" F.with_row)
  (h40 : Fme P w K mg base 4 "Plane" "widen" [] F.Plane_widen)
  (h41 : Fme P w K mg base 3 "Plane" "narrow" [] F.Plane_narrow)
  (h42 : Fme P w K mg base 2 "Plane" "points" [] F.Plane_points)
  (h43 : Fme P w K mg base 1 "Plane" "width" [] F.Plane_width)
  (h44 : Fme P w K mg base 12 "Plane" "fit" [] F.Plane_fit)
  (h45 : Fme P w K mg base 13 "Plane" "told" [] F.Plane_told)
  (h46 : Fme P w K mg base 13 "Plane" "free" [] F.Plane_free)
  (h47 : Fme P w K mg base 13 "Plane" "ways" [] F.Plane_ways)
  (h48 : Fme P w K mg base 13 "Plane" "squares" [] F.Plane_squares)
  (h49 : Fk P w K mg base 1 "_law_cell" F.k11_cell_at)
  (h50 : Fk P w K mg base 1 "_law_mixed" F.k52_mixed)
  (h51 : Fk P w K mg base 1 "_law_lowest" F.k52_lowest)
  (h52 : Fk P w K mg base 2 "_law_plus" F.k52_plus)
  (h53 : Fk P w K mg base 2 "_law_ratio" F.k54_ratio)
  (h54 : Fk P w K mg base 3 "_law_row" F.k54_row)
  (h55 : Fk P w K mg base 4 "_law_point" F.k54_point)
  (h56 : Fk P w K mg base 1 "_law_fresh" F.k52_fresh)
  (h57 : Fk P w K mg base 8 "_law_alike" (F.k52_alike 7))
  (h58 : Fk P w K mg base 9 "_law_stands" F.k52_stands)
  (h59 : Fk P w K mg base 9 "_law_laid" F.k54_laid)
  (h60 : Fk P w K mg base 4 "_law_taken" F.k52_taken)
  (h61 : Fk P w K mg base 5 "_law_widened" F.k54_widened)
  (h62 : Fk P w K mg base 4 "_law_narrowed" F.k52_narrowed)
  (h63 : Fk P w K mg base 14 "_law_same" F.k54_same)
  (h64 : Fk P w K mg base 15 "_law_asked" F.k54_asked)
include m_bool m_int m_isinstance in
theorem t0 : Bo P w K mg base "is_whole" (top 9) ["thing"] 0 Den.k02_whole := fun _ _ _ _ _ _ hr nd => by delta Den.k02_whole; ac_rfl
theorem t1 : Bo P w K mg base "greatest_common" (top 11) ["one", "other", "larger", "smaller", "rest"] 0 Den.greatest_common := fun _ _ _ _ _ _ hr nd => by delta Den.greatest_common; ac_rfl
include m_abs m_isinstance m_len m_tuple h0 h1 in
theorem t2 : Bo P w K mg base "is_ratio" (top 10) ["thing"] 1 Den.is_ratio := fun _ _ _ _ _ _ hr nd => by delta Den.is_ratio; ac_rfl
include ht m_abs h1 in
theorem t3 : Bo P w K mg base "ratio" (top 12) ["top", "bottom", "common"] 1 Den.ratio := fun _ _ _ _ _ _ hr nd => by delta Den.ratio; ac_rfl
include h3 in
theorem t4 : Bo P w K mg base "plus" (top 13) ["one", "other"] 2 Den.plus := fun _ _ _ _ _ _ hr nd => by delta Den.plus; ac_rfl
include h3 in
theorem t5 : Bo P w K mg base "minus" (top 14) ["one", "other"] 2 Den.minus := fun _ _ _ _ _ _ hr nd => by delta Den.minus; ac_rfl
include h3 in
theorem t6 : Bo P w K mg base "times" (top 15) ["one", "other"] 2 Den.times := fun _ _ _ _ _ _ hr nd => by delta Den.times; ac_rfl
include h3 in
theorem t7 : Bo P w K mg base "over" (top 16) ["one", "other"] 2 Den.over := fun _ _ _ _ _ _ hr nd => by delta Den.over; ac_rfl
theorem t8 : Bo P w K mg base "less" (top 17) ["one", "other"] 0 Den.less := fun _ _ _ _ _ _ hr nd => by delta Den.less; ac_rfl
include m_all m_isinstance m_len m_list h2 in
theorem t9 : Bo P w K mg base "is_row" (top 19) ["thing", "long"] 2 Den.is_row := fun _ _ _ _ _ _ hr nd => by delta Den.is_row; ac_rfl
include m_zip h4 in
theorem t10 : Bo P w K mg base "added" (top 20) ["one", "other"] 3 Den.added := fun _ _ _ _ _ _ hr nd => by delta Den.added; ac_rfl
include m_zip h5 in
theorem t11 : Bo P w K mg base "taken" (top 21) ["one", "other"] 3 Den.taken := fun _ _ _ _ _ _ hr nd => by delta Den.taken; ac_rfl
include h6 in
theorem t12 : Bo P w K mg base "scaled" (top 22) ["row", "by"] 3 Den.scaled := fun _ _ _ _ _ _ hr nd => by delta Den.scaled; ac_rfl
include m_zip h6 in
theorem t13 : Bo P w K mg base "multiplied" (top 23) ["one", "other"] 3 Den.multiplied := fun _ _ _ _ _ _ hr nd => by delta Den.multiplied; ac_rfl
include a1 h4 h13 in
theorem t14 : Bo P w K mg base "dot" (top 24) ["one", "other", "weights", "products", "told", "product"] 4 Den.dot := fun _ _ _ _ _ _ hr nd => by delta Den.dot; ac_rfl
include m_zip a1 h10 h12 in
theorem t15 : Bo P w K mg base "mixed" (top 25) ["rows", "shares", "long", "told", "row", "share"] 4 Den.mixed := fun _ _ _ _ _ _ hr nd => by delta Den.mixed; ac_rfl
include m_all a1 in
theorem t16 : Bo P w K mg base "is_still" (top 26) ["row"] 0 Den.is_still := fun _ _ _ _ _ _ hr nd => by delta Den.is_still; ac_rfl
theorem t17 : Bo P w K mg base "column_of" (top 29) ["table", "place"] 0 Den.column_of := fun _ _ _ _ _ _ hr nd => by delta Den.column_of; ac_rfl
include m_range h17 in
theorem t18 : Bo P w K mg base "turned" (top 28) ["table", "wide"] 1 Den.turned := fun _ _ _ _ _ _ hr nd => by delta Den.turned; ac_rfl
include m_range a1 a2 in
theorem t19 : Bo P w K mg base "unit_row" (top 30) ["long", "place"] 0 Den.unit_row := fun _ _ _ _ _ _ hr nd => by delta Den.unit_row; ac_rfl
include B14 in
theorem t20 : Bo P w K mg base "square" (top 32) ["row", "weights"] 5 Den.square := fun _ _ _ _ _ _ hr nd => by delta Den.square; ac_rfl
include a1 h7 B14 h16 h20 in
theorem t21 : Bo P w K mg base "amount" (top 35) ["row", "left", "weights"] 6 Den.amount := fun _ _ _ _ _ _ hr nd => by delta Den.amount; ac_rfl
include m_len a1 h11 h19 in
theorem t22 : Bo P w K mg base "mix_of_left" (top 36) ["shares", "long"] 4 Den.mix_of_left := fun _ _ _ _ _ _ hr nd => by delta Den.mix_of_left; ac_rfl
include m_len h11 h15 h21 h22 in
theorem t23 : Bo P w K mg base "parted" (top 34) ["row", "ahead", "weights", "amounts", "near", "shares"] 7 Den.parted := fun _ _ _ _ _ _ hr nd => by delta Den.parted; ac_rfl
include h23 in
theorem t24 : Bo P w K mg base "lefts" (top 33) ["rows", "weights", "told", "row"] 8 Den.lefts := fun _ _ _ _ _ _ hr nd => by delta Den.lefts; ac_rfl
include a0 h0 in
theorem t25 : Bo P w K mg base "is_wide" (top 39) ["thing"] 1 Den.is_wide := fun _ _ _ _ _ _ hr nd => by delta Den.is_wide; ac_rfl
include a1 h2 h8 in
theorem t26 : Bo P w K mg base "is_weight" (top 42) ["thing"] 2 Den.is_weight := fun _ _ _ _ _ _ hr nd => by delta Den.is_weight; ac_rfl
include m_isinstance m_len m_tuple h2 h9 h26 in
theorem t27 : Bo P w K mg base "is_point" (top 41) ["thing", "wide"] 3 Den.is_point := fun _ _ _ _ _ _ hr nd => by delta Den.is_point; ac_rfl
include m_all m_isinstance m_list h27 in
theorem t28 : Bo P w K mg base "are_points" (top 40) ["thing", "wide"] 4 Den.are_points := fun _ _ _ _ _ _ hr nd => by delta Den.are_points; ac_rfl
include f0 f1 f2 f3 f4 f5 h18 h23 h24 h25 h28 in
theorem t29 : Bo P w K mg base "Fit.__init__" (mt 43 0) ["self", "points", "wide"] 9 Den.Fit___init__ := fun _ _ _ _ _ _ hr nd => by delta Den.Fit___init__; ac_rfl
include f1 m_list in
theorem t30 : Bo P w K mg base "Fit.told" (mt 43 1) ["self"] 0 Den.Fit_told := fun _ _ _ _ _ _ hr nd => by delta Den.Fit_told; ac_rfl
include f2 m_enumerate h16 in
theorem t31 : Bo P w K mg base "Fit.free" (mt 43 2) ["self"] 1 Den.Fit_free := fun _ _ _ _ _ _ hr nd => by delta Den.Fit_free; ac_rfl
include f1 m_list in
theorem t32 : Bo P w K mg base "Fit.rests" (mt 43 3) ["self"] 0 Den.Fit_rests := fun _ _ _ _ _ _ hr nd => by delta Den.Fit_rests; ac_rfl
include f1 f4 h20 in
theorem t33 : Bo P w K mg base "Fit.squares" (mt 43 4) ["self"] 6 Den.Fit_squares := fun _ _ _ _ _ _ hr nd => by delta Den.Fit_squares; ac_rfl
include f2 f5 h22 h31 in
theorem t34 : Bo P w K mg base "Fit.ways" (mt 43 5) ["self"] 5 Den.Fit_ways := fun _ _ _ _ _ _ hr nd => by delta Den.Fit_ways; ac_rfl
include f7 f8 f9 in
theorem t35 : Bo P w K mg base "State.__init__" (mt 45 0) ["self", "wide", "laid", "kept"] 0 Den.State___init__ := fun _ _ _ _ _ _ hr nd => by delta Den.State___init__; ac_rfl
include f6 h25 h35 in
theorem t36 : Bo P w K mg base "Plane.__init__" (mt 46 0) ["self", "wide"] 2 Den.Plane___init__ := fun _ _ _ _ _ _ hr nd => by delta Den.Plane___init__; ac_rfl
include f6 f7 f8 f9 m_list a2 h27 h35 in
theorem t37 : Bo P w K mg base "Plane.lay" (mt 46 1) ["self", "row", "want", "weight", "state", "number", "heavy", "point"] 4 Den.Plane_lay := fun _ _ _ _ _ _ hr nd => by delta Den.Plane_lay; ac_rfl
include f6 f7 f8 f9 h0 h35 in
theorem t38 : Bo P w K mg base "Plane.take" (mt 46 2) ["self", "number", "state", "kept"] 2 Den.Plane_take := fun _ _ _ _ _ _ hr nd => by delta Den.Plane_take; ac_rfl
theorem t39 : Bo P w K mg base "with_row" (top 47) ["point", "row"] 0 Den.with_row := fun _ _ _ _ _ _ hr nd => by delta Den.with_row; ac_rfl
include f6 f7 f8 f9 m_len m_zip h9 h25 h35 h39 in
theorem t40 : Bo P w K mg base "Plane.widen" (mt 46 3) ["self", "column", "state", "kept"] 3 Den.Plane_widen := fun _ _ _ _ _ _ hr nd => by delta Den.Plane_widen; ac_rfl
include f6 f7 f8 f9 h35 h39 in
theorem t41 : Bo P w K mg base "Plane.narrow" (mt 46 4) ["self", "state", "kept"] 2 Den.Plane_narrow := fun _ _ _ _ _ _ hr nd => by delta Den.Plane_narrow; ac_rfl
include f6 f7 m_list h39 in
theorem t42 : Bo P w K mg base "Plane.points" (mt 46 5) ["self"] 1 Den.Plane_points := fun _ _ _ _ _ _ hr nd => by delta Den.Plane_points; ac_rfl
include f6 f9 in
theorem t43 : Bo P w K mg base "Plane.width" (mt 46 6) ["self"] 0 Den.Plane_width := fun _ _ _ _ _ _ hr nd => by delta Den.Plane_width; ac_rfl
include f6 f7 f9 h29 in
theorem t44 : Bo P w K mg base "Plane.fit" (mt 46 7) ["self", "state"] 11 Den.Plane_fit := fun _ _ _ _ _ _ hr nd => by delta Den.Plane_fit; ac_rfl
include h30 h44 in
theorem t45 : Bo P w K mg base "Plane.told" (mt 46 9) ["self"] 12 Den.Plane_told := fun _ _ _ _ _ _ hr nd => by delta Den.Plane_told; ac_rfl
include h31 h44 in
theorem t46 : Bo P w K mg base "Plane.free" (mt 46 10) ["self"] 12 Den.Plane_free := fun _ _ _ _ _ _ hr nd => by delta Den.Plane_free; ac_rfl
include h34 h44 in
theorem t47 : Bo P w K mg base "Plane.ways" (mt 46 11) ["self"] 12 Den.Plane_ways := fun _ _ _ _ _ _ hr nd => by delta Den.Plane_ways; ac_rfl
include h33 h44 in
theorem t48 : Bo P w K mg base "Plane.squares" (mt 46 12) ["self"] 12 Den.Plane_squares := fun _ _ _ _ _ _ hr nd => by delta Den.Plane_squares; ac_rfl
include m_len in
theorem t49 : Bo P w K mg base "_law_cell" (top 49) ["_law_script", "_law_k"] 0 Den.k11_cell_at := fun _ _ _ _ _ _ hr nd => by delta Den.k11_cell_at; ac_rfl
include m_range in
theorem t50 : Bo P w K mg base "_law_mixed" (top 50) ["_law_cell_here", "_law_k", "_law_number", "_law_found", "_law_turn"] 0 Den.k52_mixed := fun _ _ _ _ _ _ hr nd => by delta Den.k52_mixed; ac_rfl
include ht m_abs in
theorem t51 : Bo P w K mg base "_law_lowest" (top 51) ["_law_top", "_law_bottom", "_law_one", "_law_other"] 0 Den.k52_lowest := fun _ _ _ _ _ _ hr nd => by delta Den.k52_lowest; ac_rfl
include h51 in
theorem t52 : Bo P w K mg base "_law_plus" (top 52) ["_law_one", "_law_other"] 1 Den.k52_plus := fun _ _ _ _ _ _ hr nd => by delta Den.k52_plus; ac_rfl
include ht m_divmod h51 in
theorem t53 : Bo P w K mg base "_law_ratio" (top 53) ["_law_number", "_law_far", "_law_kind"] 1 Den.k54_ratio := fun _ _ _ _ _ _ hr nd => by delta Den.k54_ratio; ac_rfl
include m_range h50 h53 in
theorem t54 : Bo P w K mg base "_law_row" (top 54) ["_law_number", "_law_wide", "_law_row_here", "_law_k"] 2 Den.k54_row := fun _ _ _ _ _ _ hr nd => by delta Den.k54_row; ac_rfl
include ht m_divmod h52 h53 h54 in
theorem t55 : Bo P w K mg base "_law_point" (top 55) ["_law_number", "_law_wide", "_law_lean", "_law_want", "_law_weight", "_law_row_here"] 3 Den.k54_point := fun _ _ _ _ _ _ hr nd => by delta Den.k54_point; ac_rfl
theorem t56 : Bo P w K mg base "_law_fresh" (top 56) ["_law_wide"] 0 Den.k52_fresh := fun _ _ _ _ _ _ hr nd => by delta Den.k52_fresh; ac_rfl
include m_all m_bool m_int m_isinstance m_len m_list m_tuple m_zip in
theorem t57 {n : Nat} (ih : Fk P w K mg base (n + 1) "_law_alike" (F.k52_alike n)) : Bo P w K mg base "_law_alike" (top 57) ["_law_found", "_law_due"] (n + 1) (Den.k52_alike (F.k52_alike n)) := fun _ _ _ _ _ _ hr nd => by delta Den.k52_alike; ac_rfl
include h42 h43 h57 in
theorem t58 : Bo P w K mg base "_law_stands" (top 58) ["_law_plane", "_law_state"] 8 Den.k52_stands := fun _ _ _ _ _ _ hr nd => by delta Den.k52_stands; ac_rfl
include ht m_len m_list B37 D37 h55 h57 in
theorem t59 : Bo P w K mg base "_law_laid" (top 59) ["_law_plane", "_law_state", "_law_number", "_law_lean", "_law_row_here", "_law_want", "_law_weight", "_law_handed", "_law_told"] 8 Den.k54_laid := fun _ _ _ _ _ _ hr nd => by delta Den.k54_laid; ac_rfl
include m_len h38 in
theorem t60 : Bo P w K mg base "_law_taken" (top 60) ["_law_plane", "_law_state", "_law_number", "_law_at"] 3 Den.k52_taken := fun _ _ _ _ _ _ hr nd => by delta Den.k52_taken; ac_rfl
include m_len m_list m_range h40 h54 in
theorem t61 : Bo P w K mg base "_law_widened" (top 61) ["_law_plane", "_law_state", "_law_number", "_law_column", "_law_handed", "_law_k"] 4 Den.k54_widened := fun _ _ _ _ _ _ hr nd => by delta Den.k54_widened; ac_rfl
include h41 in
theorem t62 : Bo P w K mg base "_law_narrowed" (top 62) ["_law_plane", "_law_state", "_law_point_here"] 3 Den.k52_narrowed := fun _ _ _ _ _ _ hr nd => by delta Den.k52_narrowed; ac_rfl
include h30 h31 h33 h34 h45 h46 h47 h48 h57 in
theorem t63 : Bo P w K mg base "_law_same" (top 63) ["_law_one", "_law_other", "_law_turned_about", "_law_told"] 13 Den.k54_same := fun _ _ _ _ _ _ hr nd => by delta Den.k54_same; ac_rfl
include f5 m_isinstance m_list h29 h32 h44 h57 h63 in
theorem t64 : Bo P w K mg base "_law_asked" (top 64) ["_law_plane", "_law_state", "_law_number", "_law_due", "_law_fit"] 14 Den.k54_asked := fun _ _ _ _ _ _ hr nd => by delta Den.k54_asked; ac_rfl
include ht m_divmod m_int m_len m_min m_range h30 h36 h44 h49 h50 h56 h57 h58 h59 h60 h61 h62 h64 in
theorem t65 : Bo P w K mg base "law" (top 65) ["_law_script", "_law_big", "_law_wide", "_law_lean", "_law_plane", "_law_state", "_law_kept", "_law_k", "_law_number", "_law_way", "_law_fit"] 15 Den.k54_law := fun _ _ _ _ _ _ hr nd => by delta Den.k54_law; ac_rfl
end
theorem cst_pair {K : PySem.W.Frag} {mg : Str -> Option Value} {x : Str} {c : Addr} {dd : Option Addr} {t0 t1 : Tok} {n : Nat} {sl : Array (Option Value)} {i j : Int} (hm : mg x = some (.ref c)) (l : K.lookup c = some ⟨.type "tuple", dd, .seq #[.int i t0, .int j t1] n, sl⟩) : CstAt K mg x (.tup [.int i, .int j]) :=
 ⟨_, .ref c, hm, rfl, fun H W => ⟨c, [.int i, .int j], rfl, .inr ⟨_, _, _, l, rfl, rfl, by show 2 <= sizeLine; decide, .cons ⟨_, rfl⟩ (.cons ⟨_, rfl⟩ .nil)⟩, ⟨_, _, rfl, rfl, ⟨_, _, rfl, rfl, rfl⟩⟩⟩⟩
theorem all_mk {P : Program} {w : World} {K : PySem.W.Frag} {h : Heap} {mg : Str -> Option Value} {fa : Addr} (ht : P.given.tree = none) (X : K.In h) (G : h.Ns mainGlobals mg) (hfa : mg "law" = some (.ref fa))
 {z0 : Tok}
 {C1 : Addr} {d1 : Option Addr} {z1 u1 : Tok} {n1 : Nat} {s1 : Array (Option Value)}
 {C2 : Addr} {d2 : Option Addr} {z2 u2 : Tok} {n2 : Nat} {s2 : Array (Option Value)}
 (cFit : Gc K "Fit")
 (cPlane : Gc K "Plane")
 (cState : Gc K "State")
 (nFit : Gn K "Fit")
 (nPlane : Gn K "Plane")
 (nState : Gn K "State")
 (f0 : Gf K "Fit" "columns")
 (f1 : Gf K "Fit" "near")
 (f2 : Gf K "Fit" "parts")
 (f3 : Gf K "Fit" "wants")
 (f4 : Gf K "Fit" "weights")
 (f5 : Gf K "Fit" "wide")
 (f6 : Gf K "Plane" "states")
 (f7 : Gf K "State" "kept")
 (f8 : Gf K "State" "laid")
 (f9 : Gf K "State" "wide")
 (m_abs : jCv K mainGlobals "abs" = some none)
 (m_all : jCv K mainGlobals "all" = some none)
 (m_bool : jCv K mainGlobals "bool" = some none)
 (m_divmod : jCv K mainGlobals "divmod" = some none)
 (m_enumerate : jCv K mainGlobals "enumerate" = some none)
 (m_int : jCv K mainGlobals "int" = some none)
 (m_isinstance : jCv K mainGlobals "isinstance" = some none)
 (m_len : jCv K mainGlobals "len" = some none)
 (m_list : jCv K mainGlobals "list" = some none)
 (m_min : jCv K mainGlobals "min" = some none)
 (m_range : jCv K mainGlobals "range" = some none)
 (m_tuple : jCv K mainGlobals "tuple" = some none)
 (m_zip : jCv K mainGlobals "zip" = some none)
 (a0 : jCv K mainGlobals "MOST_COLUMNS" = some (some (.int 12 z0)))
 (a1 : jCv K mainGlobals "NOUGHT" = some (some (.ref C1))) (l1 : K.lookup C1 = some ⟨.type "tuple", d1, .seq #[.int 0 z1, .int 1 u1] n1, s1⟩)
 (a2 : jCv K mainGlobals "ONE" = some (some (.ref C2))) (l2 : K.lookup C2 = some ⟨.type "tuple", d2, .seq #[.int 1 z2, .int 1 u2] n2, s2⟩)
 (h0 : Ga K "is_whole" (top 9))
 (h1 : Ga K "greatest_common" (top 11))
 (h2 : Ga K "is_ratio" (top 10))
 (h3 : Ga K "ratio" (top 12))
 (h4 : Ga K "plus" (top 13))
 (h5 : Ga K "minus" (top 14))
 (h6 : Ga K "times" (top 15))
 (h7 : Ga K "over" (top 16))
 (h8 : Ga K "less" (top 17))
 (h9 : Ga K "is_row" (top 19))
 (h10 : Ga K "added" (top 20))
 (h11 : Ga K "taken" (top 21))
 (h12 : Ga K "scaled" (top 22))
 (h13 : Ga K "multiplied" (top 23))
 (h14 : Ge K "dot" (top 24))
 (h15 : Ga K "mixed" (top 25))
 (h16 : Ga K "is_still" (top 26))
 (h17 : Ga K "column_of" (top 29))
 (h18 : Ga K "turned" (top 28))
 (h19 : Ga K "unit_row" (top 30))
 (h20 : Ga K "square" (top 32))
 (h21 : Ga K "amount" (top 35))
 (h22 : Ga K "mix_of_left" (top 36))
 (h23 : Ga K "parted" (top 34))
 (h24 : Ga K "lefts" (top 33))
 (h25 : Ga K "is_wide" (top 39))
 (h26 : Ga K "is_weight" (top 42))
 (h27 : Ga K "is_point" (top 41))
 (h28 : Ga K "are_points" (top 40))
 (h29 : Gm K "Fit" "__init__" "Fit.__init__" (mt 43 0))
 (h30 : Gm K "Fit" "told" "Fit.told" (mt 43 1))
 (h31 : Gm K "Fit" "free" "Fit.free" (mt 43 2))
 (h32 : Gm K "Fit" "rests" "Fit.rests" (mt 43 3))
 (h33 : Gm K "Fit" "squares" "Fit.squares" (mt 43 4))
 (h34 : Gm K "Fit" "ways" "Fit.ways" (mt 43 5))
 (h35 : Gm K "State" "__init__" "State.__init__" (mt 45 0))
 (h36 : Gm K "Plane" "__init__" "Plane.__init__" (mt 46 0))
 (h37 : Gd K "Plane" "lay" "Plane.lay" (mt 46 1))
 (h38 : Gm K "Plane" "take" "Plane.take" (mt 46 2))
 (h39 : Ga K "with_row" (top 47))
 (h40 : Gm K "Plane" "widen" "Plane.widen" (mt 46 3))
 (h41 : Gm K "Plane" "narrow" "Plane.narrow" (mt 46 4))
 (h42 : Gm K "Plane" "points" "Plane.points" (mt 46 5))
 (h43 : Gm K "Plane" "width" "Plane.width" (mt 46 6))
 (h44 : Gm K "Plane" "fit" "Plane.fit" (mt 46 7))
 (h45 : Gm K "Plane" "told" "Plane.told" (mt 46 9))
 (h46 : Gm K "Plane" "free" "Plane.free" (mt 46 10))
 (h47 : Gm K "Plane" "ways" "Plane.ways" (mt 46 11))
 (h48 : Gm K "Plane" "squares" "Plane.squares" (mt 46 12))
 (h49 : Ga K "_law_cell" (top 49))
 (h50 : Ga K "_law_mixed" (top 50))
 (h51 : Ga K "_law_lowest" (top 51))
 (h52 : Ga K "_law_plus" (top 52))
 (h53 : Ga K "_law_ratio" (top 53))
 (h54 : Ga K "_law_row" (top 54))
 (h55 : Ga K "_law_point" (top 55))
 (h56 : Ga K "_law_fresh" (top 56))
 (h57 : Ga K "_law_alike" (top 57))
 (h58 : Ga K "_law_stands" (top 58))
 (h59 : Ga K "_law_laid" (top 59))
 (h60 : Ga K "_law_taken" (top 60))
 (h61 : Ga K "_law_widened" (top 61))
 (h62 : Ga K "_law_narrowed" (top 62))
 (h63 : Ga K "_law_same" (top 63))
 (h64 : Ga K "_law_asked" (top 64))
 (hL : Ga K "law" (top 65)) : ∃ fd : FuncData, (∀ (s : Shared) (v : Value), BindsTo s fd ⟨[v], []⟩ [("_law_script", v)]) /\ ∀ base : Heap, FnOk P w K mg base CX0 16 fa fd ["_law_script"] (spF ⟨K, mg⟩ F.k54_law) := by
 have f0 := f0.ff cFit X G
 have f1 := f1.ff cFit X G
 have f2 := f2.ff cFit X G
 have f3 := f3.ff cFit X G
 have f4 := f4.ff cFit X G
 have f5 := f5.ff cFit X G
 have f6 := f6.ff cPlane X G
 have f7 := f7.ff cState X G
 have f8 := f8.ff cState X G
 have f9 := f9.ff cState X G
 have m_abs := jEx X G m_abs
 have m_all := jEx X G m_all
 have m_bool := jEx X G m_bool
 have m_divmod := jEx X G m_divmod
 have m_enumerate := jEx X G m_enumerate
 have m_int := jEx X G m_int
 have m_isinstance := jEx X G m_isinstance
 have m_len := jEx X G m_len
 have m_list := jEx X G m_list
 have m_min := jEx X G m_min
 have m_range := jEx X G m_range
 have m_tuple := jEx X G m_tuple
 have m_zip := jEx X G m_zip
 have a0 : CstAt K mg "MOST_COLUMNS" (.int 12) := ⟨_, (.int 12), jCw X G a0, ⟨z0, rfl⟩, fun H W => rfl⟩
 have a1 := cst_pair (jCw X G a1) l1
 have a2 := cst_pair (jCw X G a2) l2
 obtain ⟨f', a, oc, od, kV, dc, pm, an, cd, ct, sl, l, c, kp⟩ := hL
 have e := hfa.symm.trans (jCw X G a)
 cases e
 have R := yC (st := (top 65)) l c kp
 refine ⟨jBy "law" "law" (zI (top 65)) (zG (top 65)) (zC (top 65)) .none kV dc pm an cd ct, fun s v => .of_eq rfl, fun base => ?_⟩
 have h0 := h0.fk (F := F.k02_whole) (i := 1) P w base X G (t0 m_bool m_int m_isinstance)
 have h1 := h1.fk (F := F.greatest_common) (i := 2) P w base X G t1
 have h2 := h2.fk (F := F.is_ratio) (i := 1) P w base X G (t2 m_abs m_isinstance m_len m_tuple h0 h1)
 have h3 := h3.fk (F := F.ratio) (i := 2) P w base X G (t3 ht m_abs h1)
 have h4 := h4.fk (F := F.plus) (i := 2) P w base X G (t4 h3)
 have h5 := h5.fk (F := F.minus) (i := 2) P w base X G (t5 h3)
 have h6 := h6.fk (F := F.times) (i := 2) P w base X G (t6 h3)
 have h7 := h7.fk (F := F.over) (i := 2) P w base X G (t7 h3)
 have h8 := h8.fk (F := F.less) (i := 2) P w base X G t8
 have h9 := h9.fk (F := F.is_row) (i := 2) P w base X G (t9 m_all m_isinstance m_len m_list h2)
 have h10 := h10.fk (F := F.added) (i := 2) P w base X G (t10 m_zip h4)
 have h11 := h11.fk (F := F.taken) (i := 2) P w base X G (t11 m_zip h5)
 have h12 := h12.fk (F := F.scaled) (i := 2) P w base X G (t12 h6)
 have h13 := h13.fk (F := F.multiplied) (i := 2) P w base X G (t13 m_zip h6)
 have B14 : Fk P w K mg base 5 "dot" F.dot := h14.fk P w base X G (t14 a1 h4 h13)
 have h15 := h15.fk (F := F.mixed) (i := 3) P w base X G (t15 m_zip a1 h10 h12)
 have h16 := h16.fk (F := F.is_still) (i := 1) P w base X G (t16 m_all a1)
 have h17 := h17.fk (F := F.column_of) (i := 2) P w base X G t17
 have h18 := h18.fk (F := F.turned) (i := 2) P w base X G (t18 m_range h17)
 have h19 := h19.fk (F := F.unit_row) (i := 2) P w base X G (t19 m_range a1 a2)
 have h20 := h20.fk (F := F.square) (i := 2) P w base X G (t20 B14)
 have h21 := h21.fk (F := F.amount) (i := 3) P w base X G (t21 a1 h7 B14 h16 h20)
 have h22 := h22.fk (F := F.mix_of_left) (i := 2) P w base X G (t22 m_len a1 h11 h19)
 have h23 := h23.fk (F := F.parted) (i := 3) P w base X G (t23 m_len h11 h15 h21 h22)
 have h24 := h24.fk (F := F.lefts) (i := 2) P w base X G (t24 h23)
 have h25 := h25.fk (F := F.is_wide) (i := 1) P w base X G (t25 a0 h0)
 have h26 := h26.fk (F := F.is_weight) (i := 1) P w base X G (t26 a1 h2 h8)
 have h27 := h27.fk (F := F.is_point) (i := 2) P w base X G (t27 m_isinstance m_len m_tuple h2 h9 h26)
 have h28 := h28.fk (F := F.are_points) (i := 2) P w base X G (t28 m_all m_isinstance m_list h27)
 have h29 := h29.fn (F := F.Fit___init__) (i := 3) P w base nFit X G (t29 f0 f1 f2 f3 f4 f5 h18 h23 h24 h25 h28)
 have h30 := h30.fm (F := F.Fit_told) (i := 1) P w base cFit X G (t30 f1 m_list)
 have h31 := h31.fm (F := F.Fit_free) (i := 1) P w base cFit X G (t31 f2 m_enumerate h16)
 have h32 := h32.fm (F := F.Fit_rests) (i := 1) P w base cFit X G (t32 f1 m_list)
 have h33 := h33.fm (F := F.Fit_squares) (i := 1) P w base cFit X G (t33 f1 f4 h20)
 have h34 := h34.fm (F := F.Fit_ways) (i := 1) P w base cFit X G (t34 f2 f5 h22 h31)
 have h35 := h35.fn (F := F.State___init__) (i := 4) P w base nState X G (t35 f7 f8 f9)
 have h36 := h36.fn (F := F.Plane___init__) (i := 2) P w base nPlane X G (t36 f6 h25 h35)
 have B37 : Fme P w K mg base 5 "Plane" "lay" [] F.Plane_lay := h37.fm P w base 4 cPlane X G (t37 f6 f7 f8 f9 m_list a2 h27 h35)
 have D37 : Fme P w K mg base 5 "Plane" "lay" [.none] F.Plane_lay := h37.fm P w base 3 cPlane X G (t37 f6 f7 f8 f9 m_list a2 h27 h35)
 have h38 := h38.fm (F := F.Plane_take) (i := 2) P w base cPlane X G (t38 f6 f7 f8 f9 h0 h35)
 have h39 := h39.fk (F := F.with_row) (i := 2) P w base X G t39
 have h40 := h40.fm (F := F.Plane_widen) (i := 2) P w base cPlane X G (t40 f6 f7 f8 f9 m_len m_zip h9 h25 h35 h39)
 have h41 := h41.fm (F := F.Plane_narrow) (i := 1) P w base cPlane X G (t41 f6 f7 f8 f9 h35 h39)
 have h42 := h42.fm (F := F.Plane_points) (i := 1) P w base cPlane X G (t42 f6 f7 m_list h39)
 have h43 := h43.fm (F := F.Plane_width) (i := 1) P w base cPlane X G (t43 f6 f9)
 have h44 := h44.fm (F := F.Plane_fit) (i := 1) P w base cPlane X G (t44 f6 f7 f9 h29)
 have h45 := h45.fm (F := F.Plane_told) (i := 1) P w base cPlane X G (t45 h30 h44)
 have h46 := h46.fm (F := F.Plane_free) (i := 1) P w base cPlane X G (t46 h31 h44)
 have h47 := h47.fm (F := F.Plane_ways) (i := 1) P w base cPlane X G (t47 h34 h44)
 have h48 := h48.fm (F := F.Plane_squares) (i := 1) P w base cPlane X G (t48 h33 h44)
 have h49 := h49.fk (F := F.k11_cell_at) (i := 2) P w base X G (t49 m_len)
 have h50 := h50.fk (F := F.k52_mixed) (i := 2) P w base X G (t50 m_range)
 have h51 := h51.fk (F := F.k52_lowest) (i := 2) P w base X G (t51 ht m_abs)
 have h52 := h52.fk (F := F.k52_plus) (i := 2) P w base X G (t52 h51)
 have h53 := h53.fk (F := F.k54_ratio) (i := 1) P w base X G (t53 ht m_divmod h51)
 have h54 := h54.fk (F := F.k54_row) (i := 2) P w base X G (t54 m_range h50 h53)
 have h55 := h55.fk (F := F.k54_point) (i := 3) P w base X G (t55 ht m_divmod h52 h53 h54)
 have h56 := h56.fk (F := F.k52_fresh) (i := 1) P w base X G t56
 have h57 : ∀ n, Fk P w K mg base (n + 1) "_law_alike" (F.k52_alike n) := fun n => by
  induction n with
  | zero => exact h57.fk0 (N := ["_law_found", "_law_due"]) (i := 2) P w base X G
  | succ n ih => exact h57.fk P w base X G (t57 m_all m_bool m_int m_isinstance m_len m_list m_tuple m_zip ih)
 have h57 := h57 7
 have h58 := h58.fk (F := F.k52_stands) (i := 2) P w base X G (t58 h42 h43 h57)
 have h59 := h59.fk (F := F.k54_laid) (i := 4) P w base X G (t59 ht m_len m_list B37 D37 h55 h57)
 have h60 := h60.fk (F := F.k52_taken) (i := 3) P w base X G (t60 m_len h38)
 have h61 := h61.fk (F := F.k54_widened) (i := 3) P w base X G (t61 m_len m_list m_range h40 h54)
 have h62 := h62.fk (F := F.k52_narrowed) (i := 2) P w base X G (t62 h41)
 have h63 := h63.fk (F := F.k54_same) (i := 3) P w base X G (t63 h30 h31 h33 h34 h45 h46 h47 h48 h57)
 have h64 := h64.fk (F := F.k54_asked) (i := 3) P w base X G (t64 f5 m_isinstance m_list h29 h32 h44 h57 h63)
 exact Bo.ok (i := 1) (t65 ht m_divmod m_int m_len m_min m_range h30 h36 h44 h49 h50 h56 h57 h58 h59 h60 h61 h62 h64) R.g ⟨rfl, rfl, rfl, by decide +kernel, rfl, by decide +kernel, by decide +kernel⟩ rfl rfl
end Tm
end
section
namespace Tm
open PySem PySem.Spec PyProof.Rows L2 Np
def spLaw (K : PySem.W.Frag) : Sp := fun vs H Q _ => ∃ (a : Addr) (ns : List Int), vs = [.ref a] /\ Only H /\ SqL K H a (ns.map V.int) /\ ns.length <= 63 /\ (∀ z ∈ ns, z.natAbs.log2 < 1048577) /\ ∀ H', Q (.bl true) H'
theorem repL_ints {G : Gx} {H : Hp} {W : Wd} : ∀ ns : List Int, RepL G H W (ns.map D.int) (ns.map V.int)
 | [] => rfl
 | n :: ns => ⟨.int n, _, rfl, rfl, repL_ints ns⟩
theorem sc_of {K : PySem.W.Frag} {H : Hp} {a : Addr} {xs : List V} (hO : Only H) (h : SqL K H a xs) : Sc K H a xs := by
 rcases h with (h | ⟨o, h⟩) | h
 ·rcases hO a with q | ⟨o, ys, q⟩ <;> rw [q] at h <;> cases h
 ·exact .inl ⟨o, h⟩
 ·exact .inr (.inr h)
theorem law_sp {K : PySem.W.Frag} {mg : Str -> Option Value} (vs : List V) (H : Hp) (Q : VK) (E : XK) (h : spLaw K vs H Q E) : spF ⟨K, mg⟩ F.k54_law vs H Q E := by
 obtain ⟨a, ns, rfl, hO, hS, hl, hz, q⟩ := h
 obtain ⟨d, S', e, rfl⟩ := (Nm.k54_holds ns ⟨hl, hz⟩).out
 refine ⟨⟨fun _ => 0, []⟩, [.scr (ns.map D.int)], .ok (.bl true) S', ⟨fun i j hi => by simp at hi, fun i o hi => by simp at hi⟩, ⟨.ref a, [], rfl, ⟨a, _, rfl, sc_of hO hS, repL_ints ns⟩, rfl⟩, e, fun H' W' _ _ v rv => ?_⟩
 have rv : v = .bl true := rv
 subst rv
 exact q H'
theorem walk {l : PySem.W.OpenLaw} {q : Program} {loose : List Str} {XP : (Str -> Option Value) -> Heap -> Prop} {YP : World -> Heap -> Prop} {d : DefRec} {K : Params -> PySem.W.Frag} (hn : l.most = some 63) (hdf : d.params.defaults = [])
  (hY : ∀ (w : World) (h : Heap), YP w h -> (K w.params).In h)
  (F : ∀ (w : World) (mg : Str -> Option Value) (fa : Addr) (h : Heap), (K w.params).In h -> h.Ns mainGlobals mg -> mg d.name = some (.ref fa) ->
   ∃ fd : FuncData, (∀ (s : Shared) (u : Value), BindsTo s fd ⟨[u], []⟩ [("_law_script", u)]) /\ ∀ base : Heap, FnOk l.prog w (K w.params) mg base CX0 16 fa fd ["_law_script"] (spF ⟨K w.params, mg⟩ F.k54_law))
  (hq : PyProof.Rows.importsNone q = true) :
  PySem.W.WalkO q loose XP YP l.row.toRowW d [] (fun f vs => PySem.call f vs) :=
 L2.walk_of (n := 63) (k := 16) (x := "_law_script") (CX := fun _ => CX0) (sp := fun w => spLaw (K w.params)) hn (by decide) hdf ⟨rfl, by decide, by decide⟩ hY (fun w mg fa h a b c => let ⟨fd, p, q⟩ := F w mg fa h a b c; ⟨fd, p, fun base _ _ => (q base).imp law_sp⟩) hq (fun _ _ a ns hl hz hO hS => ⟨a, ns, rfl, hO, hS, hl, hz, fun _ => rfl⟩) fun _ _ _ _ _ z => z
abbrev M0 : Value := (.str "nearplane.ratios" 262)
abbrev M1 : Value := (.str "nearplane.rows" 344)
abbrev M2 : Value := (.str "nearplane.tables" 406)
abbrev M3 : Value := (.str "nearplane.upright" 426)
abbrev M4 : Value := (.str "nearplane.fits" 469)
abbrev M5 : Value := (.str "nearplane.planes" 620)
abbrev M6 : Value := (.str "law_nearplane_k54_as_the_fit" 793)
noncomputable def KK : PySem.Params -> PySem.W.Frag := fun P =>
 (nat_lit 3, ⟨(.type "dict"), none, (.dict [kh P "__name__" 165 (.str "law_nearplane_k54_as_the_fit" 793), kh P "__doc__" 166 .none, kh P "__package__" 167 .none, kh P "__loader__" 168 (.builtin "__main__.__loader__#opaque"), kh P "__spec__" 169 .none, kh P "__annotations__" 170 (.ref 6), kh P "__builtins__" 171 (.ref 4), kh P "__file__" 173 (.str "/claim/cut.py" 172), kh P "__cached__" 174 .none, kh P "_wall" 193 (.ref 21), kh P "PlaneError" 213 (.ref 31), kh P "NoRatio" 229 (.ref 44), kh P "NoPoint" 245 (.ref 56), kh P "NoColumn" 261 (.ref 68), kh P "NOUGHT" 266 (.ref 71), kh P "ONE" 269 (.ref 72), kh P "is_whole" 276 (.ref 79), kh P "is_ratio" 283 (.ref 86), kh P "greatest_common" 294 (.ref 93), kh P "ratio" 303 (.ref 100), kh P "plus" 311 (.ref 107), kh P "minus" 319 (.ref 114), kh P "times" 327 (.ref 121), kh P "over" 335 (.ref 128), kh P "less" 343 (.ref 135), kh P "is_row" 351 (.ref 140), kh P "added" 357 (.ref 145), kh P "taken" 363 (.ref 150), kh P "scaled" 369 (.ref 155), kh P "multiplied" 375 (.ref 160), kh P "dot" 387 (.ref 168), kh P "mixed" 399 (.ref 175), kh P "is_still" 405 (.ref 180), kh P "turned" 413 (.ref 185), kh P "column_of" 419 (.ref 190), kh P "unit_row" 425 (.ref 195), kh P "square" 435 (.ref 202), kh P "lefts" 445 (.ref 209), kh P "parted" 451 (.ref 214), kh P "amount" 460 (.ref 221), kh P "mix_of_left" 468 (.ref 228), kh P "MOST_COLUMNS" 472 (.int (12) 471), kh P "is_wide" 479 (.ref 235), kh P "are_points" 485 (.ref 240), kh P "is_point" 493 (.ref 247), kh P "is_weight" 500 (.ref 254), kh P "Fit" 619 (.ref 349), kh P "State" 654 (.ref 370), kh P "Plane" 784 (.ref 480), kh P "with_row" 792 (.ref 491), kh P "_law_cell" 802 (.ref 498), kh P "_law_mixed" 813 (.ref 505), kh P "_law_lowest" 823 (.ref 512), kh P "_law_plus" 831 (.ref 519), kh P "_law_ratio" 840 (.ref 526), kh P "_law_row" 850 (.ref 533), kh P "_law_point" 862 (.ref 540), kh P "_law_fresh" 869 (.ref 547), kh P "_law_alike" 875 (.ref 552), kh P "_law_stands" 883 (.ref 559), kh P "_law_laid" 898 (.ref 566), kh P "_law_taken" 908 (.ref 573), kh P "_law_widened" 920 (.ref 580), kh P "_law_narrowed" 929 (.ref 587), kh P "_law_same" 939 (.ref 594), kh P "_law_asked" 945 (.ref 599), kh P "law" 962 (.ref 606)].toArray 67), [].toArray⟩) ::
 (nat_lit 71, ⟨(.type "tuple"), none, (.seq [(.int (0) 264), (.int (1) 265)].toArray 0), [].toArray⟩) ::
 (nat_lit 72, ⟨(.type "tuple"), none, (.seq [(.int (1) 267), (.int (1) 268)].toArray 0), [].toArray⟩) ::
 (nat_lit 78, cb "is_whole" "is_whole" 270 16 1 73 74 (.ref 75) (.ref 76) 77 274) ::
 (nat_lit 79, fo "is_whole" "is_whole" (top 9) .none M0 78) ::
 (nat_lit 85, cb "is_ratio" "is_ratio" 277 18 1 80 81 (.ref 82) (.ref 83) 84 281) ::
 (nat_lit 86, fo "is_ratio" "is_ratio" (top 10) .none M0 85) ::
 (nat_lit 92, cb "greatest_common" "greatest_common" 284 24 2 87 88 (.ref 89) (.ref 90) 91 292) ::
 (nat_lit 93, fo "greatest_common" "greatest_common" (top 11) .none M0 92) ::
 (nat_lit 99, cb "ratio" "ratio" 295 32 2 94 95 (.ref 96) (.ref 97) 98 301) ::
 (nat_lit 100, fo "ratio" "ratio" (top 12) .none M0 99) ::
 (nat_lit 106, cb "plus" "plus" 304 39 2 101 102 (.ref 103) (.ref 104) 105 309) ::
 (nat_lit 107, fo "plus" "plus" (top 13) .none M0 106) ::
 (nat_lit 113, cb "minus" "minus" 312 41 2 108 109 (.ref 110) (.ref 111) 112 317) ::
 (nat_lit 114, fo "minus" "minus" (top 14) .none M0 113) ::
 (nat_lit 120, cb "times" "times" 320 43 2 115 116 (.ref 117) (.ref 118) 119 325) ::
 (nat_lit 121, fo "times" "times" (top 15) .none M0 120) ::
 (nat_lit 127, cb "over" "over" 328 45 2 122 123 (.ref 124) (.ref 125) 126 333) ::
 (nat_lit 128, fo "over" "over" (top 16) .none M0 127) ::
 (nat_lit 134, cb "less" "less" 336 47 2 129 130 (.ref 131) (.ref 132) 133 341) ::
 (nat_lit 135, fo "less" "less" (top 17) .none M0 134) ::
 (nat_lit 139, cb "is_row" "is_row" 346 50 2 136 137 .none .none 138 349) ::
 (nat_lit 140, fo "is_row" "is_row" (top 19) .none M1 139) ::
 (nat_lit 144, cb "added" "added" 352 54 2 141 142 .none .none 143 355) ::
 (nat_lit 145, fo "added" "added" (top 20) .none M1 144) ::
 (nat_lit 149, cb "taken" "taken" 358 56 2 146 147 .none .none 148 361) ::
 (nat_lit 150, fo "taken" "taken" (top 21) .none M1 149) ::
 (nat_lit 154, cb "scaled" "scaled" 364 58 2 151 152 .none .none 153 367) ::
 (nat_lit 155, fo "scaled" "scaled" (top 22) .none M1 154) ::
 (nat_lit 159, cb "multiplied" "multiplied" 370 60 2 156 157 .none .none 158 373) ::
 (nat_lit 160, fo "multiplied" "multiplied" (top 23) .none M1 159) ::
 (nat_lit 161, ⟨(.type "tuple"), none, (.seq [.none].toArray 0), [].toArray⟩) ::
 (nat_lit 167, cb "dot" "dot" 376 62 3 162 163 (.ref 164) (.ref 165) 166 385) ::
 (nat_lit 168, fo "dot" "dot" (top 24) (.ref 161) M1 167) ::
 (nat_lit 174, cb "mixed" "mixed" 388 70 3 169 170 (.ref 171) (.ref 172) 173 397) ::
 (nat_lit 175, fo "mixed" "mixed" (top 25) .none M1 174) ::
 (nat_lit 179, cb "is_still" "is_still" 400 75 1 176 177 .none .none 178 403) ::
 (nat_lit 180, fo "is_still" "is_still" (top 26) .none M1 179) ::
 (nat_lit 184, cb "turned" "turned" 408 78 2 181 182 .none .none 183 411) ::
 (nat_lit 185, fo "turned" "turned" (top 28) .none M2 184) ::
 (nat_lit 189, cb "column_of" "column_of" 414 80 2 186 187 .none .none 188 417) ::
 (nat_lit 190, fo "column_of" "column_of" (top 29) .none M2 189) ::
 (nat_lit 194, cb "unit_row" "unit_row" 420 82 2 191 192 .none .none 193 423) ::
 (nat_lit 195, fo "unit_row" "unit_row" (top 30) .none M2 194) ::
 (nat_lit 201, cb "square" "square" 428 85 2 196 197 (.ref 198) (.ref 199) 200 433) ::
 (nat_lit 202, fo "square" "square" (top 32) .none M3 201) ::
 (nat_lit 208, cb "lefts" "lefts" 436 87 2 203 204 (.ref 205) (.ref 206) 207 443) ::
 (nat_lit 209, fo "lefts" "lefts" (top 33) .none M3 208) ::
 (nat_lit 213, cb "parted" "parted" 446 92 3 210 211 .none .none 212 449) ::
 (nat_lit 214, fo "parted" "parted" (top 34) .none M3 213) ::
 (nat_lit 220, cb "amount" "amount" 452 97 3 215 216 (.ref 217) (.ref 218) 219 458) ::
 (nat_lit 221, fo "amount" "amount" (top 35) .none M3 220) ::
 (nat_lit 227, cb "mix_of_left" "mix_of_left" 461 101 2 222 223 (.ref 224) (.ref 225) 226 466) ::
 (nat_lit 228, fo "mix_of_left" "mix_of_left" (top 36) .none M3 227) ::
 (nat_lit 234, cb "is_wide" "is_wide" 473 105 1 229 230 (.ref 231) (.ref 232) 233 477) ::
 (nat_lit 235, fo "is_wide" "is_wide" (top 39) .none M4 234) ::
 (nat_lit 239, cb "are_points" "are_points" 480 107 2 236 237 .none .none 238 483) ::
 (nat_lit 240, fo "are_points" "are_points" (top 40) .none M4 239) ::
 (nat_lit 246, cb "is_point" "is_point" 486 109 2 241 242 (.ref 243) (.ref 244) 245 491) ::
 (nat_lit 247, fo "is_point" "is_point" (top 41) .none M4 246) ::
 (nat_lit 253, cb "is_weight" "is_weight" 494 113 1 248 249 (.ref 250) (.ref 251) 252 498) ::
 (nat_lit 254, fo "is_weight" "is_weight" (top 42) .none M4 253) ::
 (nat_lit 265, cb "__init__" "Fit.__init__" 513 117 3 262 263 .none .none 264 516) ::
 (nat_lit 266, fo "__init__" "Fit.__init__" (mt 43 0) .none M4 265) ::
 (nat_lit 272, cb "told" "Fit.told" 519 127 1 267 268 (.ref 269) (.ref 270) 271 523) ::
 (nat_lit 273, fo "told" "Fit.told" (mt 43 1) .none M4 272) ::
 (nat_lit 277, cb "free" "Fit.free" 526 130 1 274 275 .none .none 276 529) ::
 (nat_lit 278, fo "free" "Fit.free" (mt 43 2) .none M4 277) ::
 (nat_lit 284, cb "rests" "Fit.rests" 532 133 1 279 280 (.ref 281) (.ref 282) 283 536) ::
 (nat_lit 285, fo "rests" "Fit.rests" (mt 43 3) .none M4 284) ::
 (nat_lit 291, cb "squares" "Fit.squares" 539 136 1 286 287 (.ref 288) (.ref 289) 290 543) ::
 (nat_lit 292, fo "squares" "Fit.squares" (mt 43 4) .none M4 291) ::
 (nat_lit 296, cb "ways" "Fit.ways" 546 139 1 293 294 .none .none 295 549) ::
 (nat_lit 297, fo "ways" "Fit.ways" (mt 43 5) .none M4 296) ::
 (nat_lit 347, ⟨(.type "tuple"), none, (.seq [(.str "columns" 606), (.str "near" 607), (.str "parts" 608), (.str "wants" 609), (.str "weights" 610), (.str "wide" 611)].toArray 0), [].toArray⟩) ::
 (nat_lit 348, ⟨(.type "dict"), none, (.dict [kh P "__module__" 508 (.str "nearplane.fits" 469), kh P "__firstlineno__" 512 (.int (115) 511), kh P "__init__" 518 (.ref 266), kh P "told" 525 (.ref 273), kh P "free" 531 (.ref 278), kh P "rests" 538 (.ref 285), kh P "squares" 545 (.ref 292), kh P "ways" 551 (.ref 297), kh P "sure" 559 (.ref 304), kh P "value" 567 (.ref 311), kh P "pulls" 574 (.ref 318), kh P "word" 582 (.ref 325), kh P "gain" 590 (.ref 332), kh P "off" 598 (.ref 339), kh P "sums" 605 (.ref 346), kh P "__static_attributes__" 612 (.ref 347), kh P "__dict__" 614 (.ref 350), kh P "__weakref__" 616 (.ref 351), kh P "__doc__" 617 .none].toArray 4), [].toArray⟩) ::
 (nat_lit 349, ⟨(.type "type"), none, (.cls ⟨"Fit", [(.type "object")], [(.ref 349), (.type "object")], 348, "Fit", true, [], [], false, none, false⟩), [none, none, (some (.str "Fit" 501)), (some (.str "Fit" 509)), (some (.builtin "object.__new__")), (some (.bool true))].toArray⟩) ::
 (nat_lit 350, ⟨(.type "getset_descriptor"), none, (.fields [(.str "__dict__" 613), (.ref 349), (.builtin "function.__dict__"), (.builtin "function.__dict__#set")].toArray), [].toArray⟩) ::
 (nat_lit 351, ⟨(.type "getset_descriptor"), none, (.fields [(.str "__weakref__" 615), (.ref 349), (.builtin "ExceptionGroup.__weakref__"), .none].toArray), [].toArray⟩) ::
 (nat_lit 366, cb "__init__" "State.__init__" 634 165 4 361 362 (.ref 363) (.ref 364) 365 641) ::
 (nat_lit 367, fo "__init__" "State.__init__" (mt 45 0) .none M5 366) ::
 (nat_lit 368, ⟨(.type "tuple"), none, (.seq [(.str "kept" 644), (.str "laid" 645), (.str "wide" 646)].toArray 0), [].toArray⟩) ::
 (nat_lit 369, ⟨(.type "dict"), none, (.dict [kh P "__module__" 629 (.str "nearplane.planes" 620), kh P "__firstlineno__" 633 (.int (163) 632), kh P "__init__" 643 (.ref 367), kh P "__static_attributes__" 647 (.ref 368), kh P "__dict__" 649 (.ref 371), kh P "__weakref__" 651 (.ref 372), kh P "__doc__" 652 .none].toArray 4), [].toArray⟩) ::
 (nat_lit 370, ⟨(.type "type"), none, (.cls ⟨"State", [(.type "object")], [(.ref 370), (.type "object")], 369, "State", true, [], [], false, none, false⟩), [none, none, (some (.str "State" 622)), (some (.str "State" 630)), (some (.builtin "object.__new__")), (some (.bool true))].toArray⟩) ::
 (nat_lit 371, ⟨(.type "getset_descriptor"), none, (.fields [(.str "__dict__" 648), (.ref 370), (.builtin "function.__dict__"), (.builtin "function.__dict__#set")].toArray), [].toArray⟩) ::
 (nat_lit 372, ⟨(.type "getset_descriptor"), none, (.fields [(.str "__weakref__" 650), (.ref 370), (.builtin "ExceptionGroup.__weakref__"), .none].toArray), [].toArray⟩) ::
 (nat_lit 387, cb "__init__" "Plane.__init__" 667 171 2 382 383 (.ref 384) (.ref 385) 386 672) ::
 (nat_lit 388, fo "__init__" "Plane.__init__" (mt 46 0) .none M5 387) ::
 (nat_lit 389, ⟨(.type "tuple"), none, (.seq [.none].toArray 0), [].toArray⟩) ::
 (nat_lit 395, cb "lay" "Plane.lay" 675 176 4 390 391 (.ref 392) (.ref 393) 394 686) ::
 (nat_lit 396, fo "lay" "Plane.lay" (mt 46 1) (.ref 389) M5 395) ::
 (nat_lit 400, cb "take" "Plane.take" 689 186 2 397 398 .none .none 399 692) ::
 (nat_lit 401, fo "take" "Plane.take" (mt 46 2) .none M5 400) ::
 (nat_lit 405, cb "widen" "Plane.widen" 695 193 2 402 403 .none .none 404 698) ::
 (nat_lit 406, fo "widen" "Plane.widen" (mt 46 3) .none M5 405) ::
 (nat_lit 410, cb "narrow" "Plane.narrow" 701 202 1 407 408 .none .none 409 704) ::
 (nat_lit 411, fo "narrow" "Plane.narrow" (mt 46 4) .none M5 410) ::
 (nat_lit 415, cb "points" "Plane.points" 707 209 1 412 413 .none .none 414 710) ::
 (nat_lit 416, fo "points" "Plane.points" (mt 46 5) .none M5 415) ::
 (nat_lit 422, cb "width" "Plane.width" 713 212 1 417 418 (.ref 419) (.ref 420) 421 717) ::
 (nat_lit 423, fo "width" "Plane.width" (mt 46 6) .none M5 422) ::
 (nat_lit 427, cb "fit" "Plane.fit" 720 215 1 424 425 .none .none 426 723) ::
 (nat_lit 428, fo "fit" "Plane.fit" (mt 46 7) .none M5 427) ::
 (nat_lit 441, cb "told" "Plane.told" 733 222 1 436 437 (.ref 438) (.ref 439) 440 737) ::
 (nat_lit 442, fo "told" "Plane.told" (mt 46 9) .none M5 441) ::
 (nat_lit 448, cb "free" "Plane.free" 740 225 1 443 444 (.ref 445) (.ref 446) 447 744) ::
 (nat_lit 449, fo "free" "Plane.free" (mt 46 10) .none M5 448) ::
 (nat_lit 455, cb "ways" "Plane.ways" 747 228 1 450 451 (.ref 452) (.ref 453) 454 751) ::
 (nat_lit 456, fo "ways" "Plane.ways" (mt 46 11) .none M5 455) ::
 (nat_lit 462, cb "squares" "Plane.squares" 754 231 1 457 458 (.ref 459) (.ref 460) 461 758) ::
 (nat_lit 463, fo "squares" "Plane.squares" (mt 46 12) .none M5 462) ::
 (nat_lit 478, ⟨(.type "tuple"), none, (.seq [(.str "states" 776)].toArray 0), [].toArray⟩) ::
 (nat_lit 479, ⟨(.type "dict"), none, (.dict [kh P "__module__" 662 (.str "nearplane.planes" 620), kh P "__firstlineno__" 666 (.int (169) 665), kh P "__init__" 674 (.ref 388), kh P "lay" 688 (.ref 396), kh P "take" 694 (.ref 401), kh P "widen" 700 (.ref 406), kh P "narrow" 706 (.ref 411), kh P "points" 712 (.ref 416), kh P "width" 719 (.ref 423), kh P "fit" 725 (.ref 428), kh P "sums" 732 (.ref 435), kh P "told" 739 (.ref 442), kh P "free" 746 (.ref 449), kh P "ways" 753 (.ref 456), kh P "squares" 760 (.ref 463), kh P "mark" 767 (.ref 470), kh P "back" 775 (.ref 477), kh P "__static_attributes__" 777 (.ref 478), kh P "__dict__" 779 (.ref 481), kh P "__weakref__" 781 (.ref 482), kh P "__doc__" 782 .none].toArray 4), [].toArray⟩) ::
 (nat_lit 480, ⟨(.type "type"), none, (.cls ⟨"Plane", [(.type "object")], [(.ref 480), (.type "object")], 479, "Plane", true, [], [], false, none, false⟩), [none, none, (some (.str "Plane" 655)), (some (.str "Plane" 663)), (some (.builtin "object.__new__")), (some (.bool true))].toArray⟩) ::
 (nat_lit 481, ⟨(.type "getset_descriptor"), none, (.fields [(.str "__dict__" 778), (.ref 480), (.builtin "function.__dict__"), (.builtin "function.__dict__#set")].toArray), [].toArray⟩) ::
 (nat_lit 482, ⟨(.type "getset_descriptor"), none, (.fields [(.str "__weakref__" 780), (.ref 480), (.builtin "ExceptionGroup.__weakref__"), .none].toArray), [].toArray⟩) ::
 (nat_lit 490, cb "with_row" "with_row" 785 239 2 485 486 (.ref 487) (.ref 488) 489 790) ::
 (nat_lit 491, fo "with_row" "with_row" (top 47) .none M5 490) ::
 (nat_lit 497, cb "_law_cell" "_law_cell" 795 242 2 492 493 (.ref 494) (.ref 495) 496 800) ::
 (nat_lit 498, fo "_law_cell" "_law_cell" (top 49) .none M6 497) ::
 (nat_lit 504, cb "_law_mixed" "_law_mixed" 803 246 2 499 500 (.ref 501) (.ref 502) 503 811) ::
 (nat_lit 505, fo "_law_mixed" "_law_mixed" (top 50) .none M6 504) ::
 (nat_lit 511, cb "_law_lowest" "_law_lowest" 814 253 2 506 507 (.ref 508) (.ref 509) 510 821) ::
 (nat_lit 512, fo "_law_lowest" "_law_lowest" (top 51) .none M6 511) ::
 (nat_lit 518, cb "_law_plus" "_law_plus" 824 259 2 513 514 (.ref 515) (.ref 516) 517 829) ::
 (nat_lit 519, fo "_law_plus" "_law_plus" (top 52) .none M6 518) ::
 (nat_lit 525, cb "_law_ratio" "_law_ratio" 832 261 1 520 521 (.ref 522) (.ref 523) 524 838) ::
 (nat_lit 526, fo "_law_ratio" "_law_ratio" (top 53) .none M6 525) ::
 (nat_lit 532, cb "_law_row" "_law_row" 841 267 2 527 528 (.ref 529) (.ref 530) 531 848) ::
 (nat_lit 533, fo "_law_row" "_law_row" (top 54) .none M6 532) ::
 (nat_lit 539, cb "_law_point" "_law_point" 851 272 3 534 535 (.ref 536) (.ref 537) 538 860) ::
 (nat_lit 540, fo "_law_point" "_law_point" (top 55) .none M6 539) ::
 (nat_lit 546, cb "_law_fresh" "_law_fresh" 863 279 1 541 542 (.ref 543) (.ref 544) 545 867) ::
 (nat_lit 547, fo "_law_fresh" "_law_fresh" (top 56) .none M6 546) ::
 (nat_lit 551, cb "_law_alike" "_law_alike" 870 281 2 548 549 .none .none 550 873) ::
 (nat_lit 552, fo "_law_alike" "_law_alike" (top 57) .none M6 551) ::
 (nat_lit 558, cb "_law_stands" "_law_stands" 876 287 2 553 554 (.ref 555) (.ref 556) 557 881) ::
 (nat_lit 559, fo "_law_stands" "_law_stands" (top 58) .none M6 558) ::
 (nat_lit 565, cb "_law_laid" "_law_laid" 884 291 4 560 561 (.ref 562) (.ref 563) 564 896) ::
 (nat_lit 566, fo "_law_laid" "_law_laid" (top 59) .none M6 565) ::
 (nat_lit 572, cb "_law_taken" "_law_taken" 899 306 3 567 568 (.ref 569) (.ref 570) 571 906) ::
 (nat_lit 573, fo "_law_taken" "_law_taken" (top 60) .none M6 572) ::
 (nat_lit 579, cb "_law_widened" "_law_widened" 909 310 3 574 575 (.ref 576) (.ref 577) 578 918) ::
 (nat_lit 580, fo "_law_widened" "_law_widened" (top 61) .none M6 579) ::
 (nat_lit 586, cb "_law_narrowed" "_law_narrowed" 921 318 2 581 582 (.ref 583) (.ref 584) 585 927) ::
 (nat_lit 587, fo "_law_narrowed" "_law_narrowed" (top 62) .none M6 586) ::
 (nat_lit 593, cb "_law_same" "_law_same" 930 323 3 588 589 (.ref 590) (.ref 591) 592 937) ::
 (nat_lit 594, fo "_law_same" "_law_same" (top 63) .none M6 593) ::
 (nat_lit 598, cb "_law_asked" "_law_asked" 940 334 3 595 596 .none .none 597 943) ::
 (nat_lit 599, fo "_law_asked" "_law_asked" (top 64) .none M6 598) ::
 (nat_lit 605, cb "law" "law" 946 340 1 600 601 (.ref 602) (.ref 603) 604 960) ::
 (nat_lit 606, fo "law" "law" (top 65) .none M6 605) ::
 []
def KA : List Addr := nat_lit 3 :: nat_lit 71 :: nat_lit 72 :: nat_lit 78 :: nat_lit 79 :: nat_lit 85 :: nat_lit 86 :: nat_lit 92 :: nat_lit 93 :: nat_lit 99 :: nat_lit 100 :: nat_lit 106 :: nat_lit 107 :: nat_lit 113 :: nat_lit 114 :: nat_lit 120 :: nat_lit 121 :: nat_lit 127 :: nat_lit 128 :: nat_lit 134 :: nat_lit 135 :: nat_lit 139 :: nat_lit 140 :: nat_lit 144 :: nat_lit 145 :: nat_lit 149 :: nat_lit 150 :: nat_lit 154 :: nat_lit 155 :: nat_lit 159 :: nat_lit 160 :: nat_lit 161 :: nat_lit 167 :: nat_lit 168 :: nat_lit 174 :: nat_lit 175 :: nat_lit 179 :: nat_lit 180 :: nat_lit 184 :: nat_lit 185 :: nat_lit 189 :: nat_lit 190 :: nat_lit 194 :: nat_lit 195 :: nat_lit 201 :: nat_lit 202 :: nat_lit 208 :: nat_lit 209 :: nat_lit 213 :: nat_lit 214 :: nat_lit 220 :: nat_lit 221 :: nat_lit 227 :: nat_lit 228 :: nat_lit 234 :: nat_lit 235 :: nat_lit 239 :: nat_lit 240 :: nat_lit 246 :: nat_lit 247 :: nat_lit 253 :: nat_lit 254 :: nat_lit 265 :: nat_lit 266 :: nat_lit 272 :: nat_lit 273 :: nat_lit 277 :: nat_lit 278 :: nat_lit 284 :: nat_lit 285 :: nat_lit 291 :: nat_lit 292 :: nat_lit 296 :: nat_lit 297 :: nat_lit 347 :: nat_lit 348 :: nat_lit 349 :: nat_lit 350 :: nat_lit 351 :: nat_lit 366 :: nat_lit 367 :: nat_lit 368 :: nat_lit 369 :: nat_lit 370 :: nat_lit 371 :: nat_lit 372 :: nat_lit 387 :: nat_lit 388 :: nat_lit 389 :: nat_lit 395 :: nat_lit 396 :: nat_lit 400 :: nat_lit 401 :: nat_lit 405 :: nat_lit 406 :: nat_lit 410 :: nat_lit 411 :: nat_lit 415 :: nat_lit 416 :: nat_lit 422 :: nat_lit 423 :: nat_lit 427 :: nat_lit 428 :: nat_lit 441 :: nat_lit 442 :: nat_lit 448 :: nat_lit 449 :: nat_lit 455 :: nat_lit 456 :: nat_lit 462 :: nat_lit 463 :: nat_lit 478 :: nat_lit 479 :: nat_lit 480 :: nat_lit 481 :: nat_lit 482 :: nat_lit 490 :: nat_lit 491 :: nat_lit 497 :: nat_lit 498 :: nat_lit 504 :: nat_lit 505 :: nat_lit 511 :: nat_lit 512 :: nat_lit 518 :: nat_lit 519 :: nat_lit 525 :: nat_lit 526 :: nat_lit 532 :: nat_lit 533 :: nat_lit 539 :: nat_lit 540 :: nat_lit 546 :: nat_lit 547 :: nat_lit 551 :: nat_lit 552 :: nat_lit 558 :: nat_lit 559 :: nat_lit 565 :: nat_lit 566 :: nat_lit 572 :: nat_lit 573 :: nat_lit 579 :: nat_lit 580 :: nat_lit 586 :: nat_lit 587 :: nat_lit 593 :: nat_lit 594 :: nat_lit 598 :: nat_lit 599 :: nat_lit 605 :: nat_lit 606 :: []
end Tm
open PySem PySem.W PyProof.Rows
def PySem.W.Fast.tw14901801028116746026 : Unit := ()
def PySem.W.Fast.tw2227110047820722793 : Unit := ()
def PySem.W.Fast.tw16712346353352666292 : Unit := ()
def PySem.W.Fast.tw17909970245409966393 : Unit := ()
def PySem.W.Fast.tw1003579319367866142 : Unit := ()
def PySem.W.Fast.tw8029669862466024810 : Unit := ()
def PySem.W.Fast.tw4247512755875253151 : Unit := ()
def PySem.W.Fast.tw1957827402660322141 : Unit := ()
def PySem.W.Fast.tw9593441873037508828 : Unit := ()
def PySem.W.Fast.tw3549280103966670306 : Unit := ()
def PySem.W.Fast.tw6170105180215537556 : Unit := ()
def PySem.W.Fast.tw7188695129493726437 : Unit := ()
def PySem.W.Fast.tw9103855182676107024 : Unit := ()
def PySem.W.Fast.tw17954798929566758944 : Unit := ()
def PySem.W.Fast.tw2473511657444823258 : Unit := ()
def PySem.W.Fast.tw17873669018278591631 : Unit := ()
def PySem.W.Fast.tw17724370879391509713 : Unit := ()
def PySem.W.Fast.tw18262090439906188422 : Unit := ()
def PySem.W.Fast.tw15228538259169940781 : Unit := ()
def PySem.W.Fast.tw12033672558683874866 : Unit := ()
def PySem.W.Fast.tw12967306351066982044 : Unit := ()
def PySem.W.Fast.tw4558750922586559824 : Unit := ()
def PySem.W.Fast.tw13069520786436740874 : Unit := ()
def PySem.W.Fast.tw18393551946327304949 : Unit := ()
def PySem.W.Fast.tw9422439389317263748 : Unit := ()
def PySem.W.Fast.tw1729205300018165538 : Unit := ()
def PySem.W.Fast.tw5101144483476947601 : Unit := ()
def PySem.W.Fast.tw13772278571410604358 : Unit := ()
def PySem.W.Fast.tw6962453915629127431 : Unit := ()
def PySem.W.Fast.tw11432258511430212706 : Unit := ()
def PySem.W.Fast.tw4285726041733080205 : Unit := ()
def PySem.W.Fast.tw12405665229151974907 : Unit := ()
def PySem.W.Fast.tw9098207119835751737 : Unit := ()
def PySem.W.Fast.tw6564474562306784730 : Unit := ()
def PySem.W.Fast.tw13619909560829687998 : Unit := ()
def PySem.W.Fast.tw4924650492839032015 : Unit := ()
def PySem.W.Fast.tw12512117160987597549 : Unit := ()
def PySem.W.Fast.tw12710543226651550854 : Unit := ()
def PySem.W.Fast.tw4064609813187592199 : Unit := ()
def PySem.W.Fast.tw956977352312627893 : Unit := ()
def PySem.W.Fast.tw14833614595400695477 : Unit := ()
def PySem.W.Fast.tw4671413139766948978 : Unit := ()
def PySem.W.Fast.tw6278674059552444111 : Unit := ()
def PySem.W.Fast.tw4845301105664295715 : Unit := ()
def PySem.W.Fast.tw13036633826360044318 : Unit := ()
def PySem.W.Fast.tw17112983827718445832 : Unit := ()
def PySem.W.Fast.tw1430907432693696133 : Unit := ()
def PySem.W.Fast.tw14818848738543439383 : Unit := ()
def PySem.W.Fast.tw4512091976448419757 : Unit := ()
def PySem.W.Fast.tw12409857299785286800 : Unit := ()
def PySem.W.Fast.tw3889895605132615852 : Unit := ()
def PySem.W.Fast.tw11312162084859182586 : Unit := ()
def PySem.W.Fast.tw12640925970472684945 : Unit := ()
def PySem.W.Fast.tw507353666299063449 : Unit := ()
def PySem.W.Fast.tw11003951530126006559 : Unit := ()
def PySem.W.Fast.tw4552675584249546197 : Unit := ()
def PySem.W.Fast.tw17467577734513826920 : Unit := ()
def PySem.W.Fast.tw7890381046137586756 : Unit := ()
def PySem.W.Fast.tw8729737602499888207 : Unit := ()
def PySem.W.Fast.tw15771778847597197213 : Unit := ()
def PySem.W.Fast.tw7192604734503684305 : Unit := ()
def PySem.W.Fast.tw5098109598106725162 : Unit := ()
def PySem.W.Fast.tw14510693222478992664 : Unit := ()
def PySem.W.Fast.tw14528412781608470011 : Unit := ()
def PySem.W.Fast.tw16028699757395704506 : Unit := ()
def PySem.W.Fast.tw10747992994770840866 : Unit := ()
def PySem.W.Fast.tw7068302163324932983 : Unit := ()
def PySem.W.Fast.tw17888750997227963238 : Unit := ()
def PySem.W.Fast.tw5702970809638132754 : Unit := ()
def PySem.W.Fast.tw552655684223990410 : Unit := ()
def PySem.W.Fast.tw8968376571329749292 : Unit := ()
def PySem.W.Fast.tw1233874336190408154 : Unit := ()
def PySem.W.Fast.tw14235991531603101892 : Unit := ()
def PySem.W.Fast.tw18208936851213888428 : Unit := ()
def PySem.W.Fast.tw11481507359623382101 : Unit := ()
def PySem.W.Fast.tw14982988756177303764 : Unit := ()
def PySem.W.Fast.tw14150766127599483378 : Unit := ()
def PySem.W.Fast.tw12068618493499367676 : Unit := ()
def PySem.W.Fast.tw18200515261999587676 : Unit := ()
def PySem.W.Fast.tw9425276558411343436 : Unit := ()
def PySem.W.Fast.tw15233642239517242449 : Unit := ()
def PySem.W.Fast.tw17229134330797941004 : Unit := ()
def PySem.W.Fast.tw11405648764190929566 : Unit := ()
def PySem.W.Fast.tw2223495978957514693 : Unit := ()
def PySem.W.Fast.tw2338954579370018417 : Unit := ()
def PySem.W.Fast.tw5213810920301522160 : Unit := ()
set_option maxRecDepth 100000 in
set_option maxHeartbeats 0 in
theorem PySem.Challenge.cw_nearplane_k54_as_the_fit_holds : PySem.Challenge.rw_nearplane_k54_as_the_fit.Holds := by
 w_on; o_law; o_head (PySem.W.kHook Tm.KK Tm.KA (fun _ => by kernel_rfl)); (case hw => w_witness2)
 k_fill
 refine Tm.walk (l := PySem.Challenge.rw_nearplane_k54_as_the_fit) rfl rfl (fun w h Y => PySem.W.kIn_of Y) ?F ?hq
 case hq => first | rfl | decide +kernel
 case F =>
  intro w mg fa h KX G hmg
  apply Tm.all_mk rfl KX G hmg
  all_goals first
   | (refine' Np.Ga.of ?a ?l ?c ?k; (case a => k_is); (case l => k_is); (case c => k_is); (case k => k_is))
   | (refine' Np.Gm.of ?a ?b ?i ?l ?c ?k; (case a => k_is); (case b => k_is); (case i => kernel_rfl); (case l => k_is); (case c => k_is); (case k => k_is))
   | (refine' Np.Gf.of ?a ?b; (case a => k_is); (case b => kernel_rfl))
   | (refine' Np.Gc.of ?a ?b ?c ?d ?e; (case a => k_is); (case b => kernel_rfl); (case c => kernel_rfl); (case d => kernel_rfl); (case e => kernel_rfl))
   | (refine' Np.Gn.of ?a ?b ?c; (case a => k_is); (case b => kernel_rfl); (case c => kernel_rfl))
   | (refine' Np.Ge.of ?a ?l ?c ?k ?t; (case a => k_is); (case l => k_is); (case c => k_is); (case k => k_is); (case t => k_is))
   | (refine' Np.Gd.of ?a ?b ?i ?l ?c ?k ?t; (case a => k_is); (case b => k_is); (case i => kernel_rfl); (case l => k_is); (case c => k_is); (case k => k_is); (case t => k_is))
   | k_is
end
