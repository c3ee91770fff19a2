import PyProof.Rows.All
import Wide.All
import OpenK.AllK
import Wide.FinOn
import Lean
import PyProof.EqAt
import PyProof.EqKinds
import PyProof.TupleCall
import PySem.Str
import KE.KListMore
import KE.LcSums
import KE.KRevIter
import PyProof.EnumStmt
import PyProof.EnumMake
import PyProof.IsiTupleOf
import PyProof.P3In
import PyProof.CollectIter
import PyProof.ListRange
import OpenK.KOwn
import KE.KTryMore
import PyProof.NsDelKeeps
import KE.KIsAll
import PyProof.ExcAttrAll.ValueError
import KE.KUnpack
import PySem.Challenge.RW_nearplane_k44_ways
set_option Elab.async false
set_option linter.all false
set_option maxRecDepth 100000
set_option maxHeartbeats 4000000
open PySem.W renaming instObj -> jAa, methodObj -> jAb, lookIn -> jAz, plainGet -> jA0, hasDictIn -> jA1, findIn -> jA2, plainGet_of -> jA3, isFn -> jA4, plainOver -> jA5, takerIn -> jA6, makesIn -> jA8, emptyDict -> jA9, keepIn -> jBc, cellsFrom_some -> jBl, fnOf -> jBw, codeIn -> jBx, subIn -> jCk, nsIn -> jCl, mg_of -> jCm, mg_none_of -> jEu
open PySem.Heap renaming lt_size -> jAc, get?_push_of_some -> jAu, get?_push_size -> jAw, size_push -> jBe, get?_update_other -> jBz
open Nat renaming lt_of_lt_of_le -> jAd, lt_irrefl -> jAe, ne_of_lt -> jAf, le_trans -> jAj, le_of_lt -> jAk, ne_of_gt -> jAv, le_refl -> jAx, lt_succ_self -> jBf, zero_le -> jBg, succ_mul -> jB4, mul_comm -> jB6, le_of_not_lt -> jB8, lt_succ_of_lt -> jCf, lt_of_le_of_lt -> jCg, pow_le_pow_right -> jCr, eq_zero_or_pos -> jCs, pow_add -> jCw, pow_succ -> jCy, pow_lt_pow_right -> jCz, one_lt_two_pow -> jC1, two_pow_pos -> jC2, reduceAdd -> jC7, mul_add -> jDo, mul_le_mul_left -> jDq, le_mul_of_pos_left -> jDr, le_mul_of_pos_right -> jDs, min_eq_left -> jDx, strongRecOn -> jEc, mul_le_mul -> jEi, mul_lt_mul_of_pos_right -> jEj, add_sub_cancel_left -> jEo, mul_le_mul_right -> jEp, pos_of_ne_zero -> jEr
open List renaming range -> jAg, mem_filter -> jAh, mem_range -> jAi, filterMap_cons -> jAl, mem_cons_self -> jAm, mem_cons_of_mem -> jAn, mem_cons -> jAo, mem_append -> jAp, mem_append_left -> jAq, getElem?_eq_some_iff -> jAr, getElem?_set_self -> jAs, getElem?_set_ne -> jAt, mem_append_right -> jAy, length_cons -> jA7, lookup -> jBa, map_cons -> jBb, length_map -> jBd, append_nil -> jBh, nodup_cons -> jBi, of_mem_zip -> jBj, replicate -> jBk, length -> jBn, length_take -> jBo, getElem?_append_right -> jBp, getElem?_replicate -> jBq, getElem?_append_left -> jBr, getElem?_map -> jBs, mem_of_getElem? -> jBt, length_append -> jBu, length_replicate -> jBv, size_toArray -> jBy, replicate_succ -> jB0, flatten_cons -> jB1, foldl_cons -> jB2, length_singleton -> jB3, nil_append -> jB5, map_nil -> jB7, mem_map -> jB9, getElem?_eq_none_iff -> jCa, getElem?_cons_succ -> jCb, map_map -> jCc, lookup_cons -> jCd, all_eq_true -> jCh, not_mem_nil -> jCi, mem_singleton -> jCj, set_append_right -> jCn, getElem?_eq_none -> jCo, length_nil -> jC4, cons_append -> jC5, getElem?_cons_zero -> jC6, zipWith -> jDd, getElem?_zipWith -> jDe, length_zipWith -> jDf, range' -> jDg, take_add_one -> jDh, take_length -> jDi, getElem_of_mem -> jDj, getElem_zipWith -> jDk, getElem_mem -> jDl, take_of_length_le -> jDm, foldl_append -> jDn, mem_of_mem_take -> jDp, zipWith_cons_cons -> jDu, mem_replicate -> jDv, length_eq_zero_iff -> jDw, drop_eq_nil_of_le -> jDy, getElem?_of_mem -> jDz, map_set -> jD0, length_range -> jD1, mem_or_eq_of_mem_set -> jD3, getD_eq_getElem?_getD -> jD5, map_append -> jEk, take_append_of_le_length -> jEl, getElem?_take -> jEm, getElem?_eq_getElem -> jEn, length_filter_le -> jEq, eq_nil_of_length_eq_zero -> jEt
open Option renaming isSome_iff_exists -> jBm, map_some -> jCe, bind_some -> jC3
open Rat renaming divInt -> jCp, num_divInt_den -> jCq, divInt_ofNat -> jCv, div_def -> jC0, add_zero -> jDt, zero_mul -> jD4, mul_nonneg -> jD6, mul_eq_zero -> jD7, mul_zero -> jD8, mul_comm -> jD9, mul_assoc -> jEa, mul_inv_cancel -> jEb, intCast_add -> jEd, divInt_eq_div -> jEe, intCast_inj -> jEf, mul_one -> jEg, intCast_mul -> jEh
open Int renaming natAbs_natCast -> jCt, natAbs_mul -> jCu, natAbs_add_le -> jCx, gcd -> jC8, fmod_eq_emod_of_nonneg -> jC9, eq_ofNat_of_zero_le -> jDa, gcd_natCast_natCast -> jDb, mul_fdiv_cancel_left -> jDc, mul_pos -> jD2, reduceEq -> jEs
section
namespace L2
open PySem PySem.Spec PyProof.Rows
abbrev Key := Sum Int Str
def keyIs : Key -> Value -> Bool
 | .inl k, v => Value.isInt k v
 | .inr x, v => Value.isStrOf x v
def keyH (w : World) : Key -> Int
 | .inl k => hashInt k
 | .inr x => hashStr w x
theorem qAt : ∀ {k : Key} {v : Value}, keyIs k v = true -> (∃ i t, k = Sum.inl i /\ v = Value.int i t) \/ (∃ x t, k = Sum.inr x /\ v = Value.str x t)
 | .inl i, v, h => by
  obtain ⟨t, e⟩ := Value.isInt_shape (k := i) (v := v) h
  exact .inl ⟨i, t, rfl, e⟩
 | .inr x, v, h => by
  obtain ⟨t, e⟩ := Value.isStrOf_shape (x := x) (v := v) h
  exact .inr ⟨x, t, rfl, e⟩
theorem key_ll (a b : Int) : decide ((Sum.inl a : Key) = Sum.inl b) = (a == b) := by
 by_cases e : a = b
 ·subst e; simp
 ·have h : ¬ (Sum.inl a : Key) = Sum.inl b := fun q => e (Sum.inl.inj q)
  rw [decide_eq_false h]
  exact (beq_eq_false_iff_ne.mpr e).symm
theorem key_rr (a b : Str) : decide ((Sum.inr a : Key) = Sum.inr b) = decide (a = b) := by
 by_cases e : a = b
 ·subst e; simp
 ·have h : ¬ (Sum.inr a : Key) = Sum.inr b := fun q => e (Sum.inr.inj q)
  rw [decide_eq_false h, decide_eq_false e]
theorem key_lr (a : Int) (b : Str) : decide ((Sum.inl a : Key) = Sum.inr b) = false := decide_eq_false (fun q => nomatch q)
theorem key_rl (a : Str) (b : Int) : decide ((Sum.inr a : Key) = Sum.inl b) = false := decide_eq_false (fun q => nomatch q)
def mixKind (prog : Program) (w : World) : PySem.KeyKind prog w Key where
 is := keyIs
 hash := keyH w
 inj := fun v a b ha hb => by
  rcases qAt ha with ⟨i, t, rfl, rfl⟩ | ⟨x, t, rfl, rfl⟩
  ·rcases qAt hb with ⟨j, u, rfl, e⟩ | ⟨y, u, rfl, e⟩
   ·injection e with e1 _; rw [e1]
   ·exact nomatch e
  ·rcases qAt hb with ⟨j, u, rfl, e⟩ | ⟨y, u, rfl, e⟩
   ·exact nomatch e
   ·injection e with e1 _; rw [e1]
 byValue := fun k v h => by
  rcases qAt h with ⟨i, t, rfl, rfl⟩ | ⟨x, t, rfl, rfl⟩ <;> rfl
 pyHash := fun hv h => by
  rcases qAt hv with ⟨i, t, rfl, rfl⟩ | ⟨x, t, rfl, rfl⟩
  ·exact wpAny_pyHash_int h
  ·exact wpAny_pyHash_str h
 eqBool := fun hu hv h => by
  rcases qAt hu with ⟨i, t, rfl, rfl⟩ | ⟨x, t, rfl, rfl⟩
  ·rcases qAt hv with ⟨j, u, rfl, rfl⟩ | ⟨y, u, rfl, rfl⟩
   ·rw [key_ll] at h; exact wpAny_eqBool_int h
   ·rw [key_lr] at h; exact SeqAt.EqAt.int_str i t y u _ _ _ _ h
  ·rcases qAt hv with ⟨j, u, rfl, rfl⟩ | ⟨y, u, rfl, rfl⟩
   ·rw [key_rl] at h; exact SeqAt.EqAt.str_int x t j u _ _ _ _ h
   ·rw [key_rr] at h; exact wpAny_eqBool_str h
 «strs» := fun k x t v h => by
  rcases qAt h with ⟨i, u, rfl, e⟩ | ⟨y, u, rfl, e⟩
  ·exact nomatch e
  ·injection e with e1 _
   subst e1
   cases v <;> rfl
end L2
namespace L2
open PySem PySem.Spec PyProof.Rows
inductive V where
 | non | bl (b : Bool) | int (i : Int) | str (x : Str) | byt (b : Array UInt8) | flt (b : UInt64) | ref (a : Addr) | ty (n : String)
 deriving DecidableEq
def RelV : V -> Value -> Prop
 | .non, u => u = Value.none
 | .bl b, u => u = Value.bool b
 | .int i, u => ∃ t, u = Value.int i t
 | .str x, u => ∃ t, u = Value.str x t
 | .byt b, u => ∃ t, u = Value.bytes b t
 | .flt b, u => ∃ t, u = Value.float b t
 | .ref a, u => u = Value.ref a
 | .ty n, u => u = Value.type n
abbrev Vals : List V -> List Value -> Prop := Paired RelV
theorem Vals.length {xs : List V} {us : List Value} (r : Vals xs us) : xs.length = us.length := Paired.length r
theorem Vals.get : ∀ {xs : List V} {us : List Value} {i : Nat} {x : V}, Vals xs us -> xs[i]? = some x -> ∃ u, us[i]? = some u /\ RelV x u
 | _, _, _, _, .nil, e => by simp at e
 | _, _, 0, _, .cons r _, e => by simp at e; subst e; exact ⟨_, rfl, r⟩
 | _, _, i + 1, x, .cons _ t, e => by
  obtain ⟨u, h1, h2⟩ := Vals.get (i := i) (x := x) t (by simpa using e)
  exact ⟨u, by simpa using h1, h2⟩
theorem Vals.set {x : V} {u : Value} (r : RelV x u) : ∀ {xs : List V} {us : List Value} (i : Nat), Vals xs us -> Vals (xs.set i x) (us.set i u)
 | _, _, _, .nil => .nil
 | _, _, 0, .cons _ t => .cons r t
 | _, _, i + 1, .cons q t => .cons q (Vals.set r i t)
theorem Vals.append : ∀ {xs ys : List V} {us ws : List Value}, Vals xs us -> Vals ys ws -> Vals (xs ++ ys) (us ++ ws)
 | _, _, _, _, .nil, s => s
 | _, _, _, _, .cons r t, s => .cons r (Vals.append t s)
theorem Vals.take : ∀ {xs : List V} {us : List Value} (n : Nat), Vals xs us -> Vals (xs.take n) (us.take n)
 | _, _, 0, _ => .nil
 | _, _, _ + 1, .nil => .nil
 | _, _, n + 1, .cons r t => .cons r (Vals.take n t)
theorem Vals.drop : ∀ {xs : List V} {us : List Value} (n : Nat), Vals xs us -> Vals (xs.drop n) (us.drop n)
 | _, _, 0, r => r
 | _, _, _ + 1, .nil => .nil
 | _, _, n + 1, .cons _ t => Vals.drop n t
def RelO : Option V -> Option Value -> Prop
 | some v, some u => RelV v u
 | none, none => True
 | _, _ => False
def KV {κ : Type} : List (κ × V) -> List (κ × Value) -> Prop := Paired fun (p : κ × V) (q : κ × Value) => p.1 = q.1 /\ RelV p.2 q.2
def kV : Key -> V
 | .inl i => .int i
 | .inr x => .str x
inductive HO where
  | lst (xs : List V)
  | tup (xs : List V)
  | dK (kvs : List (Key × V)) | dT (kvs : List (List Key × V))
  | set (S : Int -> Bool) (n : Nat)
  | ins (C dx : Addr) (fs : List (Str × V))
  | own (x : Addr)
  | xd (fs : List (Str × V))
  | met (f x : Addr)
  | rng (lo hi : Int)
  | frz (o : Obj) (u : HO)
  | tbl (ps : Array Value)
  | ext (φ : Heap -> Prop)
abbrev Hp := Addr -> Option HO
def upd (H : Hp) (a : Addr) (o : HO) : Hp := fun b => if b = a then some o else H b
theorem zX {H : Hp} {a : Addr} {o : HO} : upd H a o a = some o := by unfold upd; rw [if_pos rfl]
theorem zO {H : Hp} {a b : Addr} {o : HO} (h : b ≠ a) : upd H a o b = H b := by unfold upd; rw [if_neg h]
theorem qAl {H : Hp} {a b : Addr} {o : HO} (h : H a = some o) (h' : H b = none) : a ≠ b := by
 intro e; subst e; rw [h] at h'; cases h'
section
variable (P : Program) (w : World)
def qBz (H : Hp) (h : Heap) (a : Addr) : HO -> Prop
 | .lst xs => xs.length <= sizeLine /\ ∃ (its : List Value) (n : Nat), Vals xs its /\ h.get? a = some { cls := .type "list", data := .seq its.toArray n }
 | .tup xs => xs.length <= sizeLine /\ ∃ its : List Value, Vals xs its /\ IsTup h a its.toArray
 | .dK kvs => kvs.length <= sizeLine /\ (a == sysModules) = false /\ ∃ vs, KV kvs vs /\ h.DictOf (mixKind P w) a vs
 | .dT kvs => kvs.length <= sizeLine /\ (a == sysModules) = false /\ ∃ xs : List (List Key × Addr × Value),
   Paired (fun (p : List Key × V) (q : List Key × Addr × Value) => p.1 = q.1 /\ H q.2.1 = some (.tup (p.1.map kV)) /\ RelV p.2 q.2.2) kvs xs /\
   ∃ o es ep, h.get? a = some o /\ o.ExactDict /\ o.data = .dict es ep /\ es.toList = xs.map (entryOfKey (tupleKind (mixKind P w))) /\ (xs.map (·.1)).Nodup
 | .set S n => h.SetOf (intKind P w) a S n
 | .ins C dx fs => H dx = some (.own a) /\ fs.length <= 1000 /\ dx ≠ a /\ h.get? a = some (jAa C dx) /\
   ∃ mA, h.Ns1 dx mA /\ (∀ f, RelO (fs.lookup f) (mA f)) /\ PySem.Within mA (fs.map (·.1))
 | .own _ => ∃ o, h.get? a = some o
 | .xd fs => ∃ mA, h.Ns1 a mA /\ ∀ f, RelO (fs.lookup f) (mA f)
 | .rng lo hi => ∃ t u v, h.get? a = some { cls := .type "range", data := .fields #[.int lo t, .int hi u, .int 1 v] }
 | .frz o u => h.get? a = some o /\ qBz H h a u
 | .tbl ps => h.get? a = some { cls := .none, data := .fields ps }
 | .met f x => h.get? a = some (jAb (.ref f) (.ref x))
 | .ext φ => φ h /\ (∃ o, h.get? a = some o) /\ ∀ h1 h2 : Heap, φ h1 -> (∀ o, h1.get? a = some o -> h2.get? a = some o) -> φ h2
def HOk (H : Hp) (h : Heap) : Prop := ∀ a o, H a = some o -> qBz P w H h a o
end
section
variable {P : Program} {w : World} {H H' : Hp} {h h' : Heap} {a : Addr} {o : HO}
theorem qBz.lt (x : qBz P w H h a o) : a < h.objs.size := by
 cases o with
 | lst xs => obtain ⟨_, _, _, _, e⟩ := x; exact jAc e
 | tup xs => obtain ⟨_, _, _, p⟩ := x; exact p.lt
 | dK kvs => obtain ⟨_, _, _, _, o, _, _, e, _⟩ := x; exact jAc e
 | dT kvs => obtain ⟨_, _, _, _, o, _, _, e, _⟩ := x; exact jAc e
 | set S n => obtain ⟨o, _, _, _, e, _⟩ := x; exact jAc e
 | ins C dx fs => obtain ⟨_, _, _, e, _⟩ := x; exact jAc e
 | own y => obtain ⟨_, e⟩ := x; exact jAc e
 | xd fs => obtain ⟨_, ⟨_, _, _, e, _⟩, _⟩ := x; exact jAc e
 | rng lo hi => obtain ⟨_, _, _, e⟩ := x; exact jAc e
 | frz ob u => obtain ⟨e, _⟩ := x; exact jAc e
 | tbl ps => exact jAc (show h.get? a = some _ from x)
 | met f y => exact jAc (show h.get? a = some _ from x)
 | ext φ => obtain ⟨_, ⟨_, e⟩, _⟩ := x; exact jAc e
theorem Paired.mapP {α β : Type} {F G : α -> β -> Prop} : ∀ {l₁ : List α} {l₂ : List β}, Paired F l₁ l₂ -> (∀ a b, F a b -> G a b) -> Paired G l₁ l₂
 | _, _, .nil, _ => .nil
 | _, _, .cons r t, f => .cons (f _ _ r) (Paired.mapP t f)
theorem qBz.stay (x : qBz P w H h a o) (k : ∀ b u, (b = a \/ H b = some (.own a)) -> h.get? b = some u -> h'.get? b = some u)
  (ho : ∀ b, H b = some (.own a) -> H' b = some (.own a)) (ht : ∀ b xs, H b = some (.tup xs) -> H' b = some (.tup xs)) : qBz P w H' h' a o := by
 induction o with
 | lst xs => obtain ⟨z, its, n, r, e⟩ := x; exact ⟨z, its, n, r, k _ _ (.inl rfl) e⟩
 | tup xs => obtain ⟨z, its, r, ob, e, c⟩ := x; exact ⟨z, its, r, ob, k _ _ (.inl rfl) e, c⟩
 | dK kvs => obtain ⟨z, y, vs, r, ob, es, ep, e, c⟩ := x; exact ⟨z, y, vs, r, ob, es, ep, k _ _ (.inl rfl) e, c⟩
 | dT kvs =>
  obtain ⟨z, y, xs, r, ob, es, ep, e, c⟩ := x
  exact ⟨z, y, xs, Paired.mapP r fun p q z => ⟨z.1, ht _ _ z.2.1, z.2.2⟩, ob, es, ep, k _ _ (.inl rfl) e, c⟩
 | set S n => obtain ⟨ob, es, ep, t, e, c⟩ := x; exact ⟨ob, es, ep, t, k _ _ (.inl rfl) e, c⟩
 | ins C dx fs =>
  obtain ⟨d, z, ne, e, mA, ⟨od, es, ep, e2, c⟩, r⟩ := x
  exact ⟨ho _ d, z, ne, k _ _ (.inl rfl) e, mA, ⟨od, es, ep, k _ _ (.inr d) e2, c⟩, r⟩
 | own y => obtain ⟨ob, e⟩ := x; exact ⟨ob, k _ _ (.inl rfl) e⟩
 | xd fs => obtain ⟨mA, ⟨od, es, ep, e, c⟩, r⟩ := x; exact ⟨mA, ⟨od, es, ep, k _ _ (.inl rfl) e, c⟩, r⟩
 | rng lo hi => obtain ⟨t, u, v, e⟩ := x; exact ⟨t, u, v, k _ _ (.inl rfl) e⟩
 | frz ob u ih => obtain ⟨e, q⟩ := x; exact ⟨k _ _ (.inl rfl) e, ih q⟩
 | tbl ps =>
  have e : h.get? a = some { cls := .none, data := .fields ps } := x
  show h'.get? a = some { cls := .none, data := .fields ps }
  exact k a _ (.inl rfl) e
 | met f y =>
  have e : h.get? a = some (jAb (.ref f) (.ref y)) := x
  show h'.get? a = some (jAb (.ref f) (.ref y))
  exact k a _ (.inl rfl) e
 | ext φ => obtain ⟨p, ⟨o, e⟩, st⟩ := x; exact ⟨st _ _ p fun o q => k _ _ (.inl rfl) q, ⟨o, k _ _ (.inl rfl) e⟩, st⟩
theorem HOk.lt (x : HOk P w H h) (e : H a = some o) : a < h.objs.size := (x a o e).lt
theorem HOk.fresh (x : HOk P w H h) (e : h.objs.size <= a) : H a = none := by
 cases q : H a with
 | none => rfl
 | some u => exact absurd (jAd (x.lt q) e) (jAe _)
theorem HOk.kept (x : HOk P w H h) (k : ∀ b u, h.get? b = some u -> h'.get? b = some u) : HOk P w H h' := fun a o e =>
 (x a o e).stay (fun b u _ q => k b u q) (fun _ q => q) fun _ _ q => q
theorem HOk.laid (x : HOk P w H h) (k : ∀ b u, h.get? b = some u -> h'.get? b = some u) (hp : h.objs.size <= a) (new : qBz P w (upd H a o) h' a o) : HOk P w (upd H a o) h' := fun b u e => by
 have hn := x.fresh hp
 by_cases hb : b = a
 ·subst hb; rw [zX] at e; cases e; exact new
 ·rw [zO hb] at e
  exact (x b u e).stay (fun c v _ q => k c v q) (fun c q => by rw [zO (qAl q hn)]; exact q) fun c xs q => by rw [zO (qAl q hn)]; exact q
end
def Rd (H : Hp) (a : Addr) (u : HO) : Prop := H a = some u \/ ∃ o, H a = some (.frz o u)
theorem Rd.of {H : Hp} {a : Addr} {u : HO} (h : H a = some u) : Rd H a u := .inl h
theorem Rd.ok {P : Program} {w : World} {H : Hp} {h : Heap} {a : Addr} {u : HO} (r : Rd H a u) (x : HOk P w H h) : qBz P w H h a u := by
 rcases r with r | ⟨o, r⟩
 ·exact x a u r
 ·obtain ⟨_, q⟩ := x a _ r
  exact q
def Mut : Option HO -> Prop
 | some (.lst _) => True
 | some (.dK _) => True
 | some (.dT _) => True
 | some (.set _ _) => True
 | some (.ins _ _ _) => True
 | some (.ext _) => True
 | _ => False
section
variable {P : Program} {w : World} {H : Hp} {h h' : Heap} {x e : Addr} {o' : HO}
theorem HOk.write (ok : HOk P w H h) (mu : Mut (H x)) (he : e = x \/ H e = some (.own x)) (k : ∀ b u, b ≠ e -> h.get? b = some u -> h'.get? b = some u) (heo : ∃ u, h'.get? e = some u)
  (new : qBz P w (upd H x o') h' x o') : HOk P w (upd H x o') h' := fun b u q => by
 have nown : ∀ c y, H c = some (.own y) -> c ≠ x := fun c y r z => by subst z; rw [r] at mu; exact mu
 have ntup : ∀ c xs, H c = some (.tup xs) -> c ≠ x := fun c xs r z => by subst z; rw [r] at mu; exact mu
 by_cases hb : b = x
 ·subst hb; rw [zX] at q; cases q; exact new
 ·rw [zO hb] at q
  by_cases hbe : b = e
  ·have q' : H b = some (.own x) := by
    rcases he with z | z
    ·exact absurd (hbe.trans z) hb
    ·rw [hbe]; exact z
   rw [q] at q'; cases q'
   obtain ⟨v, hv⟩ := heo
   exact ⟨v, by rw [hbe]; exact hv⟩
  ·refine (ok b u q).stay (fun c v hc r => k c v ?_ r) (fun c r => by rw [zO (nown c b r)]; exact r) fun c xs r => by rw [zO (ntup c xs r)]; exact r
   rcases hc with rfl | hc
   ·exact hbe
   ·rintro rfl
    rcases he with z | z
    ·exact nown c b hc z
    ·rw [hc] at z; cases z; exact hb rfl
end
structure Un (fs ex : List Addr) (H H' : Hp) (h h' : Heap) : Prop where
 keep : ∀ b o, h.get? b = some o -> H b = none -> b ∉ fs -> b ∉ ex -> h'.get? b = some o
 slot : ∀ b o, h.get? b = some o -> H b = none -> b ∈ fs -> b ∉ ex -> ∃ sl, h'.get? b = some { o with slots := sl }
 free : ∀ b o, h.get? b = some o -> H b = none -> b ∉ ex -> H' b = none
 there : ∀ b o, h.get? b = some o -> b ∉ ex -> ∃ o', h'.get? b = some o'
 tups : ∀ b xs, H b = some (.tup xs) -> H' b = some (.tup xs)
 frzs : ∀ b o u, H b = some (.frz o u) -> H' b = some (.frz o u)
 tbls : ∀ b ps, H b = some (.tbl ps) -> ∃ more, H' b = some (.tbl (ps ++ more))
section
variable {fs fs' ex ex' : List Addr} {H H1 H2 : Hp} {h h1 h2 h' : Heap} {a x e : Addr} {o : HO}
theorem Un.any (u : Un fs ex H H1 h h1) {b : Addr} {ob : Obj} (q : h.get? b = some ob) (n : H b = none) (hx : b ∉ ex) : ∃ sl, h1.get? b = some { ob with slots := sl } := by
 by_cases hb : b ∈ fs
 ·exact u.slot b ob q n hb hx
 ·exact ⟨ob.slots, u.keep b ob q n hb hx⟩
theorem Un.trans (a : Un fs ex H H1 h h1) (b : Un fs ex H1 H2 h1 h2) : Un fs ex H H2 h h2 where
 keep := fun c ob q n hc hx => b.keep c ob (a.keep c ob q n hc hx) (a.free c ob q n hx) hc hx
 slot := fun c ob q n hc hx => by
  obtain ⟨sl, e1⟩ := a.slot c ob q n hc hx
  obtain ⟨sl', e2⟩ := b.slot c _ e1 (a.free c ob q n hx) hc hx
  exact ⟨sl', e2⟩
 free := fun c ob q n hx => by
  obtain ⟨o', e1⟩ := a.there c ob q hx
  exact b.free c o' e1 (a.free c ob q n hx) hx
 there := fun c ob q hx => by
  obtain ⟨o', e1⟩ := a.there c ob q hx
  exact b.there c o' e1 hx
 tups := fun c xs q => b.tups c xs (a.tups c xs q)
 frzs := fun c ob xs q => b.frzs c ob xs (a.frzs c ob xs q)
 tbls := fun c ps q => by
  obtain ⟨m1, e1⟩ := a.tbls c ps q
  obtain ⟨m2, e2⟩ := b.tbls c _ e1
  exact ⟨m1 ++ m2, by rw [e2, Array.append_assoc]⟩
theorem Un.kept (k : ∀ b u, h.get? b = some u -> h'.get? b = some u) : Un fs ex H H h h' :=
 ⟨fun b ob q _ _ _ => k b ob q, fun b ob q _ _ _ => ⟨ob.slots, k b ob q⟩, fun _ _ _ n _ => n, fun b ob q _ => ⟨ob, k b ob q⟩, fun _ _ q => q, fun _ _ _ q => q, fun _ ps q => ⟨#[], by rw [q]; simp⟩⟩
theorem Un.refl : Un fs ex H H h h := Un.kept fun _ _ q => q
theorem Un.laid (k : ∀ b u, h.get? b = some u -> h'.get? b = some u) (hp : h.objs.size <= a) (hn : H a = none) : Un fs ex H (upd H a o) h h' where
 keep := fun b u q _ _ _ => k b u q
 slot := fun b u q _ _ _ => ⟨u.slots, k b u q⟩
 free := fun b u q n _ => by rw [zO (jAf (jAd (jAc q) hp))]; exact n
 there := fun b u q _ => ⟨u, k b u q⟩
 tups := fun b xs q => by rw [zO (qAl q hn)]; exact q
 frzs := fun b u xs q => by rw [zO (qAl q hn)]; exact q
 tbls := fun b ps q => ⟨#[], by rw [zO (qAl q hn), q]; simp⟩
theorem Un.write (mu : Mut (H x)) (he : e = x \/ H e = some (.own x)) (k : ∀ b u, b ≠ e -> h.get? b = some u -> h'.get? b = some u) (heo : ∃ u, h'.get? e = some u) : Un fs ex H (upd H x o) h h' := by
 have hx : ∀ b, H b = none -> b ≠ x := fun b n z => by subst z; rw [n] at mu; exact mu
 have hb : ∀ b, H b = none -> b ≠ e := fun b n z => by
  subst z
  rcases he with r | r
  ·exact hx b n r
  ·rw [n] at r; cases r
 have hm : ∀ b u, H b = some u -> ¬ Mut (some u) -> b ≠ x := fun b u q nm z => by subst z; rw [q] at mu; exact nm mu
 refine ⟨fun b u q n _ _ => k b u (hb b n) q, fun b u q n _ _ => ⟨u.slots, k b u (hb b n) q⟩, fun b u q n _ => by rw [zO (hx b n)]; exact n, fun b u q _ => ?_,
  fun b xs q => by rw [zO (hm b _ q fun z => z)]; exact q, fun b u xs q => by rw [zO (hm b _ q fun z => z)]; exact q, fun b ps q => ⟨#[], by rw [zO (hm b _ q fun z => z), q]; simp⟩⟩
 by_cases hbe : b = e
 ·subst hbe; exact heo
 ·exact ⟨u, k b u hbe q⟩
theorem Un.mono (u : Un fs ex H H1 h h1) (hs : ∀ b ∈ fs, b ∈ fs') (hx : ∀ b ∈ ex, b ∈ ex') : Un fs' ex' H H1 h h1 :=
 ⟨fun b ob q n hb he => u.keep b ob q n (fun z => hb (hs b z)) fun z => he (hx b z), fun _ _ q n _ he => u.any q n fun z => he (hx _ z), fun b ob q n he => u.free b ob q n fun z => he (hx b z), fun b ob q he => u.there b ob q fun z => he (hx b z), u.tups, u.frzs, u.tbls⟩
end
def trk (h : Heap) (H : Hp) : List Addr := (jAg h.objs.size).filter fun a => (H a).isSome
def hidT (h : Heap) (H : Hp) : Heap := PySem.W.hideAll h (trk h H)
theorem hidT_size (h : Heap) (H : Hp) : (hidT h H).objs.size = h.objs.size := PySem.W.hideAll_size _ _
theorem hidT_get {h : Heap} {H : Hp} {b : Addr} {o : Obj} (e : h.get? b = some o) (n : H b = none) : (hidT h H).get? b = some o :=
 PySem.W.hideAll_get _ e fun hm => by
  have q : (H b).isSome = true := (jAh.mp hm).2
  rw [n] at q; simp at q
theorem of_hidT {h : Heap} {H : Hp} {b : Addr} {o : Obj} (e : (hidT h H).get? b = some o) : h.get? b = some o /\ H b = none := by
 have e' : h.get? b = some o := PySem.W.of_hideAll (trk h H) e
 refine ⟨e', ?_⟩
 cases q : H b with
 | none => rfl
 | some x =>
  have hm : b ∈ trk h H := jAh.mpr ⟨jAi.mpr (jAc e'), by simp [q]⟩
  have z : (hidT h H).get? b = none := PySem.W.hideAll_none (trk h H) hm
  rw [z] at e; cases e
def allNews (g h : Heap) (L : Addr) : List (Addr × Obj) := (jAg h.objs.size).filterMap fun a => if a = L \/ (g.get? a).isSome = true then none else (h.get? a).map fun o => (a, o)
def rest (g h : Heap) (L d : Addr) : List (Addr × Obj) := (allNews g h L).filter fun p => decide (p.1 ≠ d)
end L2
namespace L2
open PySem PySem.Spec PyProof.Rows
structure Mod (K : PySem.W.Frag) (mg : Str -> Option Value) (base : Heap) : Prop where
 kin : K.In base
 glob : base.Ns mainGlobals mg
 blt : ∃ mb, base.Ns builtinsNs mb /\ ∀ x : Str, x ≠ "__name__" -> mb x = bootBuiltins x
 nolimit : base.NoLimit
 seer : base.NoSeer
structure Cx where
 prog : Program
 w : World
 K : PySem.W.Frag
 mg : Str -> Option Value
 base : Heap
 A : Around
 N : List Str
 s₀ : Shared
 H₀ : Hp
 env : Env
 outer : List Env
 stack : List Env
 ex : List Addr
 fn : Str -> Bool
 calm : Bool
 pn : List (Addr × Obj)
 xe : Value -> Shared -> Prop
def frs (l : List Env) : List Addr := l.filterMap (·.frame)
abbrev Cx.fs (X : Cx) : List Addr := frs X.outer
def Vis (sc : Scope) (x : Str) : Prop := sc.names.lookup x = some .local \/ sc.names.lookup x = some .cell \/ sc.names.lookup x = some .free
def Loc (sc : Scope) (x : Str) : Prop := sc.names.lookup x = some .local \/ sc.names.lookup x = some .cell
def Look (env : Env) (h : Heap) (m : Str -> Option Value) (x : Str) (u : Value) : Prop :=
 (env.kindOf x = some .local /\ m x = some u) \/ ((env.kindOf x = some .cell \/ env.kindOf x = some .free) /\ ∃ c, env.cells.lookup x = some c /\ h.IsCell c (some u))
structure Cx.Ok (X : Cx) : Prop where
 mod : Mod X.K X.mg X.base
 kind : X.env.scope.kind = .function
 glob : X.env.globals = mainGlobals
 blt : X.env.builtins = builtinsNs
 above : X.s₀.heap.objs.size <= X.env.locals
 inj : ∀ x y c, X.env.cells.lookup x = some c -> X.env.cells.lookup y = some c -> x = y
 has : ∀ x, (X.env.kindOf x = some .cell \/ X.env.kindOf x = some .free) -> ∃ c, X.env.cells.lookup x = some c
 cab : ∀ x c, X.fn x = true -> X.env.cells.lookup x = some c -> X.s₀.heap.objs.size <= c
 hd : X.calm = true -> X.A.handled = none
 frames : X.A.frames = some X.stack
 stk : X.stack = X.outer \/ (X.stack = X.env :: X.outer /\ X.env.frame = some X.env.locals)
 exf : ∀ b ∈ X.ex, b ≠ X.env.locals /\ ∀ x c, X.env.cells.lookup x = some c -> c ≠ b
 bs : ∀ b o, X.base.get? b = some o -> X.s₀.heap.get? b = some o /\ X.H₀ b = none
 bsz : X.base.objs.size <= X.s₀.heap.objs.size
 noex : ∀ b o, X.base.get? b = some o -> b ∉ X.ex
 exfs : ∀ b ∈ X.ex, b ∉ X.fs
 funs : X.s₀.heap.FunFrames X.base X.outer
 frf : ∀ b ∈ X.fs, X.H₀ b = none
structure Inv (X : Cx) (pins : List (Addr × Obj)) (σ : List (Option V)) (H : Hp) (s : Shared) : Prop where
 ok : X.Ok
 os : s.os = X.s₀.os
 bare : AllBare s.gens
 base : Un X.fs X.ex X.H₀ H X.s₀.heap s.heap
 loc : ∃ m, s.heap.Ns X.env.locals m /\ ∀ (i : Nat) (x : Str) (v : V), X.N[i]? = some x -> σ[i]? = some (some v) -> Vis X.env.scope x -> ∃ u, RelV v u /\ Look X.env s.heap m x u
 cell : ∀ x c, X.env.cells.lookup x = some c -> ∃ v, s.heap.IsCell c v
 free : H X.env.locals = none
 freeC : ∀ x c, X.env.cells.lookup x = some c -> H c = none
 pin : ∀ p ∈ X.pn ++ pins, s.heap.get? p.1 = some p.2 /\ H p.1 = none /\ p.1 ≠ X.env.locals /\ p.1 ∉ X.fs /\ ∀ v, p.2.data ≠ .cell v
 hok : HOk X.prog X.w H s.heap
 len : σ.length = X.N.length
section
variable {X : Cx} {pins : List (Addr × Obj)} {σ : List (Option V)} {H H' : Hp} {s : Shared} {h' : Heap}
theorem Cx.Ok.nofr (ok : X.Ok) {b : Addr} {o : Obj} (e : X.base.get? b = some o) : b ∉ X.fs := fun hb => by
 have := (ok.funs.mem hb).1
 rw [e] at this; cases this
theorem Inv.bs (I : Inv X pins σ H s) : ∀ b o, X.base.get? b = some o -> s.heap.get? b = some o /\ H b = none := fun b o e =>
 ⟨I.base.keep b o (I.ok.bs b o e).1 (I.ok.bs b o e).2 (I.ok.nofr e) (I.ok.noex b o e), I.base.free b o (I.ok.bs b o e).1 (I.ok.bs b o e).2 (I.ok.noex b o e)⟩
theorem Inv.bk (I : Inv X pins σ H s) : ∀ b o, X.base.get? b = some o -> s.heap.get? b = some o := fun b o e => (I.bs b o e).1
theorem Inv.mod (I : Inv X pins σ H s) : Mod X.K X.mg X.base := I.ok.mod
theorem Inv.kIn (I : Inv X pins σ H s) : X.K.In s.heap := I.ok.mod.kin.keeps I.bk
theorem Inv.fr (I : Inv X pins σ H s) : ∃ m, Fr X.base X.env.locals s.heap m :=
 let ⟨m, hn, _⟩ := I.loc
 ⟨m, hn, I.bk, jAj I.ok.bsz I.ok.above⟩
theorem Inv.lt (I : Inv X pins σ H s) : X.env.locals < s.heap.objs.size := let ⟨_, hn, _⟩ := I.loc; hn.lt
theorem Inv.sz (I : Inv X pins σ H s) : X.s₀.heap.objs.size <= s.heap.objs.size := jAj I.ok.above (jAk I.lt)
theorem Inv.nofs (I : Inv X pins σ H s) {a : Addr} (h : s.heap.objs.size <= a) : a ∉ X.fs := fun hb => by
 obtain ⟨_, o, ho, _⟩ := I.ok.funs.mem hb
 exact absurd (jAd (jAc ho) (jAj I.sz h)) (jAe _)
theorem Inv.cne (I : Inv X pins σ H s) : ∀ x c, X.env.cells.lookup x = some c -> c ≠ X.env.locals := fun x c e z => by
 obtain ⟨v, o, ho, hd⟩ := I.cell x c e
 obtain ⟨m, ⟨o', es, ep, ho', hd', _⟩, _⟩ := I.loc
 rw [z, ho'] at ho; cases ho; rw [hd'] at hd; cases hd
theorem Inv.funs (I : Inv X pins σ H s) : s.heap.FunFrames X.base X.outer := by
 have all : ∀ (l : List Env), (∀ b ∈ frs l, b ∈ X.fs) -> X.s₀.heap.FunFrames X.base l -> s.heap.FunFrames X.base l := by
  intro l
  induction l with
  | nil => intro _ _; trivial
  | cons env r ih =>
   intro hs hl
   obtain ⟨hk, ⟨L, o, hf, hn, ho, hd⟩, hr⟩ := hl
   have hL : L ∈ X.fs := hs L (by unfold frs; rw [jAl, hf]; exact jAm)
   obtain ⟨sl, e⟩ := I.base.slot L o ho (I.ok.frf L hL) hL fun z => I.ok.exfs L z hL
   exact ⟨hk, ⟨L, _, hf, hn, e, hd⟩, ih (fun b hb => hs b (by unfold frs; rw [jAl, hf]; exact jAn _ hb)) hr⟩
 exact all X.outer (fun _ hb => hb) I.ok.funs
theorem Inv.stack (I : Inv X pins σ H s) : s.heap.FunFrames X.base X.stack := by
 rcases I.ok.stk with e | ⟨e, hf⟩
 ·rw [e]; exact I.funs
 ·rw [e]
  obtain ⟨m, hn, _⟩ := I.loc
  refine .cons (by rw [I.ok.kind]; decide) hf hn ?_ I.funs
  exact Heap.get?_none_of_le (jAj I.ok.bsz I.ok.above)
theorem Inv.stkSub (I : Inv X pins σ H s) : ∀ b ∈ frs X.stack, b ∈ X.env.locals :: X.fs := fun b hb => by
 rcases I.ok.stk with e | ⟨e, hf⟩
 ·rw [e] at hb; exact jAn _ hb
 ·rw [e] at hb
  unfold frs at hb
  rw [jAl, hf] at hb
  exact hb
theorem Inv.stkFree (I : Inv X pins σ H s) : ∀ b ∈ frs X.stack, H b = none := fun b hb => by
 rcases jAo.mp (I.stkSub b hb) with e | hb
 ·rw [e]; exact I.free
 ·obtain ⟨_, o, ho, _⟩ := I.ok.funs.mem hb
  exact I.base.free b o ho (I.ok.frf b hb) fun z => I.ok.exfs b z hb
theorem Inv.step {g' : Array GenState} {t' : Nat} {d' : Drawn} {ch : List Addr} (I : Inv X pins σ H s)
  (hch : ∀ b ∈ ch, (b ∈ X.ex \/ X.s₀.heap.objs.size <= b) /\ b ≠ X.env.locals /\ (∀ x c, X.env.cells.lookup x = some c -> c ≠ b) /\ ∀ p ∈ X.pn ++ pins, p.1 ≠ b)
  (keep : ∀ b o, b ≠ X.env.locals -> b ∉ X.fs -> b ∉ ch -> s.heap.get? b = some o -> H b = none -> h'.get? b = some o)
  (slot : ∀ b o, b ≠ X.env.locals -> b ∈ X.fs -> b ∉ ch -> s.heap.get? b = some o -> H b = none -> ∃ sl, h'.get? b = some { o with slots := sl }) (free : ∀ b o, b ∉ ch -> s.heap.get? b = some o -> H b = none -> H' b = none)
  (there : ∀ b o, b ∉ ch -> s.heap.get? b = some o -> ∃ o', h'.get? b = some o')
  (tups : ∀ b xs, H b = some (.tup xs) -> H' b = some (.tup xs)) (frzs : ∀ b o u, H b = some (.frz o u) -> H' b = some (.frz o u)) (tbls : ∀ b ps, H b = some (.tbl ps) -> ∃ more, H' b = some (.tbl (ps ++ more)))
  (ns : ∀ m, s.heap.Ns X.env.locals m -> h'.Ns X.env.locals m) (hok : HOk X.prog X.w H' h') (hg : AllBare g') :
  Inv X pins σ H' { s with heap := h', gens := g', drawn := d', toks := t' } := by
 have neL : ∀ b o, X.s₀.heap.get? b = some o -> b ≠ X.env.locals := fun b o e => jAf (jAd (jAc e) I.ok.above)
 have neC : ∀ b o, X.s₀.heap.get? b = some o -> b ∉ X.ex -> b ∉ ch := fun b o e hx hb => by
  rcases (hch b hb).1 with z | z
  ·exact hx z
  ·exact absurd (jAd (jAc e) z) (jAe _)
 have cellK : ∀ x c, X.env.cells.lookup x = some c -> ∀ v, s.heap.IsCell c v -> h'.IsCell c v := fun x c e v ⟨o, ho, hd⟩ => by
  have nch : c ∉ ch := fun z => (hch c z).2.2.1 x c e rfl
  by_cases hc : c ∈ X.fs
  ·obtain ⟨sl, q⟩ := slot c o (I.cne x c e) hc nch ho (I.freeC x c e)
   exact ⟨_, q, hd⟩
  ·exact ⟨o, keep c o (I.cne x c e) hc nch ho (I.freeC x c e), hd⟩
 refine ⟨I.ok, I.os, hg, ⟨fun b o e n hb hx => ?_, fun b o e n hb hx => ?_, fun b o e n hx => ?_, fun b o e hx => ?_, fun b xs e => tups b xs (I.base.tups b xs e), fun b o xs e => frzs b o xs (I.base.frzs b o xs e), fun b ps e => ?_⟩, ?_, fun x c e => ?_, ?_, fun x c e => ?_, fun p hp => ?_, hok, I.len⟩
 ·exact keep b o (neL b o e) hb (neC b o e hx) (I.base.keep b o e n hb hx) (I.base.free b o e n hx)
 ·obtain ⟨sl, e1⟩ := I.base.slot b o e n hb hx
  obtain ⟨sl', e2⟩ := slot b _ (neL b o e) hb (neC b o e hx) e1 (I.base.free b o e n hx)
  exact ⟨sl', e2⟩
 ·obtain ⟨o', e1⟩ := I.base.there b o e hx
  exact free b o' (neC b o e hx) e1 (I.base.free b o e n hx)
 ·obtain ⟨o', e1⟩ := I.base.there b o e hx
  exact there b o' (neC b o e hx) e1
 ·obtain ⟨m1, e1⟩ := I.base.tbls b ps e
  obtain ⟨m2, e2⟩ := tbls b _ e1
  exact ⟨m1 ++ m2, by rw [e2, Array.append_assoc]⟩
 ·obtain ⟨m, hn, hl⟩ := I.loc
  refine ⟨m, ns m hn, fun i x v e1 e2 e3 => ?_⟩
  obtain ⟨u, r, l⟩ := hl i x v e1 e2 e3
  refine ⟨u, r, ?_⟩
  rcases l with l | ⟨k, c, e, z⟩
  ·exact .inl l
  ·exact .inr ⟨k, c, e, cellK x c e _ z⟩
 ·obtain ⟨v, z⟩ := I.cell x c e
  exact ⟨v, cellK x c e v z⟩
 ·obtain ⟨m, ⟨o, _, _, ho, _⟩, _⟩ := I.loc
  exact free _ o (fun z => (hch _ z).2.1 rfl) ho I.free
 ·obtain ⟨v, o, ho, hd⟩ := I.cell x c e
  exact free c o (fun z => (hch c z).2.2.1 x c e rfl) ho (I.freeC x c e)
 ·obtain ⟨e, n, ne, nf, d⟩ := I.pin p hp
  have nch : p.1 ∉ ch := fun z => (hch p.1 z).2.2.2 p hp rfl
  exact ⟨keep p.1 p.2 ne nf nch e n, free p.1 p.2 nch e n, ne, nf, d⟩
theorem Inv.un {t' : Nat} (I : Inv X pins σ H s) (u : Un X.fs [] H H' s.heap h') (hok : HOk X.prog X.w H' h') : Inv X pins σ H' { s with heap := h', toks := t' } := by
 obtain ⟨m, ⟨o, es, ep, ho, r⟩, _⟩ := id I.loc
 obtain ⟨sl, hL⟩ := u.any ho I.free (by simp)
 exact I.step (g' := s.gens) (d' := s.drawn) (ch := []) (fun _ z => nomatch z) (fun b o _ hb _ e n => u.keep b o e n hb (by simp)) (fun b o _ hb _ e n => u.slot b o e n hb (by simp)) (fun b o _ e n => u.free b o e n (by simp)) (fun b o _ e => u.there b o e (by simp)) u.tups u.frzs u.tbls (fun m' hm => by
  obtain ⟨o', es', ep', ho', r'⟩ := hm
  rw [ho] at ho'; cases ho'
  exact ⟨_, es', ep', hL, r'⟩) hok I.bare
theorem Inv.call {g' : Array GenState} {t' : Nat} {d' : Drawn} {ch : List Addr} (I : Inv X pins σ H s) (u : Un (frs X.stack) ch H H' s.heap h') (hok : HOk X.prog X.w H' h') (hg : AllBare g')
  (hch : ∀ b ∈ ch, (b ∈ X.ex \/ X.s₀.heap.objs.size <= b) /\ b ≠ X.env.locals /\ (∀ x c, X.env.cells.lookup x = some c -> c ≠ b) /\ ∀ p ∈ X.pn ++ pins, p.1 ≠ b) :
  Inv X pins σ H' { s with heap := h', gens := g', drawn := d', toks := t' } := by
 obtain ⟨m, ⟨o, es, ep, ho, r⟩, _⟩ := id I.loc
 obtain ⟨sl, hL⟩ := u.any ho I.free fun z => (hch _ z).2.1 rfl
 exact I.step (ch := ch) hch (fun b o hL hb hc e n => u.keep b o e n (fun z => (jAo.mp (I.stkSub b z)).elim hL hb) hc) (fun b o _ _ hc e n => u.any e n hc) (fun b o hc e n => u.free b o e n hc) (fun b o hc e => u.there b o e hc) u.tups u.frzs u.tbls (fun m' hm => by
  obtain ⟨o', es', ep', ho', r'⟩ := hm
  rw [ho] at ho'; cases ho'
  exact ⟨_, es', ep', hL, r'⟩) hok hg
theorem Inv.turned {t' : Nat} {it : Addr} (I : Inv X pins σ H s) (k : ∀ b o, b ≠ it -> s.heap.get? b = some o -> h'.get? b = some o) (hn : H it = none) (hL : it ≠ X.env.locals)
  (h1 : it ∈ X.ex \/ X.s₀.heap.objs.size <= it) (h2 : ∀ x c, X.env.cells.lookup x = some c -> c ≠ it) (h3 : ∀ p ∈ X.pn ++ pins, p.1 ≠ it) : Inv X pins σ H { s with heap := h', toks := t' } := by
 have nit : ∀ b u, H b = some u -> b ≠ it := fun b u e z => by rw [z, hn] at e; cases e
 refine I.step (g' := s.gens) (d' := s.drawn) (ch := [it]) (fun b hb => ?_) (fun b o _ _ hc e _ => k b o (fun z => hc (by simp [z])) e) (fun b o _ _ hc e _ => ⟨o.slots, k b o (fun z => hc (by simp [z])) e⟩) (fun _ _ _ _ n => n)
  (fun b o hc e => ⟨o, k b o (fun z => hc (by simp [z])) e⟩) (fun _ _ e => e) (fun _ _ _ e => e) (fun b ps e => ⟨#[], by rw [e]; simp⟩) (fun m hm => ?_) (fun b u e => ?_) I.bare
 ·have e : b = it := by simpa using hb
  subst e
  exact ⟨h1, hL, h2, h3⟩
 ·obtain ⟨o, es, ep, ho, r⟩ := hm
  exact ⟨o, es, ep, k _ o (Ne.symm hL) ho, r⟩
 ·refine (I.hok b u e).stay (fun c v hc q => k c v ?_ q) (fun _ q => q) fun _ _ q => q
  rcases hc with z | z
  ·rw [z]; exact nit b u e
  ·exact nit c _ z
theorem Inv.tok (I : Inv X pins σ H s) (t : Nat) : Inv X pins σ H { s with toks := t } := I.un (h' := s.heap) (t' := t) Un.refl I.hok
theorem Inv.kept {t' : Nat} (I : Inv X pins σ H s) (k : ∀ b u, s.heap.get? b = some u -> h'.get? b = some u) : Inv X pins σ H { s with heap := h', toks := t' } := I.un (Un.kept k) (I.hok.kept k)
theorem Inv.laid {a : Addr} {o : HO} {t' : Nat} (I : Inv X pins σ H s) (k : ∀ b u, s.heap.get? b = some u -> h'.get? b = some u) (hp : s.heap.objs.size <= a) (new : qBz X.prog X.w (upd H a o) h' a o) :
  Inv X pins σ (upd H a o) { s with heap := h', toks := t' } := I.un (Un.laid k hp (I.hok.fresh hp)) (I.hok.laid k hp new)
theorem Inv.write {x e : Addr} {o : HO} {t' : Nat} (I : Inv X pins σ H s) (mu : Mut (H x)) (he : e = x \/ H e = some (.own x)) (k : ∀ b u, b ≠ e -> s.heap.get? b = some u -> h'.get? b = some u) (heo : ∃ u, h'.get? e = some u)
  (new : qBz X.prog X.w (upd H x o) h' x o) : Inv X pins σ (upd H x o) { s with heap := h', toks := t' } := I.un (Un.write mu he k heo) (I.hok.write mu he k heo new)
theorem Inv.pins_of {pins' : List (Addr × Obj)} (I : Inv X pins σ H s) (h : ∀ p ∈ pins', s.heap.get? p.1 = some p.2 /\ H p.1 = none /\ p.1 ≠ X.env.locals /\ p.1 ∉ X.fs /\ ∀ v, p.2.data ≠ .cell v) : Inv X pins' σ H s :=
 ⟨I.ok, I.os, I.bare, I.base, I.loc, I.cell, I.free, I.freeC, fun p hp => (jAp.mp hp).elim (fun z => I.pin p (jAq _ z)) (h p), I.hok, I.len⟩
theorem qFf {N : List Str} (hN : N.Nodup) {i j : Nat} {x : Str} (a : N[i]? = some x) (b : N[j]? = some x) : i = j := by
 obtain ⟨h1, e1⟩ := jAr.mp a
 obtain ⟨h2, e2⟩ := jAr.mp b
 exact (List.getElem_inj hN).mp (e1.trans e2.symm)
theorem qDt {M : Model} {A : Around} {E : Value -> Shared -> Prop} {i : Nat} {x : Str} {v : V} {u : Value} {Q : Unit -> Shared -> Prop} (I : Inv X pins σ H s) (hN : X.N.Nodup) (hi : X.N[i]? = some x) (hx : Loc X.env.scope x) (r : RelV v u)
  (h : ∀ s', Inv X pins (σ.set i (some v)) H s' -> (∃ a, Heap.SameBut a s.heap s'.heap /\ (a = X.env.locals \/ X.env.cells.lookup x = some a)) -> Q () s') (hf : X.fn x = true \/ X.env.scope.names.lookup x = some .local := by first | exact .inl rfl | exact .inr rfl | assumption) : wpAny M A (storeName X.env x u) Q E s := by
 obtain ⟨m, hn, hl⟩ := id I.loc
 have hcls : (X.env.scope.kind == .class || (X.env.scope.kind == .module && X.env.locals != X.env.globals)) = false := by rw [I.ok.kind]; rfl
 have hiσ : i < σ.length := by rw [I.len]; exact (jAr.mp hi).1
 have cne := I.cne
 have tracked : ∀ {a : Addr} {h' : Heap}, (∃ o, s.heap.get? a = some o /\ H a = none) -> Heap.SameBut a s.heap h' -> HOk X.prog X.w H h' := fun {a h'} ha hs b ob e => by
  obtain ⟨_, _, hfree⟩ := ha
  refine (I.hok b ob e).stay (fun c w' hc q => (hs.2 c ?_).trans q) (fun _ q => q) fun _ _ q => q
  rintro rfl
  rcases hc with rfl | hc
  ·rw [hfree] at e; cases e
  ·rw [hfree] at hc; cases hc
 rcases hx with hk | hk
 ·refine wpAny_storeName_local hk hn (fun h' hn' hs => ?_) hcls
  obtain ⟨oL, _, _, hoL, _⟩ := id hn
  refine h _ ⟨I.ok, I.os, I.bare, ⟨fun b o e n hb hx => ?_, fun b o e n hb hx => ?_, I.base.free, fun b o e hx => ?_, I.base.tups, I.base.frzs, I.base.tbls⟩, ⟨_, hn', fun j y v' e1 e2 e3 => ?_⟩, fun y c e => ?_, I.free, I.freeC, fun p hp => ?_, tracked ⟨oL, hoL, I.free⟩ hs, by simpa using I.len⟩ ⟨_, hs, .inl rfl⟩
  ·exact (hs.2 b (jAf (jAd (jAc e) I.ok.above))).trans (I.base.keep b o e n hb hx)
  ·obtain ⟨sl, e1⟩ := I.base.slot b o e n hb hx
   exact ⟨sl, (hs.2 b (jAf (jAd (jAc e) I.ok.above))).trans e1⟩
  ·obtain ⟨o', e1⟩ := I.base.there b o e hx
   exact ⟨o', (hs.2 b (jAf (jAd (jAc e) I.ok.above))).trans e1⟩
  ·by_cases hj : j = i
   ·subst hj
    rw [hi] at e1; cases e1
    rw [jAs hiσ] at e2
    cases e2
    exact ⟨u, r, .inl ⟨hk, by simp⟩⟩
   ·rw [jAt (Ne.symm hj)] at e2
    obtain ⟨u', r', q⟩ := hl j y v' e1 e2 e3
    refine ⟨u', r', ?_⟩
    rcases q with ⟨k, e⟩ | ⟨k, c, e, z⟩
    ·refine .inl ⟨k, ?_⟩
     have : y ≠ x := fun e => hj (qFf hN e1 (e ▸ hi))
     simp [this, e]
    ·exact .inr ⟨k, c, e, z.sameBut hs (cne y c e)⟩
  ·obtain ⟨w', z⟩ := I.cell y c e
   exact ⟨w', z.sameBut hs (cne y c e)⟩
  ·obtain ⟨e, n, ne, nf, d⟩ := I.pin p hp
   exact ⟨(hs.2 p.1 ne).trans e, n, ne, nf, d⟩
 ·have hfn : X.fn x = true := by
   rcases hf with z | z
   ·exact z
   ·rw [z] at hk; cases hk
  obtain ⟨c, hc⟩ := I.ok.has x (.inl hk)
  obtain ⟨w', z⟩ := I.cell x c hc
  refine wpAny_storeName_cell I.ok.kind hk hc z (fun h' hc' hs => ?_)
  obtain ⟨oc, hoc, hocd⟩ := id z
  refine h { s with heap := h' } ⟨I.ok, I.os, I.bare, ⟨fun b o e n hb hx => ?_, fun b o e n hb hx => ?_, I.base.free, fun b o e hx => ?_, I.base.tups, I.base.frzs, I.base.tbls⟩, ⟨m, hn.sameBut hs (Ne.symm (cne x c hc)), fun j y v' e1 e2 e3 => ?_⟩, fun y c' e => ?_, I.free, I.freeC, fun p hp => ?_, tracked ⟨oc, hoc, I.freeC x c hc⟩ hs, by simpa using I.len⟩ ⟨c, hs, .inr hc⟩
  ·exact (hs.2 b (jAf (jAd (jAc e) (I.ok.cab x c hfn hc)))).trans (I.base.keep b o e n hb hx)
  ·obtain ⟨sl, e1⟩ := I.base.slot b o e n hb hx
   exact ⟨sl, (hs.2 b (jAf (jAd (jAc e) (I.ok.cab x c hfn hc)))).trans e1⟩
  ·obtain ⟨o', e1⟩ := I.base.there b o e hx
   exact ⟨o', (hs.2 b (jAf (jAd (jAc e) (I.ok.cab x c hfn hc)))).trans e1⟩
  ·by_cases hj : j = i
   ·subst hj
    rw [hi] at e1; cases e1
    rw [jAs hiσ] at e2
    cases e2
    exact ⟨u, r, .inr ⟨.inl hk, c, hc, hc'⟩⟩
   ·rw [jAt (Ne.symm hj)] at e2
    obtain ⟨u', r', q⟩ := hl j y v' e1 e2 e3
    refine ⟨u', r', ?_⟩
    rcases q with q | ⟨k, c', e, z'⟩
    ·exact .inl q
    ·refine .inr ⟨k, c', e, z'.sameBut hs ?_⟩
     rintro rfl
     exact hj (qFf hN e1 (I.ok.inj _ _ _ e hc ▸ hi))
  ·by_cases hcc : c' = c
   ·subst hcc; exact ⟨_, hc'⟩
   ·obtain ⟨w2, z2⟩ := I.cell y c' e
    exact ⟨w2, z2.sameBut hs hcc⟩
  ·obtain ⟨e, n, ne, nf, d⟩ := I.pin p hp
   refine ⟨(hs.2 p.1 ?_).trans e, n, ne, nf, d⟩
   intro q
   rw [q, hoc] at e
   have q' : oc = p.2 := Option.some.inj e
   exact d w' (by rw [<- q']; exact hocd)
theorem qDk {M : Model} {A : Around} {E : Value -> Shared -> Prop} {i : Nat} {x : Str} {v : V} {u : Value} {Q : Unit -> Shared -> Prop} (I : Inv X pins σ H s) (hN : X.N.Nodup) (hi : X.N[i]? = some x) (hx : Loc X.env.scope x) (r : RelV v u)
  (h : ∀ s', Inv X pins (σ.set i (some v)) H s' -> Q () s') (hf : X.fn x = true \/ X.env.scope.names.lookup x = some .local := by first | exact .inl rfl | exact .inr rfl | assumption) : wpAny M A (storeName X.env x u) Q E s :=
 qDt I hN hi hx r (fun s' I' _ => h s' I') hf
theorem Inv.call' {s' : Shared} {ch : List Addr} (I : Inv X pins σ H s) (ho : s'.os = s.os) (u : Un (frs X.stack) ch H H' s.heap s'.heap) (hok : HOk X.prog X.w H' s'.heap) (hg : AllBare s'.gens)
  (hch : ∀ b ∈ ch, (b ∈ X.ex \/ X.s₀.heap.objs.size <= b) /\ b ≠ X.env.locals /\ (∀ x c, X.env.cells.lookup x = some c -> c ≠ b) /\ ∀ p ∈ X.pn ++ pins, p.1 ≠ b) : Inv X pins σ H' s' := by
 obtain ⟨h', g', d', t', o'⟩ := s'
 have e : o' = s.os := ho
 subst e
 exact I.call (g' := g') (t' := t') (d' := d') u hok hg hch
end
abbrev XK := Value -> Option Addr -> Hp -> Prop
abbrev St := List (Option V)
abbrev VK := V -> Hp -> Prop
abbrev TE := St -> Hp -> VK -> Prop
abbrev TT := St -> Hp -> (Bool -> Hp -> Prop) -> Prop
abbrev TA := St -> Hp -> (List V -> Hp -> Prop) -> Prop
structure Ends where
 nx : St -> Hp -> Prop
 rt : VK
 bk : St -> Hp -> Prop := fun _ _ => False
 ct : St -> Hp -> Prop := fun _ _ => False
abbrev TS := Ends -> St -> Hp -> Prop
def EP (X : Cx) (pins : List (Addr × Obj)) (σ : St) (Q : VK) (u : Value) (s' : Shared) : Prop := ∃ v H', Inv X pins σ H' s' /\ RelV v u /\ Q v H'
def TP (X : Cx) (pins : List (Addr × Obj)) (σ : St) (Q : Bool -> Hp -> Prop) (b : Bool) (s' : Shared) : Prop := ∃ H', Inv X pins σ H' s' /\ Q b H'
def AP (X : Cx) (pins : List (Addr × Obj)) (σ : St) (Q : List V -> Hp -> Prop) (us : List Value) (s' : Shared) : Prop := ∃ vs H', Inv X pins σ H' s' /\ Vals vs us /\ Q vs H'
def SP (X : Cx) (pins : List (Addr × Obj)) (D : Ends) (f : Flow) (s' : Shared) : Prop :=
 match f with
 | .next => ∃ σ' H', Inv X pins σ' H' s' /\ D.nx σ' H'
 | .brk => ∃ σ' H', Inv X pins σ' H' s' /\ D.bk σ' H'
 | .cont => ∃ σ' H', Inv X pins σ' H' s' /\ D.ct σ' H'
 | .ret u => ∃ v σ' H', Inv X pins σ' H' s' /\ RelV v u /\ D.rt v H'
def PE (X : Cx) (e : Expr) (t : TE) : Prop :=
 ∀ (pins : List (Addr × Obj)) (s : Shared) (σ : St) (H : Hp) (Q : VK), Inv X pins σ H s -> t σ H Q -> wpAny (model X.prog X.w) X.A (eval e X.env) (EP X pins σ Q) X.xe s
def PT (X : Cx) (e : Expr) (t : TT) : Prop :=
 ∀ (pins : List (Addr × Obj)) (s : Shared) (σ : St) (H : Hp) (Q : Bool -> Hp -> Prop), Inv X pins σ H s -> t σ H Q -> wpAny (model X.prog X.w) X.A (isTrue e X.env (eval e X.env)) (TP X pins σ Q) X.xe s
def PW (X : Cx) (e : Expr) (t : TT) : Prop :=
 ∀ (whole : Sem Value) (pins : List (Addr × Obj)) (s : Shared) (σ : St) (H : Hp) (Q : Bool -> Hp -> Prop), Inv X pins σ H s -> t σ H Q -> wpAny (model X.prog X.w) X.A (isTrue e X.env whole) (TP X pins σ Q) X.xe s
theorem PW.pt {X : Cx} {e : Expr} {t : TT} (h : PW X e t) : PT X e t := h _
def PA (X : Cx) (es : List Expr) (t : TA) : Prop :=
 ∀ (pos : Pos) (pins : List (Addr × Obj)) (s : Shared) (σ : St) (H : Hp) (Q : List V -> Hp -> Prop), Inv X pins σ H s -> t σ H Q -> wpAny (model X.prog X.w) X.A (spliced (backTo pos (starEach es X.env))) (AP X pins σ Q) X.xe s
def PS (X : Cx) (st : Stmt) (t : TS) : Prop :=
 ∀ (pins : List (Addr × Obj)) (s : Shared) (σ : St) (H : Hp) (D : Ends), Inv X pins σ H s -> t D σ H -> wpAny (model X.prog X.w) X.A (exec st X.env) (SP X pins D) X.xe s
def PSs (X : Cx) (st : List Stmt) (t : TS) : Prop :=
 ∀ (pins : List (Addr × Obj)) (s : Shared) (σ : St) (H : Hp) (D : Ends), Inv X pins σ H s -> t D σ H -> wpAny (model X.prog X.w) X.A (execs st X.env) (SP X pins D) X.xe s
theorem thn {α : Type} {t : Sem α} {Q Q' : α -> Shared -> Prop} {M : Model} {A : Around} {E : Value -> Shared -> Prop} {s : Shared} (h : wpAny M A t Q E s) (hQ : ∀ a s, Q a s -> Q' a s) : wpAny M A t Q' E s := wpAny_mono h hQ fun _ _ x => x
end L2
namespace L2
open PySem PySem.Spec PyProof.Rows
section
variable {X : Cx}
def tVar (i : Nat) : TE := fun σ H Q => ∃ v, σ[i]? = some (some v) /\ Q v H
def tC (v : V) : TE := fun _ H Q => Q v H
theorem pe_var {i : Nat} {x : Str} {pos : Pos} (hN : X.N[i]? = some x) (hv : Vis X.env.scope x) (hd : (x == ("__debug__" : Str)) = false := by decide) (hcd : (x == ("__classdict__" : Str)) = false := by decide) : PE X (.Name x pos) (tVar i) := by
 intro pins s σ H Q I h
 obtain ⟨v, e, h⟩ := h
 obtain ⟨m, hn, hl⟩ := I.loc
 obtain ⟨u, r, l⟩ := hl i x v hN e hv
 have fin : EP X pins σ Q u s := ⟨v, H, I, r, h⟩
 rcases l with ⟨hk, hm⟩ | ⟨hk, c, hc, hcell⟩
 ·exact wpAny_Name (wpAny_loadName_local I.ok.kind hk hn hm fin) hd
 ·rcases hk with hk | hk
  ·exact wpAny_Name (wpAny_loadName_cell I.ok.kind hk hc hcell fin) hd
  ·exact wpAny_Name (wpAny_loadName_free I.ok.kind hk hc hcell fin hcd) hd
theorem pe_int {i j pos} : PE X (.Constant (.int i) j pos) (tC (.int i)) := fun _ _ _ H _ I h => wpAny_Constant_int ⟨.int i, H, I.tok _, ⟨_, rfl⟩, h⟩
theorem pe_bl {b j pos} : PE X (.Constant (.bool b) j pos) (tC (.bl b)) := fun _ _ _ H _ I h => Constant_bool ⟨.bl b, H, I, rfl, h⟩
theorem pe_non {j pos} : PE X (.Constant .none j pos) (tC .non) := fun _ _ _ H _ I h => Constant_none ⟨.non, H, I, rfl, h⟩
def Gl (X : Cx) (x : Str) : Prop := X.env.kindOf x = some .globalImplicit
theorem ld_glob {E : Value -> Shared -> Prop} {pins : List (Addr × Obj)} {s : Shared} {σ : St} {H : Hp} {x : Str} {u : Value} {pos : Pos} {Q : Value -> Shared -> Prop} (I : Inv X pins σ H s) (hg : Gl X x) (hm : X.mg x = some u) (h : Q u s)
  (hd : (x == ("__debug__" : Str)) = false := by decide) : wpAny (model X.prog X.w) X.A (eval (.Name x pos) X.env) Q E s :=
 Calls.Name_function_global I.ok.kind hg (Calls.loadGlobal_global (by rw [I.ok.glob]; exact I.mod.glob.keeps I.bk) hm h) hd
theorem qD7 {E : Value -> Shared -> Prop} {pins : List (Addr × Obj)} {s : Shared} {σ : St} {H : Hp} {x : Str} {u : Value} {pos : Pos} {Q : Value -> Shared -> Prop} (I : Inv X pins σ H s) (hg : Gl X x) (hm : X.mg x = none) (hv : bootBuiltins x = some u) (h : Q u s)
  (hn : x ≠ "__name__" := by decide) (hd : (x == ("__debug__" : Str)) = false := by decide) : wpAny (model X.prog X.w) X.A (eval (.Name x pos) X.env) Q E s := by
 obtain ⟨mb, h1, h2⟩ := I.mod.blt
 exact Calls.Name_function_global I.ok.kind hg (Calls.loadGlobal_builtin (by rw [I.ok.glob]; exact I.mod.glob.keeps I.bk) hm (by rw [I.ok.blt]; exact h1.keeps I.bk) ((h2 x hn).trans hv) h) hd
theorem pe_glob {x : Str} {v : V} {u : Value} {pos : Pos} (hg : Gl X x) (hm : X.mg x = some u) (r : RelV v u) (hd : (x == ("__debug__" : Str)) = false := by decide) : PE X (.Name x pos) (tC v) :=
 fun _ _ _ H _ I h => ld_glob I hg hm ⟨v, H, I, r, h⟩ hd
theorem pe_bltn {x : Str} {v : V} {u : Value} {pos : Pos} (hg : Gl X x) (hm : X.mg x = none) (hv : bootBuiltins x = some u) (r : RelV v u) (hn : x ≠ "__name__" := by decide) (hd : (x == ("__debug__" : Str)) = false := by decide) : PE X (.Name x pos) (tC v) :=
 fun _ _ _ H _ I h => qD7 I hg hm hv ⟨v, H, I, r, h⟩ hn hd
variable {a b : Expr} {ta tb : TE} {pos : Pos}
def tB (t : TE) : TT := fun σ H Q => t σ H fun x H1 => ∃ c, x = .bl c /\ Q c H1
theorem pt_val {e : Expr} {t : TE} (h : PE X e t) (he : ∀ whole, isTrue e X.env whole = (do let v <- whole; standAt e.pos; holding [v] (truthy v)) := by intro _; rfl) : PT X e (tB t) := by
 intro pins s σ H Q I hw
 refine isTrue_plain (thn (h pins s σ H _ I hw) fun v s1 ⟨x, H1, I1, r1, q1⟩ => ?_) (he _)
 obtain ⟨d, rfl, q⟩ := q1
 cases r1
 exact wpAny_truthy_bool ⟨H1, I1, q⟩
variable {tA tB' : TT} {rest : List Expr}
def tAnd (t u : TT) : TT := fun σ H Q => t σ H fun c H1 => if c = true then u σ H1 Q else Q false H1
def tOr (t u : TT) : TT := fun σ H Q => t σ H fun c H1 => if c = true then Q true H1 else u σ H1 Q
def tNot (t : TT) : TT := fun σ H Q => t σ H fun c H1 => Q (!c) H1
theorem pw_and1 (ha : PT X a tA) : PW X (.BoolOp .And [a] pos) tA := by
 intro wh pins s σ H Q I h
 refine isTrue_and (thn (ha pins s σ H Q I h) fun c s1 e => ?_)
 cases c with
 | true => exact isTrue_and_nil e
 | false => exact e
theorem pw_or1 (ha : PT X a tA) : PW X (.BoolOp .Or [a] pos) tA := by
 intro wh pins s σ H Q I h
 refine isTrue_or (thn (ha pins s σ H Q I h) fun c s1 e => ?_)
 cases c with
 | false => exact isTrue_or_nil e
 | true => exact e
theorem pw_and (ha : PT X a tA) (hb : PW X (.BoolOp .And (b :: rest) pos) tB') : PW X (.BoolOp .And (a :: b :: rest) pos) (tAnd tA tB') := by
 intro wh pins s σ H Q I h
 refine isTrue_and (thn (ha pins s σ H _ I h) fun c s1 ⟨H1, I1, q1⟩ => ?_)
 cases c with
 | true => exact hb wh pins s1 σ H1 Q I1 q1
 | false => exact ⟨H1, I1, q1⟩
theorem pw_or (ha : PT X a tA) (hb : PW X (.BoolOp .Or (b :: rest) pos) tB') : PW X (.BoolOp .Or (a :: b :: rest) pos) (tOr tA tB') := by
 intro wh pins s σ H Q I h
 refine isTrue_or (thn (ha pins s σ H _ I h) fun c s1 ⟨H1, I1, q1⟩ => ?_)
 cases c with
 | true => exact ⟨H1, I1, q1⟩
 | false => exact hb wh pins s1 σ H1 Q I1 q1
theorem pt_not (ha : PT X a tA) : PT X (.UnaryOp .Not a pos) (tNot tA) := by
 intro pins s σ H Q I h
 exact isTrue_not (ha pins s σ H (fun c H1 => Q (!c) H1) I h)
def tAndV (ta tb : TE) : TE := fun σ H Q => ta σ H fun x H1 => ∃ c, x = .bl c /\ if c = true then tb σ H1 Q else Q (.bl false) H1
def tNotV (ta : TE) : TE := fun σ H Q => ta σ H fun x H1 => ∃ c, x = .bl c /\ Q (.bl (!c)) H1
theorem pe_one {op} {t : TE} (h : PE X a t) : PE X (.BoolOp op [a] pos) t := fun pins s σ H Q I hw => BoolOp_one (h pins s σ H Q I hw)
theorem pe_and (ha : PE X a ta) (hb : PE X (.BoolOp .And (b :: rest) pos) tb) : PE X (.BoolOp .And (a :: b :: rest) pos) (tAndV ta tb) := by
 intro pins s σ H Q I h
 refine BoolOp_and (thn (ha pins s σ H _ I h) fun v s1 ⟨x, H1, I1, r1, q1⟩ => ?_)
 obtain ⟨c, rfl, q1⟩ := q1
 cases r1
 refine wpAny_truthy_bool ?_
 cases c with
 | true => exact hb pins s1 σ H1 Q I1 q1
 | false => exact ⟨.bl false, H1, I1, rfl, q1⟩
theorem pe_not (ha : PE X a ta) : PE X (.UnaryOp .Not a pos) (tNotV ta) := by
 intro pins s σ H Q I h
 refine UnaryOp_ (thn (ha pins s σ H _ I h) fun v s1 ⟨x, H1, I1, r1, q1⟩ => ?_)
 obtain ⟨c, rfl, q1⟩ := q1
 cases r1
 exact not_of (wpAny_truthy_bool ⟨.bl (!c), H1, I1, rfl, q1⟩)
def tIf (t : TT) (ta tb : TE) : TE := fun σ H Q => t σ H fun c H1 => if c = true then ta σ H1 Q else tb σ H1 Q
theorem pe_ifExp {c : Expr} (hc : PT X c tA) (ha : PE X a ta) (hb : PE X b tb) : PE X (.IfExp c a b pos) (tIf tA ta tb) := by
 intro pins s σ H Q I h
 refine wpAny_IfExp (thn (hc pins s σ H _ I h) fun d s1 ⟨H1, I1, q1⟩ => ?_)
 cases d with
 | true => exact ha pins s1 σ H1 Q I1 q1
 | false => exact hb pins s1 σ H1 Q I1 q1
end
end L2
namespace L2
open PySem PySem.Spec PyProof.Rows
def SqL (K : PySem.W.Frag) (H : Hp) (a : Addr) (xs : List V) : Prop :=
 Rd H a (.lst xs) \/
  ∃ (o : Obj) (its : Array Value) (n : Nat), K.lookup a = some o /\ o.cls = .type "list" /\ o.dict = none /\ o.data = .seq its n /\ its.size <= sizeLine /\ Vals xs its.toList
def SqT (K : PySem.W.Frag) (H : Hp) (a : Addr) (xs : List V) : Prop :=
 Rd H a (.tup xs) \/
  ∃ (o : Obj) (its : Array Value) (n : Nat), K.lookup a = some o /\ o.cls = .type "tuple" /\ o.data = .seq its n /\ its.size <= sizeLine /\ Vals xs its.toList
def absV : Value -> Option V
 | .none => some .non
 | .bool b => some (.bl b)
 | .int i _ => some (.int i)
 | .str x _ => some (.str x)
 | .bytes b _ => some (.byt b)
 | .float b _ => some (.flt b)
 | .ref a => some (.ref a)
 | .type n => some (.ty n)
 | _ => none
theorem RelV.abs {x : V} {u : Value} (r : RelV x u) : absV u = some x := by
 cases x with
 | non => cases r; rfl
 | bl _ => cases r; rfl
 | int _ => obtain ⟨t, rfl⟩ := r; rfl
 | str _ => obtain ⟨t, rfl⟩ := r; rfl
 | byt _ => obtain ⟨t, rfl⟩ := r; rfl
 | flt _ => obtain ⟨t, rfl⟩ := r; rfl
 | ref _ => cases r; rfl
 | ty _ => cases r; rfl
theorem RelV.inj {x y : V} {u : Value} (r : RelV x u) (q : RelV y u) : x = y := Option.some.inj (r.abs.symm.trans q.abs)
theorem Vals.inj : ∀ {xs ys : List V} {us : List Value}, Vals xs us -> Vals ys us -> xs = ys
 | _, _, _, .nil, .nil => rfl
 | _, _, _, .cons r t, .cons r' t' => by rw [r.inj r', Vals.inj t t']
section
variable {X : Cx} {pins : List (Addr × Obj)} {σ : St} {H : Hp} {s : Shared} {a : Addr} {xs ys : List V}
theorem SqL.of {K : PySem.W.Frag} (h : H a = some (.lst xs)) : SqL K H a xs := .inl (.inl h)
theorem SqT.of {K : PySem.W.Frag} (h : H a = some (.tup xs)) : SqT K H a xs := .inl (.inl h)
theorem Inv.list (I : Inv X pins σ H s) (h : SqL X.K H a xs) : ∃ its : List Value, Vals xs its /\ PlainL s.heap a its.toArray /\ xs.length <= sizeLine := by
 rcases h with h | ⟨o, its, n, hk, hc, hd, hs, hz, r⟩
 ·obtain ⟨z, its, n, r, e⟩ := h.ok I.hok
  exact ⟨its, r, ⟨_, n, e, rfl, rfl, rfl⟩, z⟩
 ·refine ⟨its.toList, r, ⟨o, n, I.kIn a o hk, hc, hd, by simpa using hs⟩, ?_⟩
  have e := r.length
  simp only [Array.length_toList] at e
  omega
theorem Inv.tuple (I : Inv X pins σ H s) (h : SqT X.K H a xs) : ∃ its : List Value, Vals xs its /\ IsTup s.heap a its.toArray /\ xs.length <= sizeLine := by
 rcases h with h | ⟨o, its, n, hk, hc, hs, hz, r⟩
 ·obtain ⟨z, its, r, p⟩ := h.ok I.hok
  exact ⟨its, r, p, z⟩
 ·refine ⟨its.toList, r, ⟨o, I.kIn a o hk, hc, n, by simpa using hs⟩, ?_⟩
  have e := r.length
  simp only [Array.length_toList] at e
  omega
theorem Inv.list_inj (I : Inv X pins σ H s) (h : SqL X.K H a xs) (h' : SqL X.K H a ys) : xs = ys := by
 obtain ⟨its, r, ⟨o, n, e, _, _, d⟩, _⟩ := I.list h
 obtain ⟨its', r', ⟨o', n', e', _, _, d'⟩, _⟩ := I.list h'
 rw [e] at e'; cases e'
 rw [d] at d'
 injection d' with d1 _
 have : its = its' := by simpa using congrArg Array.toList d1
 subst this
 exact r.inj r'
theorem Inv.tuple_inj (I : Inv X pins σ H s) (h : SqT X.K H a xs) (h' : SqT X.K H a ys) : xs = ys := by
 obtain ⟨its, r, ⟨o, e, _, n, d⟩, _⟩ := I.tuple h
 obtain ⟨its', r', ⟨o', e', _, n', d'⟩, _⟩ := I.tuple h'
 rw [e] at e'; cases e'
 rw [d] at d'
 injection d' with d1 _
 have : its = its' := by simpa using congrArg Array.toList d1
 subst this
 exact r.inj r'
end
abbrev Cx.wish (X : Cx) (E : Value -> Shared -> Prop) : Cx := { X with xe := E }
abbrev Cx.nox (X : Cx) : Cx := X.wish fun _ _ => False
theorem Cx.Ok.wish {X : Cx} (ok : X.Ok) (E : Value -> Shared -> Prop) : (X.wish E).Ok :=
 ⟨ok.mod, ok.kind, ok.glob, ok.blt, ok.above, ok.inj, ok.has, ok.cab, ok.hd, ok.frames, ok.stk, ok.exf, ok.bs, ok.bsz, ok.noex, ok.exfs, ok.funs, ok.frf⟩
theorem Cx.Ok.unwish {X : Cx} {E : Value -> Shared -> Prop} (ok : (X.wish E).Ok) : X.Ok :=
 ⟨ok.mod, ok.kind, ok.glob, ok.blt, ok.above, ok.inj, ok.has, ok.cab, ok.hd, ok.frames, ok.stk, ok.exf, ok.bs, ok.bsz, ok.noex, ok.exfs, ok.funs, ok.frf⟩
section
variable {X : Cx} {pins : List (Addr × Obj)} {σ : St} {H : Hp} {s : Shared} {E : Value -> Shared -> Prop}
theorem Inv.wish (I : Inv X pins σ H s) (E : Value -> Shared -> Prop) : Inv (X.wish E) pins σ H s := ⟨I.ok.wish E, I.os, I.bare, I.base, I.loc, I.cell, I.free, I.freeC, I.pin, I.hok, I.len⟩
theorem Inv.unwish (I : Inv (X.wish E) pins σ H s) : Inv X pins σ H s := ⟨I.ok.unwish, I.os, I.bare, I.base, I.loc, I.cell, I.free, I.freeC, I.pin, I.hok, I.len⟩
theorem SP.unwish {D : Ends} {f : Flow} {s' : Shared} (h : SP (X.wish E) pins D f s') : SP X pins D f s' := by
 cases f with
 | next => obtain ⟨σ', H', I, q⟩ := h; exact ⟨σ', H', I.unwish, q⟩
 | brk => obtain ⟨σ', H', I, q⟩ := h; exact ⟨σ', H', I.unwish, q⟩
 | cont => obtain ⟨σ', H', I, q⟩ := h; exact ⟨σ', H', I.unwish, q⟩
 | ret u => obtain ⟨v, σ', H', I, r, q⟩ := h; exact ⟨v, σ', H', I.unwish, r, q⟩
theorem PE.nox {e : Expr} {t : TE} (h : PE X.nox e t) : PE X e t := fun pins s σ H Q I hw =>
 wpAny_mono (h pins s σ H Q (I.wish _) hw) (fun _ _ ⟨v, H', I', r, q⟩ => ⟨v, H', I'.unwish, r, q⟩) fun _ _ z => False.elim z
theorem PT.nox {e : Expr} {t : TT} (h : PT X.nox e t) : PT X e t := fun pins s σ H Q I hw =>
 wpAny_mono (h pins s σ H Q (I.wish _) hw) (fun _ _ ⟨H', I', q⟩ => ⟨H', I'.unwish, q⟩) fun _ _ z => False.elim z
theorem PSs.nox {st : List Stmt} {t : TS} (h : PSs X.nox st t) : PSs X st t := fun pins s σ H D I hw =>
 wpAny_mono (h pins s σ H D (I.wish _) hw) (fun _ _ q => q.unwish) fun _ _ z => False.elim z
end
section
variable {X : Cx} {st : Stmt} {rest : List Stmt} {t u : TS} {e : Expr} {te : TE} {pos : Pos}
def tNext : TS := fun D σ H => D.nx σ H
def tSeq (t u : TS) : TS := fun D σ H => t { D with nx := u D } σ H
theorem pss_nil : PSs X [] tNext := fun _ _ σ H _ I h => wpAny_execs_nil ⟨σ, H, I, h⟩
theorem pss_cons (h1 : PS X st t) (h2 : PSs X rest u) : PSs X (st :: rest) (tSeq t u) := by
 intro pins s σ H D I h
 refine wpAny_execs_cons (thn (h1 pins s σ H { D with nx := u D } I h) fun f s1 q => ?_)
 cases f with
 | next =>
  obtain ⟨σ', H', I', q⟩ := q
  exact h2 pins s1 σ' H' D I' q
 | ret v => exact q
 | brk => exact q
 | cont => exact q
theorem pss_one (h1 : PS X st t) : PSs X [st] t := by
 intro pins s σ H D I h
 refine wpAny_execs_cons (thn (h1 pins s σ H D I h) fun f s1 q => ?_)
 cases f with
 | next => exact wpAny_execs_nil q
 | ret v => exact q
 | brk => exact q
 | cont => exact q
theorem Inv.quiet {pins : List (Addr × Obj)} {σ : St} {H : Hp} {s : Shared} (I : Inv X pins σ H s) : interactive X.env = false := by simp [interactive, I.ok.kind]
def tDrop (te : TE) : TS := fun D σ H => te σ H fun _ H1 => D.nx σ H1
theorem ps_expr (he : PE X e te) (hs : swapsWith e none pos.line X.env = pure false := by rfl) : PS X (.Expr e pos) (tDrop te) := by
 intro pins s σ H D I h
 exact wpAny_Expr_any (thn (he pins s σ H _ I h) fun v s1 ⟨x, H1, I1, r1, q1⟩ => ⟨σ, H1, I1, q1⟩) I.quiet hs
def tRet (te : TE) : TS := fun D σ H => te σ H D.rt
theorem ps_ret (he : PE X e te) : PS X (.Return (some e) pos) (tRet te) := by
 intro pins s σ H D I h
 exact wpAny_Return_some (thn (he pins s σ H _ I h) fun v s1 ⟨x, H1, I1, r1, q1⟩ => ⟨x, σ, H1, I1, r1, q1⟩)
def tIfS (c : TT) (t u : TS) : TS := fun D σ H => c σ H fun b H1 => if b = true then t D σ H1 else u D σ H1
theorem ps_if {c : Expr} {a b : List Stmt} {tc : TT} (hc : PT X c tc) (ha : PSs X a t) (hb : PSs X b u) : PS X (.If c a b pos) (tIfS tc t u) := by
 intro pins s σ H D I h
 refine wpAny_If (thn (hc pins s σ H _ I h) fun d s1 ⟨H1, I1, q1⟩ => ?_)
 cases d with
 | true => exact ha pins s1 σ H1 D I1 q1
 | false => exact hb pins s1 σ H1 D I1 q1
def tNever : TS := fun _ _ _ => False
theorem ps_never : PS X st tNever := fun _ _ _ _ _ _ h => h.elim
end
abbrev TG := V -> St -> Hp -> (St -> Hp -> Prop) -> Prop
abbrev TGs := List V -> St -> Hp -> (St -> Hp -> Prop) -> Prop
def PG (X : Cx) (target : Expr) (t : TG) : Prop :=
 ∀ (pins : List (Addr × Obj)) (s : Shared) (σ : St) (H : Hp) (v : V) (u : Value) (Q : St -> Hp -> Prop), Inv X pins σ H s -> RelV v u -> t v σ H Q ->
  wpAny (model X.prog X.w) X.A (assign target X.env u) (fun _ s' => ∃ σ' H', Inv X pins σ' H' s' /\ Q σ' H') X.xe s
def PGs (X : Cx) (ts : List Expr) (t : TGs) : Prop :=
 ∀ (pins : List (Addr × Obj)) (s : Shared) (σ : St) (H : Hp) (vs : List V) (us : List Value) (Q : St -> Hp -> Prop), Inv X pins σ H s -> Vals vs us -> t vs σ H Q ->
  wpAny (model X.prog X.w) X.A (assignInOrder ((assignEach ts X.env).map (·.2)) us) (fun _ s' => ∃ σ' H', Inv X pins σ' H' s' /\ Q σ' H') X.xe s
abbrev TSet := V -> V -> V -> Hp -> (Hp -> Prop) -> Prop
def PSet (X : Cx) (t : TSet) : Prop :=
 ∀ (pins : List (Addr × Obj)) (s : Shared) (σ : St) (H : Hp) (o i v : V) (ov iv u : Value) (Q : Hp -> Prop), Inv X pins σ H s -> RelV o ov -> RelV i iv -> RelV v u -> t o i v H Q ->
  wpAny (model X.prog X.w) X.A (setItem ov iv u) (fun _ s' => ∃ H', Inv X pins σ H' s' /\ Q H') X.xe s
section
variable {X : Cx} {pos : Pos}
def gName (i : Nat) : TG := fun v σ H Q => Q (σ.set i (some v)) H
theorem pg_name {i : Nat} {x : Str} (hN : X.N.Nodup) (hi : X.N[i]? = some x) (hx : Loc X.env.scope x) (hf : X.fn x = true \/ X.env.scope.names.lookup x = some .local := by first | exact .inl rfl | exact .inr rfl | assumption) : PG X (.Name x pos) (gName i) := by
 intro pins s σ H v u Q I r h
 exact wpAny_assign_Name (qDk I hN hi hx r (fun s' I' => ⟨_, H, I', h⟩) hf)
def gNil : TGs := fun vs σ H Q => vs = [] /\ Q σ H
def gCons (t : TG) (u : TGs) : TGs := fun vs σ H Q => ∃ v r, vs = v :: r /\ t v σ H fun σ' H' => u r σ' H' Q
theorem pgs_nil : PGs X [] gNil := by
 intro pins s σ H vs us Q I r h
 obtain ⟨e, h⟩ := h
 subst e
 cases r
 exact assignInOrder_nil ⟨σ, H, I, h⟩
theorem pgs_cons {e : Expr} {es : List Expr} {t : TG} {u : TGs} (h1 : PG X e t) (h2 : PGs X es u)
  (hs : (assignEach (e :: es) X.env).map (·.2) = assign e X.env :: (assignEach es X.env).map (·.2) := by rfl) : PGs X (e :: es) (gCons t u) := by
 intro pins s σ H vs us Q I r h
 obtain ⟨v, vr, e1, h⟩ := h
 subst e1
 cases r with
 | cons r rr =>
  rw [hs]
  refine assignInOrder_cons (thn (h1 pins s σ H _ _ _ I r h) fun _ s1 ⟨σ1, H1, I1, q1⟩ => ?_)
  exact h2 pins s1 σ1 H1 _ _ Q I1 rr q1
def gTup (K : PySem.W.Frag) (n : Nat) (t : TGs) : TG := fun v σ H Q => ∃ a xs, v = .ref a /\ SqT K H a xs /\ xs.length = n /\ t xs σ H Q
theorem pg_tup {es : List Expr} {k : Nat} {t : TGs} {n : Nat} (hc : X.calm = true) (h : PGs X es t)
  (hn : (assignEach es X.env).length = n := by rfl) (hst : (assignEach es X.env).findIdx? (·.1) = none := by rfl) : PG X (.Tuple es k pos) (gTup X.K n t) := by
 intro pins s σ H v u Q I r hw
 obtain ⟨a, xs, e1, hq, hl, hw⟩ := hw
 subst e1
 cases r
 obtain ⟨its, rv, ht, hz⟩ := I.tuple hq
 refine assign_Tuple_tuple (I.ok.hd hc) ht (by simp [hn, <- hl, rv.length]) hst fun h' hx => ?_
 have I1 : Inv X pins σ H { s with heap := h' } := I.kept (t' := s.toks) fun b o e => hx b o (jAf (jAc e)) e
 exact h pins _ σ H xs _ Q I1 (by simpa using rv) hw
def gSub (to ti : TE) (t : TSet) : TG := fun v σ H Q => to σ H fun o H1 => ti σ H1 fun i H2 => t o i v H2 fun H3 => Q σ H3
theorem pg_sub {o i : Expr} {to ti : TE} {t : TSet} (ho : PE X o to) (hi : PE X i ti) (hs : PSet X t)
  (ha : ∀ v, assign (.Subscript o i pos) X.env v = (do
   let ov <- holding [v] (eval o X.env)
   let iv <- holding [v, ov] (eval i X.env)
   standAt pos
   holding [v, ov, iv] (setItem ov iv v)
   release [v, ov, iv] []) := by intro _; rfl) : PG X (.Subscript o i pos) (gSub to ti t) := by
 intro pins s σ H v u Q I r h
 rw [ha]
 refine wpAny_bind (wpAny_holding (thn (ho pins s σ H _ I h) fun ov s1 ⟨x, H1, I1, r1, q1⟩ => ?_))
 refine wpAny_bind (wpAny_holding (thn (hi pins s1 σ H1 _ I1 q1) fun iv s2 ⟨y, H2, I2, r2, q2⟩ => ?_))
 refine wpAny_bind (wpAny_standAt (wpAny_bind (wpAny_holding (thn (hs pins s2 σ H2 x y v ov iv u _ I2 r1 r2 r q2) fun _ s3 ⟨H3, I3, q3⟩ => ?_))))
 exact wpAny_release ⟨σ, H3, I3, q3⟩
def tAsg (te : TE) (g : TG) : TS := fun D σ H => te σ H fun x H1 => g x σ H1 D.nx
theorem ps_asg {tg e : Expr} {te : TE} {g : TG} (he : PE X e te) (hg : PG X tg g) (hs : swapsWithSole [tg] e pos.line X.env = pure false := by rfl) (hw : swappedStores [tg] e X.env = pure none := by rfl)
  (h1 : (assignEach [tg] X.env).map (·.2) = [assign tg X.env] := by rfl) : PS X (.Assign [tg] e pos) (tAsg te g) := by
 intro pins s σ H D I h
 refine wpAny_Assign_stores (thn (he pins s σ H _ I h) fun v s1 ⟨x, H1, I1, r1, q1⟩ => ?_) hs hw
 rw [h1]
 exact thn (hg pins s1 σ H1 x v _ I1 r1 q1) fun _ s2 q => q
theorem ps_set {i : Nat} {x : Str} {e : Expr} {te : TE} {pos' : Pos} (hN : X.N.Nodup) (hi : X.N[i]? = some x) (hx : Loc X.env.scope x) (he : PE X e te) (hs : swapsWith e (some (.Name x pos')) pos.line X.env = pure false := by rfl) (hf : X.fn x = true \/ X.env.scope.names.lookup x = some .local := by first | exact .inl rfl | exact .inr rfl | assumption) :
  PS X (.Assign [.Name x pos'] e pos) (tAsg te (gName i)) := by
 intro pins s σ H D I h
 refine wpAny_Assign_Name (thn (he pins s σ H _ I h) fun v s1 ⟨y, H1, I1, r1, q1⟩ => ?_) hs
 exact qDk I1 hN hi hx r1 (fun s2 I2 => ⟨_, H1, I2, q1⟩) hf
def tPar (i j : Nat) (ta : TA) : TS := fun D σ H => ta σ H fun vs H1 => ∃ v w, vs = [v, w] /\ D.nx ((σ.set i (some v)).set j (some w)) H1
theorem ps_par {i j : Nat} {x y : Str} {a b : Expr} {ta : TA} {px py pt : Pos} {kt k2 pt2} (hc : X.calm = true) (hN : X.N.Nodup) (hi : X.N[i]? = some x) (hj : X.N[j]? = some y) (hij : i ≠ j)
  (hx : X.env.scope.names.lookup x = some .local) (hy : X.env.scope.names.lookup y = some .local) (ha : PA X [a, b] ta)
  (hw : swappedStores [.Tuple [.Name x px, .Name y py] kt pt] (.Tuple [a, b] k2 pt2) X.env = pure (some [x, y]))
  (hs : swapsWithSole [.Tuple [.Name x px, .Name y py] kt pt] (.Tuple [a, b] k2 pt2) pos.line X.env = pure false := by rfl) :
  PS X (.Assign [.Tuple [.Name x px, .Name y py] kt pt] (.Tuple [a, b] k2 pt2) pos) (tPar i j ta) := by
 intro pins s σ H D I h
 rw [exec_Assign_arm]
 refine wpAny_bind (wpAny_standAt ?_)
 rw [hs]
 refine wpAny_bind (wpAny_pure ?_)
 rw [if_neg (by decide)]
 refine wpAny_bind (Tuple_ (thn (ha _ pins s σ H _ I h) fun us s1 ⟨vs, H1, I1, r1, q1⟩ => ?_))
 obtain ⟨v, w, e1, q1⟩ := q1
 subst e1
 obtain ⟨u1, u2, rfl, rv, rw'⟩ : ∃ u1 u2, us = [u1, u2] /\ RelV v u1 /\ RelV w u2 := by
  cases r1 with
  | cons p q =>
   cases q with
   | cons p' q' =>
    cases q'
    exact ⟨_, _, rfl, p, p'⟩
 refine wpAny_newObj_type ?_ (by show 2 <= sizeLine; decide)
 have I2 : Inv X pins σ H1 { s1 with heap := s1.heap.push { cls := .type "tuple", data := .seq [u1, u2].toArray } } := I1.kept (t' := s1.toks) fun b o e => jAu _ e
 rw [hw]
 refine wpAny_bind (wpAny_pure ?_)
 show wpAny (model X.prog X.w) X.A (do rule "assign.swapped-stores"; let items <- unpackItems (.ref s1.heap.objs.size) 2 none; assignInOrder [fun v => bindName X.env y v, fun v => bindName X.env x v] items.reverse; pure Flow.next) _ _ _
 refine wpAny_bind (wpAny_rule (wpAny_bind (unpackItems_tuple (items := #[u1, u2]) (I.ok.hd hc) (IsTup.new s1.heap _) fun h' hx' => ?_)))
 have I3 := I2.kept (h' := h') (t' := s1.toks) fun b o e => hx' b o (jAf (jAc e)) e
 show wpAny _ _ (assignInOrder [fun v => bindName X.env y v, fun v => bindName X.env x v] [u2, u1] >>= fun _ => pure Flow.next) _ _ _
 refine wpAny_bind (assignInOrder_cons (wpAny_bindName (qDk I3 hN hj (.inl hy) rw' (fun s2 I4 => ?_) (.inr hy))))
 refine assignInOrder_cons (wpAny_bindName (qDk I4 hN hi (.inl hx) rv (fun s3 I5 => assignInOrder_nil (wpAny_pure ?_)) (.inr hx)))
 rw [List.set_comm _ _ (Ne.symm hij)] at I5
 exact ⟨_, H1, I5, q1⟩
end
section
variable {X : Cx} {pos : Pos}
def tWhile (c : TT) (tb : TS) : TS := fun D σ H => ∃ W : Nat -> St -> Hp -> Prop, (∃ m, W m σ H) /\ ∀ m σ H, W m σ H ->
 c σ H fun b H1 => if b = true then ∃ N : St -> Hp -> Prop, (∀ σ' H', N σ' H' -> ∃ m', m' < m /\ W m' σ' H') /\ tb { D with nx := N, ct := N, bk := D.nx } σ H1 else D.nx σ H1
theorem ps_while {c : Expr} {body : List Stmt} {tc : TT} {tb : TS} (hp : PassesOwn (model X.prog X.w) X.A X.env X.xe) (hc : PT X c tc) (hb : PSs X body tb) : PS X (.While c body [] pos) (tWhile tc tb) := by
 intro pins s σ H D I h
 obtain ⟨W, ⟨m0, w0⟩, turn⟩ := h
 refine wpAny_While (codeAny_whileLoop (fun n s' => ∃ σ' H', Inv X pins σ' H' s' /\ W n σ' H') ?_ m0 ⟨σ, H, I, w0⟩)
 rintro n s1 ⟨σ1, H1, I1, w1⟩
 refine wpAny_passesOwn hp (thn (hc pins s1 σ1 H1 _ I1 (turn n σ1 H1 w1)) fun b s2 ⟨H2, I2, q2⟩ => ?_)
 cases b with
 | true =>
  obtain ⟨N, hN, q2⟩ := q2
  rw [if_pos rfl]
  refine wpAny_passesOwn hp (thn (hb pins s2 σ1 H2 _ I2 q2) fun f s3 q3 => ?_)
  cases f with
  | next =>
   obtain ⟨σ3, H3, I3, n3⟩ := q3
   obtain ⟨m', hm, w3⟩ := hN σ3 H3 n3
   exact ⟨m', hm, σ3, H3, I3, w3⟩
  | cont =>
   obtain ⟨σ3, H3, I3, n3⟩ := q3
   obtain ⟨m', hm, w3⟩ := hN σ3 H3 n3
   exact ⟨m', hm, σ3, H3, I3, w3⟩
  | brk => exact q3
  | ret v => exact q3
 | false =>
  rw [if_neg Bool.false_ne_true]
  exact wpAny_execs_nil ⟨σ1, H2, I2, q2⟩
end
structure It where
 go : Nat -> Hp -> Prop
 yld : Nat -> Hp -> V -> Hp -> Prop
 stop : Nat -> Hp -> Prop
def FpOk (X : Cx) (pins : List (Addr × Obj)) (H : Hp) (b : Addr) : Prop :=
 H b = none /\ b ≠ X.env.locals /\ b ∉ X.fs /\ (b ∈ X.ex \/ X.s₀.heap.objs.size <= b) /\ (∀ x c, X.env.cells.lookup x = some c -> c ≠ b) /\ ∀ p ∈ X.pn ++ pins, p.1 ≠ b
theorem Inv.fpOk {X : Cx} {pins : List (Addr × Obj)} {σ : St} {H H' : Hp} {s : Shared} {b : Addr} (I : Inv X pins σ H s) (hb : s.heap.objs.size <= b) (hn : H' b = none) : FpOk X pins H' b := by
 refine ⟨hn, jAv (jAd I.lt hb), I.nofs hb, .inr (jAj I.sz hb), fun x c e z => ?_, fun p hp z => ?_⟩
 ·obtain ⟨v, q⟩ := I.cell x c e
  exact absurd (jAd q.lt (by rw [z]; exact hb)) (jAe _)
 ·exact absurd (jAd (jAc (I.pin p hp).1) (by rw [z]; exact hb)) (jAe _)
structure Turn (P : Program) (w : World) (K : PySem.W.Frag) (tg : Expr) (J : It) (fp : List Addr) (it : Addr) (tn : Nat -> Heap -> Prop) : Prop where
 mem : it ∈ fp
 obj : ∀ i h, tn i h -> ∀ b ∈ fp, ∃ o, h.get? b = some o /\ ∀ v, o.data ≠ .cell v
 keep : ∀ i h h', tn i h -> (∀ b ∈ fp, ∀ o, h.get? b = some o -> h'.get? b = some o) -> tn i h'
 item : ∀ (X : Cx), X.prog = P -> X.w = w -> X.K = K -> X.calm = true -> ∀ (i : Nat) (pins : List (Addr × Obj)) (s : Shared) (σ : St) (H : Hp) (E : Value -> Shared -> Prop), Inv X pins σ H s -> (∀ b ∈ fp, FpOk X pins H b) -> tn i s.heap -> J.go i H ->
  wpAny (model P w) X.A (pyNext (.ref it)) (fun r s1 => ∃ u, r = some u /\
   wpAny (model P w) X.A (letOwnedTupleGo tg (.ref it) u) (fun _ s2 => ∃ x H', Inv X pins σ H' s2 /\ RelV x u /\ J.yld i H x H' /\ tn (i + 1) s2.heap /\ ∀ b ∈ fp, H' b = none) E s1) E s
 done : ∀ (X : Cx), X.prog = P -> X.w = w -> X.K = K -> X.calm = true -> ∀ (i : Nat) (pins : List (Addr × Obj)) (s : Shared) (σ : St) (H : Hp) (E : Value -> Shared -> Prop), Inv X pins σ H s -> (∀ b ∈ fp, FpOk X pins H b) -> tn i s.heap -> J.stop i H ->
  wpAny (model P w) X.A (pyNext (.ref it)) (fun r s1 => r = none /\ Inv X pins σ H s1) E s
 self : ∀ (A : Around) (i : Nat) (s : Shared) (Q : Value -> Shared -> Prop) (E : Value -> Shared -> Prop), tn i s.heap -> Q (.ref it) s -> wpAny (model P w) A (pyIter (.ref it)) Q E s
abbrev TI := St -> Hp -> (It -> Hp -> Prop) -> Prop
def PIE (X : Cx) (pins : List (Addr × Obj)) (σ : St) (tg : Expr) (R : It -> Hp -> Prop) (itv : Value) (s2 : Shared) : Prop :=
 ∃ (it : Addr) (fp : List Addr) (tn : Nat -> Heap -> Prop) (J : It) (H' : Hp), itv = .ref it /\ Inv X pins σ H' s2 /\ Turn X.prog X.w X.K tg J fp it tn /\ tn 0 s2.heap /\ (∀ b ∈ fp, FpOk X pins H' b) /\ R J H'
def PI (X : Cx) (tg iter : Expr) (wi : TI) : Prop :=
 ∀ (pins : List (Addr × Obj)) (s : Shared) (σ : St) (H : Hp) (R : It -> Hp -> Prop), Inv X pins σ H s -> wi σ H R ->
  wpAny (model X.prog X.w) X.A (eval iter X.env) (fun v s1 => wpAny (model X.prog X.w) X.A (pyIter v) (PIE X pins σ tg R) X.xe s1) X.xe s
theorem go_of {M : Model} {A : Around} {E : Value -> Shared -> Prop} {s : Shared} {tg : Expr} {it : Addr} {u : Value} {o : Obj} {n : String} {vs : Array Value} {Q : Unit -> Shared -> Prop} (ho : s.heap.get? it = some o) (hc : o.cls = .type n) (hd : o.data = .fields vs)
    (hn : ["enumerate", "zip", "dict_itemiterator", "dict_reverseitemiterator", "odict_iterator", "itertools.zip_longest", "itertools.pairwise"].contains n = false) (hQ : Q () s) : wpAny M A (letOwnedTupleGo tg (.ref it) u) Q E s := by
  unfold letOwnedTupleGo
  cases tg <;> first
    | exact wpAny_pure hQ
    | (cases u <;> first
        | exact wpAny_pure hQ
        | (refine wpAny_bind (wpAny_load ho ?_)
           rw [hc, hd]
           show wpAny M A (if (["enumerate", "zip", "dict_itemiterator", "dict_reverseitemiterator", "odict_iterator", "itertools.zip_longest", "itertools.pairwise"].contains n && vs[0]? == some (rawInt _)) = true then _ else _) Q E s
           rw [if_neg (by intro h; rw [hn, Bool.false_and] at h; cases h)]
           exact wpAny_pure hQ))
def Itl (K : PySem.W.Frag) (a : Addr) : It :=
 ⟨fun i H => ∃ xs x, SqL K H a xs /\ xs[i]? = some x, fun i H x H' => H' = H /\ ∀ xs, SqL K H a xs -> xs[i]? = some x, fun i H => ∃ xs, SqL K H a xs /\ xs.length <= i⟩
def Itt (K : PySem.W.Frag) (a : Addr) : It :=
 ⟨fun i H => ∃ xs x, SqT K H a xs /\ xs[i]? = some x, fun i H x H' => H' = H /\ ∀ xs, SqT K H a xs -> xs[i]? = some x, fun i H => ∃ xs, SqT K H a xs /\ xs.length <= i⟩
def Itr (lo : Int) (n : Nat) : It := ⟨fun i _ => i < n, fun i H x H' => H' = H /\ x = .int (lo + i), fun i _ => n <= i⟩
theorem turn_list {P : Program} {w : World} {K : PySem.W.Frag} {tg : Expr} (a it : Addr) : Turn P w K tg (Itl K a) [it] it (fun i h => h.IsListIter it a i) where
 mem := by simp
 obj := fun i h st b hb => by
  have e : b = it := by simpa using hb
  subst e
  obtain ⟨o, e, c, d⟩ := st
  exact ⟨o, e, fun v z => by rw [d] at z; cases z⟩
 keep := fun i h h' st k => st.at fun o e => k it (by simp) o e
 item := by
  intro X hP hw hK hc i pins s σ H E I hf st hg
  subst hP hw hK
  obtain ⟨xs, x, hq, hx⟩ := hg
  obtain ⟨its, rv, p, hz⟩ := I.list hq
  obtain ⟨u, hu, ru⟩ := rv.get hx
  obtain ⟨f0, f1, f2, f3, f4, f5⟩ := hf it (by simp)
  refine wpAny_pyNext_list_item st p.isList (x := u) (by simpa using hu) fun h' st' sb => ?_
  have I1 : Inv X pins σ H { s with heap := h' } := I.turned (t' := s.toks) (fun b o hb e => (sb.2 b hb).trans e) f0 f1 f3 f4 f5
  obtain ⟨o, e, c, d⟩ := id st'
  exact ⟨u, rfl, go_of (s := { s with heap := h' }) e c d (by decide) ⟨x, H, I1, ru, ⟨rfl, fun ys hy => by rw [I.list_inj hy hq]; exact hx⟩, st', fun b hb => (hf b hb).1⟩⟩
 done := by
  intro X hP hw hK hc i pins s σ H E I hf st hg
  subst hP hw hK
  obtain ⟨xs, hq, hx⟩ := hg
  obtain ⟨its, rv, p, hz⟩ := I.list hq
  obtain ⟨f0, f1, f2, f3, f4, f5⟩ := hf it (by simp)
  have hl := rv.length
  exact wpAny_pyNext_list_end (I.ok.hd hc) st p.isList (by simp; omega) fun h' eb => ⟨rfl, I.turned (t' := s.toks) (fun b o hb e => eb b o hb e) f0 f1 f3 f4 f5⟩
 self := fun _ _ _ _ _ st h => wpAny_pyIter_listiter st h
theorem turn_tuple {P : Program} {w : World} {K : PySem.W.Frag} {tg : Expr} (a it : Addr) : Turn P w K tg (Itt K a) [it] it (fun i h => h.IsTupleIter it a i) where
 mem := by simp
 obj := fun i h st b hb => by
  have e : b = it := by simpa using hb
  subst e
  obtain ⟨o, e, c, d⟩ := st
  exact ⟨o, e, fun v z => by rw [d] at z; cases z⟩
 keep := fun i h h' st k => st.at fun o e => k it (by simp) o e
 item := by
  intro X hP hw hK hc i pins s σ H E I hf st hg
  subst hP hw hK
  obtain ⟨xs, x, hq, hx⟩ := hg
  obtain ⟨its, rv, p, hz⟩ := I.tuple hq
  obtain ⟨u, hu, ru⟩ := rv.get hx
  obtain ⟨f0, f1, f2, f3, f4, f5⟩ := hf it (by simp)
  refine wpAny_pyNext_tuple_item st (show s.heap.IsTuple a its.toArray from p) (x := u) (by simpa using hu) fun h' st' sb => ?_
  have I1 : Inv X pins σ H { s with heap := h' } := I.turned (t' := s.toks) (fun b o hb e => (sb.2 b hb).trans e) f0 f1 f3 f4 f5
  obtain ⟨o, e, c, d⟩ := id st'
  exact ⟨u, rfl, go_of (s := { s with heap := h' }) e c d (by decide) ⟨x, H, I1, ru, ⟨rfl, fun ys hy => by rw [I.tuple_inj hy hq]; exact hx⟩, st', fun b hb => (hf b hb).1⟩⟩
 done := by
  intro X hP hw hK hc i pins s σ H E I hf st hg
  subst hP hw hK
  obtain ⟨xs, hq, hx⟩ := hg
  obtain ⟨its, rv, p, hz⟩ := I.tuple hq
  obtain ⟨f0, f1, f2, f3, f4, f5⟩ := hf it (by simp)
  have hl := rv.length
  exact wpAny_pyNext_tuple_end (I.ok.hd hc) st (show s.heap.IsTuple a its.toArray from p) (by simp; omega) fun h' eb => ⟨rfl, I.turned (t' := s.toks) (fun b o hb e => eb b o hb e) f0 f1 f3 f4 f5⟩
 self := fun _ _ _ _ _ st h => wpAny_pyIter_tupleiter st h
theorem turn_range {P : Program} {w : World} {K : PySem.W.Frag} {tg : Expr} (it : Addr) (lo : Int) (n : Nat) : Turn P w K tg (Itr lo n) [it] it (fun i h => IsRangeIter h it (lo + (i : Nat) * 1) ((n : Int) - (i : Nat)) 1) where
 mem := by simp
 obj := fun i h st b hb => by
  have e : b = it := by simpa using hb
  subst e
  exact ⟨_, st, fun v z => by
   have z' : Data.fields _ = Data.cell v := z
   cases z'⟩
 keep := fun i h h' st k => k it (by simp) _ st
 item := by
  intro X hP hw hK hc i pins s σ H E I hf st hg
  subst hP hw hK
  obtain ⟨f0, f1, f2, f3, f4, f5⟩ := hf it (by simp)
  have W := Walks.range (prog := X.prog) (w := X.w) (I.ok.hd hc) it lo 1 n
  refine W.item i s _ _ hg st fun v h' tk hv st' kk => ?_
  obtain ⟨t, rfl⟩ := hv
  have I1 : Inv X pins σ H { s with heap := h', toks := tk } := I.turned (fun b o hb e => kk b o (by simpa using hb) e) f0 f1 f3 f4 f5
  refine ⟨_, rfl, go_of (s := { s with heap := h', toks := tk }) (n := "range_iterator") st' rfl rfl (by decide) ⟨.int (lo + i), H, I1, ⟨t, ?_⟩, ⟨rfl, rfl⟩, st', fun b hb => (hf b hb).1⟩⟩
  rw [Int.mul_one]
 done := by
  intro X hP hw hK hc i pins s σ H E I hf st hg
  subst hP hw hK
  obtain ⟨f0, f1, f2, f3, f4, f5⟩ := hf it (by simp)
  exact wpAny_pyNext_range_end (I.ok.hd hc) st (by have : n <= i := hg; omega) fun h' eb => ⟨rfl, I.turned (t' := s.toks) (fun b o hb e => eb b o hb e) f0 f1 f3 f4 f5⟩
 self := fun _ _ _ _ _ st h => wpAny_pyIter_rangeiter st h
end L2
namespace L2
open PySem PySem.Spec PyProof.Rows
section
variable {X : Cx} {tg : Expr}
def iList (K : PySem.W.Frag) (tl : TE) : TI := fun σ H R => tl σ H fun x H1 => ∃ a, x = .ref a /\ (∃ xs, SqL K H1 a xs) /\ R (Itl K a) H1
def iTup (K : PySem.W.Frag) (tl : TE) : TI := fun σ H R => tl σ H fun x H1 => ∃ a, x = .ref a /\ (∃ xs, SqT K H1 a xs) /\ R (Itt K a) H1
theorem pi_list {l : Expr} {tl : TE} (hl : PE X l tl) : PI X tg l (iList X.K tl) := by
 intro pins s σ H R I h
 refine thn (hl pins s σ H _ I h) fun v s1 ⟨x, H1, I1, r1, q1⟩ => ?_
 obtain ⟨a, e, ⟨xs, hq⟩, q⟩ := q1
 subst e
 cases r1
 obtain ⟨its, rv, p, hz⟩ := I1.list hq
 refine wpAny_pyIter_list p.isList ?_
 refine ⟨s1.heap.objs.size, [s1.heap.objs.size], _, _, H1, rfl, I1.kept (t' := s1.toks) fun b o e => jAu _ e, turn_list a _, ⟨_, jAw _ rfl, rfl, rfl⟩, fun b hb => ?_, q⟩
 have e : b = s1.heap.objs.size := by simpa using hb
 subst e
 exact I1.fpOk (jAx _) (I1.hok.fresh (jAx _))
theorem pi_tup {l : Expr} {tl : TE} (hl : PE X l tl) : PI X tg l (iTup X.K tl) := by
 intro pins s σ H R I h
 refine thn (hl pins s σ H _ I h) fun v s1 ⟨x, H1, I1, r1, q1⟩ => ?_
 obtain ⟨a, e, ⟨xs, hq⟩, q⟩ := q1
 subst e
 cases r1
 obtain ⟨its, rv, p, hz⟩ := I1.tuple hq
 refine wpAny_pyIter_tuple (show s1.heap.IsTuple a its.toArray from p) ?_
 refine ⟨s1.heap.objs.size, [s1.heap.objs.size], _, _, H1, rfl, I1.kept (t' := s1.toks) fun b o e => jAu _ e, turn_tuple a _, ⟨_, jAw _ rfl, rfl, rfl⟩, fun b hb => ?_, q⟩
 have e : b = s1.heap.objs.size := by simpa using hb
 subst e
 exact I1.fpOk (jAx _) (I1.hok.fresh (jAx _))
theorem range_it {pins : List (Addr × Obj)} {σ : St} {H : Hp} {s : Shared} {R : It -> Hp -> Prop} {E : Value -> Shared -> Prop} {lo hi : Int} {t u v : Tok} {tk : Nat} (I : Inv X pins σ H s) (h1 : -(2 ^ 62) <= lo) (h2 : lo < 2 ^ 62) (h3 : -(2 ^ 62) <= hi) (h4 : hi < 2 ^ 62)
  (q : R (Itr lo (hi - lo).toNat) H) : wpAny (model X.prog X.w) X.A (pyIter (.ref s.heap.objs.size)) (PIE X pins σ tg R) E { s with heap := s.heap.push { cls := .type "range", data := .fields #[.int lo t, .int hi u, .int 1 v] }, toks := tk } := by
 refine wpAny_pyIter_range (IsRange.new ..) (small_one h1 h2 h3 h4) ?_
 have I1 : Inv X pins σ H { s with heap := s.heap.push { cls := .type "range", data := .fields #[.int lo t, .int hi u, .int 1 v] }, toks := tk } := I.kept fun b o e => jAu _ e
 refine ⟨(s.heap.push { cls := .type "range", data := .fields #[.int lo t, .int hi u, .int 1 v] }).objs.size, [(s.heap.push { cls := .type "range", data := .fields #[.int lo t, .int hi u, .int 1 v] }).objs.size], _, _, H, rfl,
  I1.kept (t' := tk) fun b o e => jAu _ e, turn_range _ lo (hi - lo).toNat, ?_, fun b hb => ?_, q⟩
 ·have e1 : lo + ((0 : Nat) : Int) * 1 = lo := by simp
  have e2 : (((hi - lo).toNat : Nat) : Int) - ((0 : Nat) : Int) = Builtin.Range.rangeSize lo hi 1 := by rw [rangeSize_one]; split <;> omega
  show IsRangeIter _ _ (lo + ((0 : Nat) : Int) * 1) ((((hi - lo).toNat : Nat) : Int) - ((0 : Nat) : Int)) 1
  rw [e1, e2]
  exact jAw _ rfl
 ·have e : b = (s.heap.push { cls := .type "range", data := .fields #[.int lo t, .int hi u, .int 1 v] }).objs.size := by simpa using hb
  subst e
  exact I1.fpOk (jAx _) (I1.hok.fresh (jAx _))
def iRng1 (ta : TA) : TI := fun σ H R => ta σ H fun vs H1 => ∃ j : Int, vs = [.int j] /\ -(2 ^ 62) <= j /\ j < 2 ^ 62 /\ R (Itr 0 j.toNat) H1
def iRng2 (ta : TA) : TI := fun σ H R => ta σ H fun vs H1 => ∃ i j : Int, vs = [.int i, .int j] /\ (-(2 ^ 62) <= i /\ i < 2 ^ 62 /\ -(2 ^ 62) <= j /\ j < 2 ^ 62) /\ R (Itr i (j - i).toNat) H1
theorem pi_range1 {a : Expr} {ta : TA} {p pos : Pos} (hg : Gl X "range") (hm : X.mg "range" = none) (ha : PA X [a] ta) (hs : starEach [a] X.env = [(false, eval a X.env)] := by rfl) : PI X tg (.Call (.Name "range" p) [a] [] pos) (iRng1 ta) := by
 intro pins s σ H R I h
 refine Call_ (qD7 I hg hm boot_range (PyProof.Rows.callWith_type1 (thn (ha pos pins s σ H _ I h) fun us s1 ⟨vs, H1, I1, r1, q1⟩ => ?_) hs rfl))
 obtain ⟨j, e, q1, q2, q⟩ := q1
 subst e
 cases r1 with
 | cons r rr =>
  cases rr
  obtain ⟨t, rfl⟩ := r
  exact call_range_1 (range_it I1 (by omega) (by omega) q1 q2 (by simpa using q))
theorem pi_range2 {a b : Expr} {ta : TA} {p pos : Pos} (hg : Gl X "range") (hm : X.mg "range" = none) (ha : PA X [a, b] ta) (hs : starEach [a, b] X.env = [(false, eval a X.env), (false, eval b X.env)] := by rfl) (hs2 : starEach [b] X.env = [(false, eval b X.env)] := by rfl) :
  PI X tg (.Call (.Name "range" p) [a, b] [] pos) (iRng2 ta) := by
 intro pins s σ H R I h
 refine Call_ (qD7 I hg hm boot_range (PyProof.Rows.callWith_type1 (thn (ha pos pins s σ H _ I h) fun us s1 ⟨vs, H1, I1, r1, q1⟩ => ?_) (by rw [hs, hs2]) (by rw [hs2]; rfl)))
 obtain ⟨i, j, e, ⟨q1, q2, q3, q4⟩, q⟩ := q1
 subst e
 cases r1 with
 | cons r rr =>
  cases rr with
  | cons r' rr =>
   cases rr
   obtain ⟨t, rfl⟩ := r
   obtain ⟨t', rfl⟩ := r'
   exact call_range_2 (range_it I1 q1 q2 q3 q4 q)
def tFor (wi : TI) (g : TG) (tb : TS) : TS := fun D σ H => wi σ H fun J H1 => ∃ W : Nat -> Nat -> St -> Hp -> Prop, (∃ m, W 0 m σ H1) /\ ∀ i m σ H, W i m σ H ->
 (J.stop i H /\ D.nx σ H) \/ (J.go i H /\ ∃ N : St -> Hp -> Prop, (∀ σ' H', N σ' H' -> ∃ m', m' < m /\ W (i + 1) m' σ' H') /\ ∀ x H', J.yld i H x H' -> g x σ H' fun σ2 H2 => tb { D with nx := N, ct := N, bk := D.nx } σ2 H2)
def qCb (fp : List Addr) (h : Heap) : List (Addr × Obj) := fp.filterMap fun b => (h.get? b).map fun o => (b, o)
theorem qA6 {fp : List Addr} {h : Heap} {b : Addr} {o : Obj} (hb : b ∈ fp) (e : h.get? b = some o) : (b, o) ∈ qCb fp h := List.mem_filterMap.mpr ⟨b, hb, by rw [e]; rfl⟩
theorem qDy {fp : List Addr} {h : Heap} {p : Addr × Obj} (hp : p ∈ qCb fp h) : p.1 ∈ fp /\ h.get? p.1 = some p.2 := by
 obtain ⟨b, hb, e⟩ := List.mem_filterMap.mp hp
 cases q : h.get? b with
 | none => rw [q] at e; cases e
 | some o =>
  rw [q] at e
  have e' : (b, o) = p := Option.some.inj e
  subst e'
  exact ⟨hb, q⟩
theorem Inv.pinned {pins : List (Addr × Obj)} {σ : St} {H : Hp} {s : Shared} {fp : List Addr} (I : Inv X pins σ H s) (hf : ∀ b ∈ fp, FpOk X pins H b) (ho : ∀ b ∈ fp, ∃ o, s.heap.get? b = some o /\ ∀ v, o.data ≠ .cell v) : Inv X (pins ++ qCb fp s.heap) σ H s :=
 I.pins_of fun p hp => (jAp.mp hp).elim (fun z => I.pin p (jAy _ z)) fun z => by
  obtain ⟨hb, e⟩ := qDy z
  obtain ⟨f0, f1, f2, _⟩ := hf p.1 hb
  obtain ⟨o, e', d⟩ := ho p.1 hb
  rw [e] at e'; cases e'
  exact ⟨e, f0, f1, f2, d⟩
theorem Inv.unpinned {pins pl : List (Addr × Obj)} {σ : St} {H : Hp} {s : Shared} (I : Inv X (pins ++ pl) σ H s) : Inv X pins σ H s := I.pins_of fun p hp => I.pin p (jAy _ (jAq _ hp))
theorem ps_for {iter : Expr} {body : List Stmt} {wi : TI} {g : TG} {tb : TS} {pos : Pos} (hp : PassesOwn (model X.prog X.w) X.A X.env X.xe) (hc : X.calm = true) (hi : PI X tg iter wi) (hg : PG X tg g) (hb : PSs X body tb)
  (hs : ∀ x, foldedSetIterable iter X.env x = pure x := by intro _; rfl) : PS X (.For tg iter body [] pos) (tFor wi g tb) := by
 intro pins s σ H D I h
 refine wpAny_For (thn (hi pins s σ H _ I h) fun v s1 h1 => thn h1 fun itv s2 h2 => ?_) hs
 obtain ⟨it, fp, tn, J, H2, e, I2, T, st2, f2, W, ⟨m0, w0⟩, turn⟩ := h2
 subst e
 -- what stays true of the iterator's objects through the loop
 have stat : ∀ {H' : Hp}, (∀ b ∈ fp, H' b = none) -> ∀ b ∈ fp, FpOk X pins H' b := fun hn b hb => ⟨hn b hb, (f2 b hb).2⟩
 refine codeAny_forLoop_any (fun n s' => ∃ i σ' H', Inv X pins σ' H' s' /\ tn i s'.heap /\ (∀ b ∈ fp, H' b = none) /\ W i n σ' H') ?_ m0 ⟨0, σ, H2, I2, st2, fun b hb => (f2 b hb).1, w0⟩
 rintro n s3 ⟨i, σ3, H3, I3, st3, fr3, w3⟩
 rcases turn i n σ3 H3 w3 with ⟨stop, qn⟩ | ⟨go, N, hN, step⟩
 ·refine wpAny_passesOwn hp (thn (T.done X rfl rfl rfl hc i pins s3 σ3 H3 X.xe I3 (stat fr3) st3 stop) fun r s4 ⟨hr, I4⟩ => ?_)
  subst hr
  exact wpAny_execs_nil ⟨σ3, H3, I4, qn⟩
 ·refine wpAny_passesOwn hp (thn (T.item X rfl rfl rfl hc i pins s3 σ3 H3 X.xe I3 (stat fr3) st3 go) fun r s4 ⟨u, hr, h4⟩ => ?_)
  subst hr
  refine wpAny_passesOwn hp (thn h4 fun _ s5 ⟨x, H5, I5, r5, y5, st5, fr5⟩ => ?_)
  have I5' := I5.pinned (stat fr5) (T.obj _ _ st5)
  refine wpAny_passesOwn hp (thn (hg _ s5 σ3 H5 x u _ I5' r5 (step x H5 y5)) fun _ s6 ⟨σ6, H6, I6, q6⟩ => ?_)
  refine wpAny_passesOwn hp (thn (hb _ s6 σ6 H6 _ I6 q6) fun f s7 q7 => ?_)
  have again : ∀ {σ7 : St} {H7 : Hp}, Inv X (pins ++ qCb fp s5.heap) σ7 H7 s7 -> N σ7 H7 -> ∃ m, m < n /\ ∃ i σ' H', Inv X pins σ' H' s7 /\ tn i s7.heap /\ (∀ b ∈ fp, H' b = none) /\ W i m σ' H' := fun {σ7 H7} I7 n7 => by
   obtain ⟨m', hm, w7⟩ := hN σ7 H7 n7
   refine ⟨m', hm, i + 1, σ7, H7, I7.unpinned, T.keep _ _ _ st5 fun b hb o e => (I7.pin (b, o) (jAy _ (jAy _ (qA6 hb e)))).1, fun b hb => ?_, w7⟩
   obtain ⟨o, e, d⟩ := T.obj _ _ st5 b hb
   exact (I7.pin (b, o) (jAy _ (jAy _ (qA6 hb e)))).2.1
  cases f with
  | next => obtain ⟨σ7, H7, I7, n7⟩ := q7; exact again I7 n7
  | cont => obtain ⟨σ7, H7, I7, n7⟩ := q7; exact again I7 n7
  | brk => obtain ⟨σ7, H7, I7, q7⟩ := q7; exact ⟨σ7, H7, I7.unpinned, q7⟩
  | ret v => obtain ⟨x7, σ7, H7, I7, r7, q7⟩ := q7; exact ⟨x7, σ7, H7, I7.unpinned, r7, q7⟩
end
end L2
namespace L2
open PySem PySem.Spec PyProof.Rows
abbrev R2 := V -> V -> Hp -> VK -> Prop
def OpR (X : Cx) (f : Value -> Value -> Sem Value) (r : R2) : Prop :=
 ∀ (pins : List (Addr × Obj)) (s : Shared) (σ : St) (H : Hp) (x y : V) (v u : Value) (Q : VK), Inv X pins σ H s -> RelV x v -> RelV y u -> r x y H Q ->
  wpAny (model X.prog X.w) X.A (f v u) (EP X pins σ Q) X.xe s
def UnR (X : Cx) (f : Value -> Sem Value) (r : V -> Hp -> VK -> Prop) : Prop :=
 ∀ (pins : List (Addr × Obj)) (s : Shared) (σ : St) (H : Hp) (x : V) (v : Value) (Q : VK), Inv X pins σ H s -> RelV x v -> r x H Q ->
  wpAny (model X.prog X.w) X.A (f v) (EP X pins σ Q) X.xe s
def qCq (X : Cx) (f : Value) (r : List V -> Hp -> VK -> Prop) : Prop :=
 ∀ (pins : List (Addr × Obj)) (s : Shared) (σ : St) (H : Hp) (xs : List V) (us : List Value) (Q : VK), Inv X pins σ H s -> Vals xs us -> r xs H Q ->
  wpAny (model X.prog X.w) X.A (call f us) (EP X pins σ Q) X.xe s
def tOp (r : R2) (ta tb : TE) : TE := fun σ H Q => ta σ H fun x H1 => tb σ H1 fun y H2 => r x y H2 Q
def tUn (r : V -> Hp -> VK -> Prop) (ta : TE) : TE := fun σ H Q => ta σ H fun x H1 => r x H1 Q
def rI (C : Int -> Int -> Prop) (g : Int -> Int -> V) : R2 := fun x y H Q => ∃ i j, x = .int i /\ y = .int j /\ C i j /\ Q (g i j) H
def rI0 (g : Int -> Int -> V) : R2 := fun x y H Q => ∃ i j, x = .int i /\ y = .int j /\ Q (g i j) H
def rU (g : Int -> V) : V -> Hp -> VK -> Prop := fun x H Q => ∃ i, x = .int i /\ Q (g i) H
section
variable {X : Cx} {a b c : Expr} {ta tb tc : TE} {pos : Pos}
theorem binT (ha : PE X a ta) (hb : PE X b tb) {pins : List (Addr × Obj)} {s : Shared} {σ : St} {H : Hp} {R : V -> V -> Hp -> Prop} (I : Inv X pins σ H s)
  (h : ta σ H fun x H1 => tb σ H1 fun y H2 => R x y H2) {Q : Value -> Shared -> Prop} {f : Value -> Value -> Sem Value}
  (hf : ∀ v u s2 x y H2, Inv X pins σ H2 s2 -> RelV x v -> RelV y u -> R x y H2 -> wpAny (model X.prog X.w) X.A (f v u) Q X.xe s2) :
  wpAny (model X.prog X.w) X.A (eval a X.env) (fun v s₁ => wpAny (model X.prog X.w) X.A (eval b X.env) (fun u s₂ => wpAny (model X.prog X.w) X.A (f v u) Q X.xe s₂) X.xe s₁) X.xe s := by
 refine thn (ha pins s σ H _ I h) fun v s1 ⟨x, H1, I1, r1, q1⟩ => ?_
 refine thn (hb pins s1 σ H1 _ I1 q1) fun u s2 ⟨y, H2, I2, r2, q2⟩ => ?_
 exact hf v u s2 x y H2 I2 r1 r2 q2
theorem pe_op {op : Operator} {r : R2} (ho : OpR X (binaryOp op) r) (ha : PE X a ta) (hb : PE X b tb) : PE X (.BinOp a op b pos) (tOp r ta tb) := by
 intro pins s σ H Q I h
 exact wpAny_BinOp (binT ha hb I h fun v u s2 x y H2 I2 rx ry q => ho pins s2 σ H2 x y v u Q I2 rx ry q)
theorem pe_un {op : UnaryOp} {r : V -> Hp -> VK -> Prop} (ho : UnR X (unaryOp op) r) (ha : PE X a ta) : PE X (.UnaryOp op a pos) (tUn r ta) := by
 intro pins s σ H Q I h
 exact UnaryOp_ (thn (ha pins s σ H _ I h) fun v s1 ⟨x, H1, I1, r1, q1⟩ => ho pins s1 σ H1 x v Q I1 r1 q1)
theorem opI {f : Value -> Value -> Sem Value} {C : Int -> Int -> Prop} {g : Int -> Int -> Int}
  (rule : ∀ (i j : Int) (t u : Tok) (s : Shared) (Q : Value -> Shared -> Prop) (E : Value -> Shared -> Prop), C i j -> Q (.int (g i j) s.toks) { s with toks := s.toks + 1 } -> wpAny (model X.prog X.w) X.A (f (.int i t) (.int j u)) Q E s) :
  OpR X f (rI C fun i j => .int (g i j)) := by
 intro pins s σ H x y v u Q I rx ry h
 obtain ⟨i, j, rfl, rfl, hc, q⟩ := h
 obtain ⟨t, rfl⟩ := rx
 obtain ⟨t', rfl⟩ := ry
 exact rule i j t t' s _ _ hc ⟨.int (g i j), H, I.tok _, ⟨_, rfl⟩, q⟩
theorem opI0 {f : Value -> Value -> Sem Value} {g : Int -> Int -> Int}
  (rule : ∀ (i j : Int) (t u : Tok) (s : Shared) (Q : Value -> Shared -> Prop) (E : Value -> Shared -> Prop), Q (.int (g i j) s.toks) { s with toks := s.toks + 1 } -> wpAny (model X.prog X.w) X.A (f (.int i t) (.int j u)) Q E s) :
  OpR X f (rI0 fun i j => .int (g i j)) := by
 intro pins s σ H x y v u Q I rx ry h
 obtain ⟨i, j, rfl, rfl, q⟩ := h
 obtain ⟨t, rfl⟩ := rx
 obtain ⟨t', rfl⟩ := ry
 exact rule i j t t' s _ _ ⟨.int (g i j), H, I.tok _, ⟨_, rfl⟩, q⟩
theorem opB0 {f : Value -> Value -> Sem Value} {g : Int -> Int -> Bool}
  (rule : ∀ (i j : Int) (t u : Tok) (s : Shared) (Q : Value -> Shared -> Prop) (E : Value -> Shared -> Prop), Q (.bool (g i j)) s -> wpAny (model X.prog X.w) X.A (f (.int i t) (.int j u)) Q E s) :
  OpR X f (rI0 fun i j => .bl (g i j)) := by
 intro pins s σ H x y v u Q I rx ry h
 obtain ⟨i, j, rfl, rfl, q⟩ := h
 obtain ⟨t, rfl⟩ := rx
 obtain ⟨t', rfl⟩ := ry
 exact rule i j t t' s _ _ ⟨.bl (g i j), H, I, rfl, q⟩
def CPow (i j : Int) : Prop := 0 <= j /\ j <= 1000000 /\ i.natAbs < 2 ^ 64
def CMul (i j : Int) : Prop := (-(2 ^ 64) < i /\ i < 2 ^ 64) \/ (-(2 ^ 64) < j /\ j < 2 ^ 64)
theorem CMul.ok {i j : Int} (h : CMul i j) : IntMulOk i j := by
 rcases h with ⟨h1, h2⟩ | ⟨h1, h2⟩
 ·exact .of_left (intBits_le_64 h1 h2)
 ·exact .of_right (intBits_le_64 h1 h2)
theorem op_add : OpR X (binaryOp .Add) (rI0 fun i j => .int (i + j)) := opI0 fun _ _ _ _ _ _ _ q => add_int q
theorem op_sub : OpR X (binaryOp .Sub) (rI0 fun i j => .int (i - j)) := opI0 fun _ _ _ _ _ _ _ q => sub_int q
theorem op_modN : OpR X (binaryOp .Mod) (rI (fun _ j => j ≠ 0) fun i j => .int (i.fmod j)) := opI fun _ _ _ _ _ _ _ hc q => mod_int' hc q
theorem op_pow : OpR X (binaryOp .Pow) (rI CPow fun i j => .int (i ^ j.toNat)) := opI fun _ _ _ _ _ _ _ hc q => pow_int_small hc.1 hc.2.1 hc.2.2 q
theorem unI {f : Value -> Sem Value} {g : Int -> Int}
  (rule : ∀ (i : Int) (t : Tok) (s : Shared) (Q : Value -> Shared -> Prop) (E : Value -> Shared -> Prop), Q (.int (g i) s.toks) { s with toks := s.toks + 1 } -> wpAny (model X.prog X.w) X.A (f (.int i t)) Q E s) :
  UnR X f (rU fun i => .int (g i)) := by
 intro pins s σ H x v Q I rx h
 obtain ⟨i, rfl, q⟩ := h
 obtain ⟨t, rfl⟩ := rx
 exact rule i t s _ _ ⟨.int (g i), H, I.tok _, ⟨_, rfl⟩, q⟩
theorem un_neg : UnR X (unaryOp .USub) (rU fun i => .int (-i)) := unI fun _ _ _ _ _ q => neg_int q
end
section
variable {X : Cx} {a b c : Expr} {ta tb tc : TE} {pos : Pos}
theorem fin_bl {pins : List (Addr × Obj)} {σ : St} {H : Hp} {s : Shared} {Q : VK} {k k' : Bool} (I : Inv X pins σ H s) (q : Q (.bl k) H) (e : k = k') : EP X pins σ Q (.bool k') s := by
 subst e
 exact ⟨.bl k, H, I, rfl, q⟩
theorem op_lt : OpR X (compareOp .Lt) (rI0 fun i j => .bl (decide (i < j))) := opB0 fun _ _ _ _ _ _ _ q => lt_int q
theorem op_le : OpR X (compareOp .LtE) (rI0 fun i j => .bl (decide (i <= j))) := opB0 fun _ _ _ _ _ _ _ q => le_int q
theorem op_gt : OpR X (compareOp .Gt) (rI0 fun i j => .bl (decide (j < i))) := opB0 fun _ _ _ _ _ _ _ q => gt_int q
theorem op_ge : OpR X (compareOp .GtE) (rI0 fun i j => .bl (decide (j <= i))) := opB0 fun _ _ _ _ _ _ _ q => ge_int q
theorem op_notN : OpR X (compareOp .IsNot) (fun x y H Q => y = .non /\ Q (.bl (!decide (x = .non))) H) := by
 intro pins s σ H x y v u Q I rx ry h
 obtain ⟨rfl, q⟩ := h
 cases ry
 refine isnot_none_gen (fin_bl I q ?_)
 cases x <;> first
  | (cases rx; rfl)
  | (obtain ⟨t, rfl⟩ := rx; rfl)
theorem OpR.or {f : Value -> Value -> Sem Value} {r r' : R2} (h : OpR X f r) (h' : OpR X f r') : OpR X f (fun x y H Q => r x y H Q \/ r' x y H Q) := by
 intro pins s σ H x y v u Q I rx ry q
 rcases q with q | q
 ·exact h pins s σ H x y v u Q I rx ry q
 ·exact h' pins s σ H x y v u Q I rx ry q
theorem yB (b : Expr) {op : CmpOp} (h : op ≠ .In := by decide) (h2 : op ≠ .NotIn := by decide) : behindInMarks op b = false := by
 have e1 : (op == CmpOp.In) = false := by cases op <;> first | rfl | exact absurd rfl h
 have e2 : (op == CmpOp.NotIn) = false := by cases op <;> first | rfl | exact absurd rfl h2
 cases b <;> simp [behindInMarks, e1, e2]
theorem pe_cmpR {op : CmpOp} {r : R2} (ho : OpR X (compareOp op) r) (ha : PE X a ta) (hb : PE X b tb) (hm : behindInMarks op b = false) : PE X (.Compare a [op] [b] pos) (tOp r ta tb) := by
 intro pins s σ H Q I h
 exact wpAny_Compare1 (binT ha hb I h fun v u s2 x y H2 I2 rx ry q => ho pins s2 σ H2 x y v u Q I2 rx ry q) hm
def tTest (t : TE) : TT := fun σ H Q => t σ H fun x H' => ∃ k, x = .bl k /\ Q k H'
theorem pt_cmpR {op : CmpOp} {r : R2} (ho : OpR X (compareOp op) r) (ha : PE X a ta) (hb : PE X b tb) (hm : behindInMarks op b = false) : PT X (.Compare a [op] [b] pos) (tTest (tOp r ta tb)) := by
 intro pins s σ H Q I h
 refine wpAny_isTrue_Compare1 (thn (ha pins s σ H _ I h) fun v s1 ⟨x, H1, I1, r1, q1⟩ => thn (hb pins s1 σ H1 _ I1 q1) fun u s2 ⟨y, H2, I2, r2, q2⟩ =>
  thn (ho pins s2 σ H2 x y v u _ I2 r1 r2 q2) fun c s3 ⟨z, H3, I3, r3, k, e, q3⟩ => ?_) hm
 subst e
 cases r3
 exact wpAny_truthy_bool ⟨H3, I3, q3⟩
def tChain (r r' : R2) (ta tb tc : TE) : TE := fun σ H Q => ta σ H fun x H1 => tb σ H1 fun y H2 => r x y H2 fun z H3 => ∃ k, z = .bl k /\
 (if k = true then tc σ H3 fun w' H4 => r' y w' H4 Q else Q (.bl false) H3)
theorem pe_chain {op op' : CmpOp} {r r' : R2} (ho : OpR X (compareOp op) r) (ho' : OpR X (compareOp op') r') (ha : PE X a ta) (hb : PE X b tb) (hc : PE X c tc)
  (hm : lastMarks [op, op'] [b, c] = false := by with_unfolding_all rfl) : PE X (.Compare a [op, op'] [b, c] pos) (tChain r r' ta tb tc) := by
 intro pins s σ H Q I h
 refine Compare_chain (thn (ha pins s σ H _ I h) fun v s1 ⟨x, H1, I1, r1, q1⟩ => chain_link (thn (hb pins s1 σ H1 _ I1 q1) fun u s2 ⟨y, H2, I2, r2, q2⟩ =>
  thn (ho pins s2 σ H2 x y v u _ I2 r1 r2 q2) fun d s3 ⟨z, H3, I3, r3, k, e, q3⟩ => ?_)) hm
 subst e
 cases r3
 refine wpAny_truthy_bool ?_
 cases k with
 | false => exact ite_ff ⟨.bl false, H3, I3, rfl, q3⟩
 | true => exact ite_tt (chain_last (thn (hc pins s3 σ H3 _ I3 q3) fun w' s4 ⟨z', H4, I4, r4, q4⟩ => ho' pins s4 σ H4 y z' u w' Q I4 r2 r4 q4))
theorem line63 : (sizeLine : Nat) < 2 ^ 63 := by rw [sizeLine_eq]; decide
theorem op_add_str : OpR X (binaryOp .Add) (fun x y H Q => ∃ i j, x = .str i /\ y = .str j /\ i.length + j.length <= sizeLine /\ Q (.str (i ++ j)) H) := by
 intro pins s σ H x y v u Q I rx ry h
 obtain ⟨i, j, rfl, rfl, hz, q⟩ := h
 obtain ⟨t, rfl⟩ := rx
 obtain ⟨t', rfl⟩ := ry
 exact add_str (fun t' tk => ⟨.str (i ++ j), H, I.tok _, ⟨_, rfl⟩, q⟩) hz
theorem vals1 {x : V} {us : List Value} (r : Vals [x] us) : ∃ u, us = [u] /\ RelV x u := by
 cases r with
 | cons r1 r2 => cases r2; exact ⟨_, rfl, r1⟩
theorem call_abs : qCq X (.builtin "abs") (fun xs H Q => ∃ i, xs = [.int i] /\ Q (.int (if i < 0 then -i else i)) H) := by
 intro pins s σ H xs us Q I r h
 obtain ⟨i, rfl, q⟩ := h
 obtain ⟨u, rfl, t, rfl⟩ := vals1 r
 exact call_abs_int fun u tk => ⟨.int (if i < 0 then -i else i), H, I.tok _, ⟨_, rfl⟩, q⟩
end
end L2
namespace L2
open PySem PySem.Spec PyProof.Rows
structure ObjM (h : Heap) (x dx C : Addr) (mA : Str -> Option Value) : Prop where
 obj : h.get? x = some (jAa C dx)
 ns : h.Ns1 dx mA
 ne : dx ≠ x
theorem lookIn_ns {h : Heap} {dx : Addr} {mA : Str -> Option Value} (n : h.Ns1 dx mA) : ∃ od, h.get? dx = some od /\ ∀ name, jAz name od = some (mA name) := by
 obtain ⟨o, es, ep, ho, hd, hk, _, hm⟩ := n
 refine ⟨o, ho, fun name => ?_⟩
 have e := hm name
 unfold nsFind findBy at e
 rw [<- Array.find?_toList] at e
 unfold jAz
 rw [hd]
 dsimp only
 split
 ·rename_i y q
  rw [q] at e
  exact congrArg some e
 ·rename_i q
  rw [q] at e
  have a : es.toList.any (·.refKey) = false := by
   rw [List.any_eq_false]
   intro y hy
   obtain ⟨z, t, hkey⟩ := hk y (Array.mem_toList_iff.mp hy)
   simp [DictEntry.refKey, hkey]
  have a' : ¬ es.toList.any (·.refKey) = true := by rw [a]; exact Bool.false_ne_true
  rw [if_neg a']
  exact congrArg some e
theorem ObjM.look {h : Heap} {x dx C : Addr} {mA : Str -> Option Value} (I : ObjM h x dx C mA) : ∃ od, PySem.W.InstAt h x (jAa C dx) C (some od) /\ ∀ name, jAz name od = some (mA name) :=
 let ⟨od, ho, hl⟩ := lookIn_ns I.ns
 ⟨od, ⟨I.obj, rfl, rfl, ho⟩, hl⟩
section
variable {prog : Program} {w : World} {A : Around} {E : Value -> Shared -> Prop} {s : Shared} {K : PySem.W.Frag} {x dx C f : Addr} {mA : Str -> Option Value} {name : Str} {v : Value}
theorem qAr {expr : Bool} {Q : Value -> Shared -> Prop} (X : K.In s.heap) (I : ObjM s.heap x dx C mA) (hg : jA0 K C name = true) (hh : jA1 K C = true)
  (ha : jA2 K (.ref C) name = some none) (hv : mA name = some v) (hv' : PySem.W.handedIn v = true) (h : Q v { s with toks := s.toks + 1 }) :
  wpAny (model prog w) A (getAttr (.ref x) name expr) Q E s := by
 obtain ⟨od, J, hl⟩ := I.look
 exact PySem.W.get_value X J (jA3 hg).1 (PySem.W.findObj_own hh ha rfl (by rw [hl, hv])) hv' h
theorem get_meth {pl : Sem Bool} {Q : Value × List Value -> Shared -> Prop} (X : K.In s.heap) (I : ObjM s.heap x dx C mA) (hg : jA0 K C name = true)
  (hf : jA2 K (.ref C) name = some (some (.ref f))) (ht : jA4 K (.ref f) = true) (hv : mA name = none) (h : Q (.ref f, [.ref x]) s) :
  wpAny (model prog w) A (getMethod (.ref x) name pl) Q E s := by
 obtain ⟨od, J, hl⟩ := I.look
 exact PySem.W.method_fn X J (jA3 hg).1 (jA3 hg).2 hf (beq_iff_eq.mp ht) (by show (jAz name od).map (·.isSome) = some false; rw [hl, hv]; rfl) h
theorem set_map {ns : List Str} {Q : Unit -> Shared -> Prop} (X : K.In s.heap) (I : ObjM s.heap x dx C mA)
  (hs : jA2 K (.ref C) "__setattr__" = some (some (.builtin "object.__setattr__"))) (hp : jA5 K C = true) (ht : jA6 K C name = some none) (hh : jA1 K C = true)
  (hw : PySem.Within mA ns) (hsz : ns.length <= sizeLine)
  (h : ∀ h', ObjM h' x dx C (fun y => if y = name then some v else mA y) -> Heap.SameBut dx s.heap h' -> Q () { s with heap := h', toks := s.toks + 2 }) :
  wpAny (model prog w) A (setAttr (.ref x) name v) Q E s := by
 obtain ⟨od, J, hl⟩ := I.look
 refine PySem.W.set_plain X J hs (PySem.W.osa_open (s := { s with toks := s.toks + 1 }) (r := none) X J hp ht fun b => ?_)
 obtain ⟨cd, hc, hd'⟩ := PySem.W.any_some hh
 have hx : s.heap.get? x = some ⟨.ref C, some dx, .plain, #[]⟩ := I.obj
 refine wpAny_bind (wpAny_pure (wpAny_bind (wpAny_bind (wpAny_loadPart hx (wpAny_bind (PySem.W.Looks.here (s := { s with toks := s.toks + 1 }) (PySem.W.looks_clsIn X hc) ?_))))))
 rw [hd']
 refine wpAny_pure (a := some dx) (wpAny_bind (wpAny_pure (wpAny_bind ?_)))
 refine wpAny_nsSet1 (s := { s with toks := s.toks + 1 }) I.ns fun h' hn2 hs2 => ?_
 obtain ⟨oD, esD, epD, hoD, hdD, hcD⟩ := hn2.count (PySem.Within.cons name v hw)
 refine wpAny_bind (wpAny_lookBehind hoD (by rw [hdD]; exact pastItsLine_dict (jAj hcD (by rw [jA7]; omega))) ?_)
 exact wpAny_pure (h _ ⟨(hs2.2 _ (Ne.symm I.ne)).trans I.obj, hn2, I.ne⟩ hs2)
theorem make_map {R : Result -> Shared -> Prop} {vs : List Value} {kw : List (Str × Value)} (X : K.In s.heap) (hm : jA8 K C = true)
  (hi : jA2 K (.ref C) "__init__" = some (some (.ref f))) (hf : PySem.W.typeIn K (.ref f) = some (.type "function"))
  (h : codeAny (model prog w) (A.under (.builtin "type.__call__" ⟨.ref C :: vs, kw⟩)) (.call (.ref f) ⟨.ref (s.heap.objs.size + 1) :: vs, kw⟩) (PySem.W.InitBack (s.heap.objs.size + 1) R)
   { s with heap := (s.heap.push jA9).push (jAa C s.heap.objs.size) }) :
  codeAny (model prog w) A (.call (.ref C) ⟨vs, kw⟩) R s := by
 obtain ⟨hh, g, d, t, os⟩ := s
 exact PySem.W.make_core (PySem.W.makes_of X hm) (PySem.W.looks_findIn X hi) (fun self => PySem.W.bind_fn X self hf) (.inl rfl) h
end
def putF (f : Str) (v : V) : List (Str × V) -> List (Str × V)
 | [] => [(f, v)]
 | (g, x) :: r => if g = f then (g, v) :: r else (g, x) :: putF f v r
theorem qD3 (f g : Str) (v : V) : ∀ fs : List (Str × V), (putF f v fs).lookup g = if g = f then some v else fs.lookup g
 | [] => by
  show jBa g [(f, v)] = _
  by_cases h : g = f
  ·have hb : (g == f) = true := beq_iff_eq.mpr h
   simp only [jBa, hb, if_pos h]
  ·have hb : (g == f) = false := beq_eq_false_iff_ne.mpr h
   simp only [jBa, hb, if_neg h]
 | (k, x) :: r => by
  have ih := qD3 f g v r
  rw [show putF f v ((k, x) :: r) = (if k = f then (k, v) :: r else (k, x) :: putF f v r) from rfl]
  by_cases hk : k = f
  ·rw [if_pos hk]
   by_cases h : g = k
   ·have hb : (g == k) = true := beq_iff_eq.mpr h
    simp only [jBa, hb, if_pos (h.trans hk)]
   ·have hb : (g == k) = false := beq_eq_false_iff_ne.mpr h
    simp only [jBa, hb, if_neg (fun e : g = f => h (e.trans hk.symm))]
  ·rw [if_neg hk]
   by_cases h : g = k
   ·have hb : (g == k) = true := beq_iff_eq.mpr h
    simp only [jBa, hb, if_neg (fun e : g = f => hk (h.symm.trans e))]
   ·have hb : (g == k) = false := beq_eq_false_iff_ne.mpr h
    simp only [jBa, hb]
    exact ih
theorem qD8 (f : Str) (v : V) : ∀ fs : List (Str × V), f ∈ (putF f v fs).map (·.1) /\ ∀ g, g ∈ fs.map (·.1) -> g ∈ (putF f v fs).map (·.1)
 | [] => ⟨by simp [putF], fun g h => by simp at h⟩
 | (k, x) :: r => by
  obtain ⟨i1, i2⟩ := qD8 f v r
  rw [show putF f v ((k, x) :: r) = (if k = f then (k, v) :: r else (k, x) :: putF f v r) from rfl]
  by_cases hk : k = f
  ·rw [if_pos hk]
   subst hk
   exact ⟨by simp, fun g h => by simpa using h⟩
  ·rw [if_neg hk]
   refine ⟨?_, fun g h => ?_⟩
   ·rw [jBb]
    exact jAn _ i1
   ·rw [jBb] at h ⊢
    rcases jAo.mp h with e | e
    ·exact jAo.mpr (.inl e)
    ·exact jAn _ (i2 g e)
theorem qD6 (f : Str) (v : V) : ∀ fs : List (Str × V), (putF f v fs).length <= fs.length + 1
 | [] => by simp [putF]
 | (k, x) :: r => by
  have ih := qD6 f v r
  rw [show putF f v ((k, x) :: r) = (if k = f then (k, v) :: r else (k, x) :: putF f v r) from rfl]
  by_cases hk : k = f
  ·rw [if_pos hk, jA7, jA7]; omega
  ·rw [if_neg hk, jA7, jA7]; omega
theorem RelO.some_of {v : V} {o : Option Value} (r : RelO (some v) o) : ∃ u, o = some u /\ RelV v u := by
 cases o with
 | none => exact (show False from r).elim
 | some u => exact ⟨u, rfl, r⟩
theorem RelO.none_of {o : Option Value} (r : RelO none o) : o = none := by
 cases o with
 | none => rfl
 | some u => exact (show False from r).elim
theorem handed_of {v : V} {u : Value} (r : RelV v u) : PySem.W.handedIn u = true := by
 cases v with
 | non => cases (show u = Value.none from r); rfl
 | bl b => cases (show u = Value.bool b from r); rfl
 | int i => obtain ⟨t, e⟩ := (show ∃ t, u = Value.int i t from r); cases e; rfl
 | str x => obtain ⟨t, e⟩ := (show ∃ t, u = Value.str x t from r); cases e; rfl
 | byt b => obtain ⟨t, e⟩ := (show ∃ t, u = Value.bytes b t from r); cases e; rfl
 | flt b => obtain ⟨t, e⟩ := (show ∃ t, u = Value.float b t from r); cases e; rfl
 | ref a => cases (show u = Value.ref a from r); rfl
 | ty n => cases (show u = Value.type n from r); rfl
section
variable {P : Program} {w : World} {H H' : Hp} {h h' : Heap} {a C dx : Addr} {fs fs' : List (Str × V)}
theorem ins_get (hok : HOk P w H h) (e : H a = some (.ins C dx fs)) : ∃ mA, ObjM h a dx C mA /\ (∀ f, RelO (fs.lookup f) (mA f)) /\ PySem.Within mA (fs.map (·.1)) /\ fs.length <= 1000 /\ H dx = some (.own a) := by
 obtain ⟨d, z, ne, ob, mA, n, r, q⟩ := (show qBz P w H h a (.ins C dx fs) from hok a _ e)
 exact ⟨mA, ⟨ob, n, ne⟩, r, q, z, d⟩
end
structure Cls (K : PySem.W.Frag) (C : Addr) : Prop where
 pg : jA0 K C Str.empty = true
 hd : jA1 K C = true
 po : jA5 K C = true
 sa : jA2 K (.ref C) "__setattr__" = some (some (.builtin "object.__setattr__"))
theorem Cls.get {K : PySem.W.Frag} {C : Addr} (c : Cls K C) (f : Str) : jA0 K C f = true := c.pg
def qC6 (K : PySem.W.Frag) (C : Addr) (f : Str) : Prop := jA2 K (.ref C) f = some none
theorem qC6.taker {K : PySem.W.Frag} {C : Addr} {f : Str} (n : qC6 K C f) : jA6 K C f = some none := by
 unfold jA6
 rw [show jA2 K (.ref C) f = some none from n]
 rfl
structure Meth (K : PySem.W.Frag) (C : Addr) (m : Str) (f : Addr) : Prop where
 at_ : jA2 K (.ref C) m = some (some (.ref f))
 fn : jA4 K (.ref f) = true
 kp : jBc K (.ref f) = true
section
variable {X : Cx} {pins : List (Addr × Obj)} {σ : St} {H : Hp} {s : Shared} {a C dx : Addr} {fs : List (Str × V)} {f : Str} {v : V} {A : Around} {E : Value -> Shared -> Prop}
theorem getattr_ok {b : Bool} {Q : Value -> Shared -> Prop} (I : Inv X pins σ H s) (e : H a = some (.ins C dx fs)) (c : Cls X.K C) (n : qC6 X.K C f) (l : fs.lookup f = some v)
  (h : ∀ u s', Inv X pins σ H s' -> RelV v u -> Q u s') : wpAny (model X.prog X.w) A (getAttr (.ref a) f b) Q E s := by
 obtain ⟨mA, O, r, _, _, _⟩ := ins_get I.hok e
 obtain ⟨u, hu, ru⟩ := RelO.some_of (v := v) (o := mA f) (by rw [<- l]; exact r f)
 exact qAr I.kIn O (c.get f) c.hd n hu (handed_of ru) (h u _ (I.tok _) ru)
theorem getmeth_ok {m : Str} {g : Addr} {pl : Sem Bool} {Q : Value × List Value -> Shared -> Prop} (I : Inv X pins σ H s) (e : H a = some (.ins C dx fs)) (c : Cls X.K C) (k : Meth X.K C m g) (l : fs.lookup m = none)
  (h : Q (.ref g, [.ref a]) s) : wpAny (model X.prog X.w) A (getMethod (.ref a) m pl) Q E s := by
 obtain ⟨mA, O, r, _, _, _⟩ := ins_get I.hok e
 have hn : mA m = none := RelO.none_of (by rw [<- l]; exact r m)
 exact get_meth I.kIn O (c.get m) k.at_ k.fn hn h
theorem setattr_ok {y : V} {u : Value} {Q : Unit -> Shared -> Prop} (I : Inv X pins σ H s) (e : H a = some (.ins C dx fs)) (c : Cls X.K C) (n : qC6 X.K C f) (hl : fs.length < 1000) (ry : RelV y u)
  (h : ∀ s', Inv X pins σ (upd H a (.ins C dx (putF f y fs))) s' -> Q () s') : wpAny (model X.prog X.w) A (setAttr (.ref a) f u) Q E s := by
 obtain ⟨mA, O, r, wi, _, ho⟩ := ins_get I.hok e
 have hz : (fs.map (·.1)).length <= sizeLine := by rw [jBd, sizeLine_eq]; omega
 refine set_map I.kIn O c.sa c.po n.taker c.hd wi hz fun h' O' sb => h _ ?_
 have hd : ∃ o, h'.get? dx = some o := let ⟨o, _, _, e', _⟩ := O'.ns; ⟨o, e'⟩
 refine I.write (x := a) (e := dx) (by rw [e]; exact True.intro) (.inr ho) (fun b q hb z => (sb.2 b hb).trans z) hd ?_
 refine ⟨by rw [zO O.ne]; exact ho, ?_, O.ne, O'.obj, _, O'.ns, fun g => ?_, fun g hg => ?_⟩
 ·have := qD6 f y fs; omega
 ·show RelO ((putF f y fs).lookup g) (if g = f then some u else mA g)
  rw [qD3]
  by_cases q : g = f
  ·rw [if_pos q, if_pos q]; exact ry
  ·rw [if_neg q, if_neg q]; exact r g
 ·by_cases q : g = f
  ·rw [q]; exact (qD8 f y fs).1
  ·refine (qD8 f y fs).2 g (wi g fun z => hg ?_)
   show (if g = f then some u else mA g) = none
   rw [if_neg q]; exact z
theorem Inv.made (I : Inv X pins σ H s) : Inv X pins σ (upd (upd H s.heap.objs.size (.own (s.heap.objs.size + 1))) (s.heap.objs.size + 1) (.ins C s.heap.objs.size []))
  { s with heap := (s.heap.push jA9).push (jAa C s.heap.objs.size) } := by
 have e1 : (s.heap.push jA9).get? s.heap.objs.size = some jA9 := jAw s.heap rfl
 have e2 : ((s.heap.push jA9).push (jAa C s.heap.objs.size)).get? (s.heap.objs.size + 1) = some (jAa C s.heap.objs.size) := by
  have := jAw (s.heap.push jA9) (o := jAa C s.heap.objs.size) rfl
  rwa [jBe] at this
 have e3 : (s.heap.push jA9).Ns s.heap.objs.size (fun _ => none) := ⟨jA9, #[], _, e1, rfl, (fun e he => absurd he (by simp)), fun _ => rfl⟩
 have I1 := I.laid (a := s.heap.objs.size) (o := .own (s.heap.objs.size + 1)) (h' := s.heap.push jA9) (t' := s.toks) (fun b u q => jAu _ q) (jAx _) ⟨_, e1⟩
 refine I1.laid (a := s.heap.objs.size + 1) (o := .ins C s.heap.objs.size []) (t' := s.toks) (fun b u q => jAu _ q) (Nat.le_of_eq (jBe _ _)) ?_
 have ne : s.heap.objs.size ≠ s.heap.objs.size + 1 := jAf (jBf _)
 refine ⟨by rw [zO ne, zX], jBg _, ne, e2, fun _ => none, (Heap.Ns1.of_empty e3).at fun o q => jAu _ q, fun _ => True.intro, fun y hy => absurd rfl hy⟩
theorem attr_of {prog : Program} {w : World} {env : Env} {e : Expr} {f : Str} {pos : Pos} {s : Shared} {Q : Value -> Shared -> Prop} (hb : attributeBase e f env (eval e env) = eval e env)
  (h : wpAny (model prog w) A (eval e env) (fun o s₁ => wpAny (model prog w) A (getAttr o f true) Q E s₁) E s) : wpAny (model prog w) A (eval (.Attribute e f pos) env) Q E s :=
 Attribute_any_ h (by rw [arm_eval_Attribute, hb])
end
def tFld (K : PySem.W.Frag) (ta : TE) (f : Str) : TE := fun σ H Q => ta σ H fun x H1 => ∃ a C dx fs v, x = .ref a /\ H1 a = some (.ins C dx fs) /\ Cls K C /\ qC6 K C f /\ fs.lookup f = some v /\ Q v H1
def sFld (K : PySem.W.Frag) (ta tv : TE) (f : Str) : TS := fun D σ H => tv σ H fun y H1 => ta σ H1 fun x H2 => ∃ a C dx fs, x = .ref a /\ H2 a = some (.ins C dx fs) /\ Cls K C /\ qC6 K C f /\ fs.length < 1000 /\
 D.nx σ (upd H2 a (.ins C dx (putF f y fs)))
section
variable {X : Cx} {o e value : Expr} {f : Str} {pos pos' tpos : Pos} {ta tv : TE}
theorem pe_fld (he : PE X e ta) (hb : attributeBase e f X.env (eval e X.env) = eval e X.env) : PE X (.Attribute e f pos) (tFld X.K ta f) := by
 intro pins s σ H Q I h
 refine attr_of hb (thn (he pins s σ H _ I h) fun u s1 ⟨x, H1, I1, rx, a, C, dx, fs, v, ex, ea, c, n, l, q⟩ => ?_)
 subst ex
 obtain rfl : u = Value.ref a := rx
 exact getattr_ok I1 ea c n l fun u' s2 I2 ru => ⟨v, H1, I2, ru, q⟩
theorem ps_fld (ha : PE X o ta) (hv : PE X value tv) (hs : swapsWith value (some (.Attribute o f pos')) pos.line X.env = pure false) : PS X (.Assign [.Attribute o f pos'] value pos) (sFld X.K ta tv f) := by
 intro pins s σ H D I h
 refine plainObj_wpAny_Assign_Attribute (thn (hv pins s σ H _ I h) fun u s1 ⟨y, H1, I1, ry, q⟩ => thn (ha pins s1 σ H1 _ I1 q) fun ov s2 ⟨x, H2, I2, rx, a, C, dx, fs, ex, ea, c, n, l, q2⟩ => ?_) hs
 subst ex
 obtain rfl : ov = Value.ref a := rx
 exact setattr_ok I2 ea c n l ry fun s3 I3 => ⟨σ, _, I3, q2⟩
end
end L2
namespace L2
open PySem PySem.Spec PyProof.Rows
structure Room (k : Nat) (A : Around) : Prop where
 hd : A.handled = none
 dp : A.depth + 3 * k + 120 < recursionLimit
 un : A.units + 16 * k + 200 < cLine
theorem Room.mono {j k : Nat} {A : Around} (r : Room k A) (h : j <= k) : Room j A := ⟨r.hd, by have := r.dp; omega, by have := r.un; omega⟩
theorem Room.deeper {k : Nat} {A : Around} (r : Room (k + 1) A) (env : Env) : Room k (A.deeper env) :=
 ⟨r.hd, by have := r.dp; show A.depth + 1 + 3 * k + 120 < _; omega, by have := r.un; show A.units + 3 + 16 * k + 200 < _; omega⟩
theorem make_depth {A : Around} {C : Addr} {us : List Value} {kw : List (Str × Value)} : (A.under (.builtin "type.__call__" ⟨.ref C :: us, kw⟩)).depth = A.depth + 1 := by
 first | rfl | simp [Around.under, Code.weight, Code.isCreation, Code.isGuard, Code.isCaller, Code.frames, Code.isFrame, guardIds]
theorem make_units {A : Around} {C : Addr} {us : List Value} {kw : List (Str × Value)} : (A.under (.builtin "type.__call__" ⟨.ref C :: us, kw⟩)).units = A.units + 1 := by
 first | rfl | simp [Around.under, Code.cUnits, Code.frames, Code.isFrame]
theorem Room.make {k : Nat} {A : Around} (r : Room (k + 1) A) (C : Addr) (us : List Value) (kw : List (Str × Value)) : Room k (A.under (.builtin "type.__call__" ⟨.ref C :: us, kw⟩)) :=
 ⟨r.hd, by have := r.dp; rw [make_depth]; omega, by have := r.un; rw [make_units]; omega⟩
theorem Room.depth {k : Nat} {A : Around} (r : Room k A) : A.depth < recursionLimit := by have := r.dp; omega
theorem Room.units {k : Nat} {A : Around} (r : Room k A) : A.units + 64 < cLine := by have := r.un; omega
def tNil : TA := fun _ H Q => Q [] H
def tCons (ta : TE) (tr : TA) : TA := fun σ H Q => ta σ H fun x H1 => tr σ H1 fun xs H2 => Q (x :: xs) H2
section
variable {X : Cx} {e : Expr} {es : List Expr} {te : TE} {t : TA} {pos : Pos}
theorem pa_nil : PA X [] tNil := fun _ _ _ _ H Q I h => Calls.spliced_nil ⟨[], H, I, .nil, h⟩
theorem qDx (ha : PE X e te) (hr : PA X es t) (hs : starEach (e :: es) X.env = (false, eval e X.env) :: starEach es X.env := by rfl) : PA X (e :: es) (tCons te t) := by
 intro pos pins s σ H Q I h
 rw [hs]
 show wpAny _ _ (spliced ((false, eval e X.env) :: backTo pos (starEach es X.env))) _ _ s
 refine Calls.spliced_cons (thn (ha pins s σ H _ I h) fun u s1 ⟨x, H1, I1, r1, q1⟩ => ?_)
 exact thn (hr pos pins s1 σ H1 _ I1 q1) fun us s2 ⟨xs, H2, I2, r2, q2⟩ => ⟨x :: xs, H2, I2, .cons r1 r2, q2⟩
def tTup (t : TA) : TE := fun σ H Q => t σ H fun xs H1 => xs.length <= sizeLine /\ ∀ p, H1 p = none -> Q (.ref p) (upd H1 p (.tup xs))
def tLst (t : TA) : TE := fun σ H Q => t σ H fun xs H1 => xs.length <= sizeLine /\ ∀ p, H1 p = none -> Q (.ref p) (upd H1 p (.lst xs))
theorem pe_tup {x1} (h : PA X es t) : PE X (.Tuple es x1 pos) (tTup t) := by
 intro pins s σ H Q I hq
 refine wpAny_Tuple_spliced (thn (h pos pins s σ H _ I hq) fun us s1 ⟨xs, H1, I1, r, z, q⟩ => ⟨by rw [<- r.length]; exact z, ?_⟩)
 have hf : H1 s1.heap.objs.size = none := I1.hok.fresh (jAx _)
 refine ⟨.ref s1.heap.objs.size, upd H1 s1.heap.objs.size (.tup xs), I1.laid (t' := s1.toks) (fun b u e => jAu _ e) (jAx _) ?_, rfl, q _ hf⟩
 exact ⟨z, us, r, ⟨_, jAw _ rfl, rfl, _, rfl⟩⟩
theorem pe_lst (h : PA X es t) : PE X (.List es pos) (tLst t) := by
 intro pins s σ H Q I hq
 refine wpAny_List_spliced (thn (h pos pins s σ H _ I hq) fun us s1 ⟨xs, H1, I1, r, z, q⟩ => ⟨by rw [<- r.length]; exact z, ?_⟩)
 have hf : H1 s1.heap.objs.size = none := I1.hok.fresh (jAx _)
 refine ⟨.ref s1.heap.objs.size, upd H1 s1.heap.objs.size (.lst xs), I1.laid (t' := s1.toks) (fun b u e => jAu _ e) (jAx _) ?_, rfl, q _ hf⟩
 exact ⟨z, us, 0, r, jAw _ rfl⟩
end
abbrev Sp := List V -> Hp -> VK -> XK -> Prop
abbrev CXT := List Env -> Hp -> Shared -> XK -> Value -> Shared -> Prop
structure Env0 (P : Program) (w : World) (K : PySem.W.Frag) (mg : Str -> Option Value) (base : Heap) (A : Around) (outer : List Env) (s : Shared) (H : Hp) : Prop where
 frames : A.frames = some outer
 mod : Mod K mg base
 bs : ∀ b o, base.get? b = some o -> s.heap.get? b = some o /\ H b = none
 bsz : base.objs.size <= s.heap.objs.size
 funs : s.heap.FunFrames base outer
 frf : ∀ b ∈ frs outer, H b = none
 hok : HOk P w H s.heap
 bare : AllBare s.gens
def CE (outer : List Env) (P : Program) (w : World) (H : Hp) (s : Shared) (Q : VK) (u : Value) (s' : Shared) : Prop :=
 ∃ v H', s'.os = s.os /\ AllBare s'.gens /\ Un (frs outer) [] H H' s.heap s'.heap /\ HOk P w H' s'.heap /\ RelV v u /\ Q v H'
def CR (CX : CXT) (outer : List Env) (P : Program) (w : World) (H : Hp) (s : Shared) (Q : VK) (E : XK) (r : Result) (s' : Shared) : Prop :=
 match r with
 | .ok (.ret u) => CE outer P w H s Q u s'
 | .ok _ => False
 | .error e => CX outer H s E e s'
structure FnOk (P : Program) (w : World) (K : PySem.W.Frag) (mg : Str -> Option Value) (base : Heap) (CX : CXT) (k : Nat) (f : Addr) (fd : FuncData) (ps : List Str) (sp : Sp) : Prop where
 len : ∀ vs H Q E, sp vs H Q E -> vs.length = ps.length
 run : ∀ (A : Around) (outer : List Env) (s : Shared) (H : Hp) (args : Args) (us : List Value) (vs : List V) (Q : VK) (E : XK), Room k A -> Env0 P w K mg base A outer s H -> BindsTo s fd args (ps.zip us) -> Vals vs us -> sp vs H Q E ->
  codeAny (model P w) A (.call (.ref f) args) (CR CX outer P w H s Q E) s
theorem FnOk.mono {P : Program} {w : World} {K : PySem.W.Frag} {mg : Str -> Option Value} {base : Heap} {CX : CXT} {j k : Nat} {f : Addr} {fd : FuncData} {ps : List Str} {sp : Sp} (F : FnOk P w K mg base CX j f fd ps sp) (h : j <= k) :
  FnOk P w K mg base CX k f fd ps sp := ⟨F.len, fun A outer s H args us vs Q E hr => F.run A outer s H args us vs Q E (hr.mono h)⟩
theorem FnOk.imp {P : Program} {w : World} {K : PySem.W.Frag} {mg : Str -> Option Value} {base : Heap} {CX : CXT} {k : Nat} {f : Addr} {fd : FuncData} {ps : List Str} {sp sp' : Sp} (F : FnOk P w K mg base CX k f fd ps sp)
  (h : ∀ vs H Q E, sp' vs H Q E -> sp vs H Q E) : FnOk P w K mg base CX k f fd ps sp' :=
 ⟨fun vs H Q E q => F.len vs H Q E (h _ _ _ _ q), fun A outer s H args us vs Q E hr he hb hv hs => F.run A outer s H args us vs Q E hr he hb hv (h _ _ _ _ hs)⟩
theorem Env0.make {P : Program} {w : World} {K : PySem.W.Frag} {mg : Str -> Option Value} {base : Heap} {A : Around} {outer : List Env} {s : Shared} {H : Hp} (e : Env0 P w K mg base A outer s H) (C : Addr) (us : List Value) (kw : List (Str × Value)) :
  Env0 P w K mg base (A.under (.builtin "type.__call__" ⟨.ref C :: us, kw⟩)) outer s H := ⟨by first | exact e.frames | (simpa [Around.under, Code.envs, Code.isFrame, pushEnvs] using e.frames), e.mod, e.bs, e.bsz, e.funs, e.frf, e.hok, e.bare⟩
section
variable {X : Cx} {pins : List (Addr × Obj)} {σ : St} {H : Hp} {s s' : Shared}
theorem Inv.env0 (I : Inv X pins σ H s) : Env0 X.prog X.w X.K X.mg X.base X.A X.stack s H :=
 ⟨I.ok.frames, I.ok.mod, I.bs, jAj I.ok.bsz I.sz, I.stack, I.stkFree, I.hok, I.bare⟩
theorem Inv.after {Q : VK} {u : Value} (I : Inv X pins σ H s) (h : CE X.stack X.prog X.w H s Q u s') : EP X pins σ Q u s' := by
 obtain ⟨v, H', os, bare, un, hok, r, q⟩ := h
 obtain ⟨hh, g, d, t, os'⟩ := s'
 obtain rfl : os' = s.os := os
 exact ⟨v, H', I.call (h' := hh) (g' := g) (d' := d) (t' := t) (ch := []) un hok bare (fun b z => absurd z (by simp)), r, q⟩
end
def tCall (sp : Sp) (dvs : List V) (E : XK) (t : TA) : TE := fun σ H Q => t σ H fun vs H1 => sp (vs ++ dvs) H1 Q E
def tMeth (C : Addr) (m : Str) (sp : Sp) (dvs : List V) (E : XK) (ta : TE) (t : TA) : TE := fun σ H Q => ta σ H fun x H1 => ∃ a dx fs, x = .ref a /\ H1 a = some (.ins C dx fs) /\ fs.lookup m = none /\
 t σ H1 fun vs H2 => sp (x :: (vs ++ dvs)) H2 Q E
def tMake (C : Addr) (sp : Sp) (dvs : List V) (E : XK) (t : TA) : TE := fun σ H Q => t σ H fun vs H1 => ∀ x dx, H1 x = none -> H1 dx = none -> dx ≠ x ->
 sp (.ref x :: (vs ++ dvs)) (upd (upd H1 dx (.own x)) x (.ins C dx [])) (fun v H2 => v = .non /\ Q (.ref x) H2) E
def zV (K : PySem.W.Frag) (fd : FuncData) (ps : List Str) (ds : List Value) : Prop :=
 ∀ (s : Shared) (us : List Value), K.In s.heap -> (us ++ ds).length = ps.length -> BindsTo s fd ⟨us, []⟩ (ps.zip (us ++ ds))
theorem zV.all {K : PySem.W.Frag} {fd : FuncData} {ps : List Str} (h : ∀ us : List Value, us.length = ps.length -> bindArgs fd ⟨us, []⟩ = pure (ps.zip us)) : zV K fd ps [] := fun s us _ hl => by
 rw [jBh] at hl ⊢
 exact .of_eq (h us hl)
def qB6 (CX : CXT) (X : Cx) (E : XK) : Prop := ∀ (pins : List (Addr × Obj)) (σ : St) (H : Hp) (s : Shared) (e : Value) (s' : Shared), Inv X pins σ H s -> CX X.stack H s E e s' -> X.xe e s'
section
variable {X : Cx} {CX : CXT} {k : Nat} {f C : Addr} {fd : FuncData} {ps : List Str} {sp : Sp} {dvs : List V} {ds : List Value} {E : XK} {x m : Str} {p pos apos : Pos} {e o : Expr} {es : List Expr} {ta : TE} {t : TA}
theorem run_fn {pins : List (Addr × Obj)} {σ : St} {H : Hp} {s : Shared} {Q : VK} {us : List Value} {vs : List V} (F : FnOk X.prog X.w X.K X.mg X.base CX k f fd ps sp) (hr : Room k X.A) (hb : zV X.K fd ps ds) (hd : Vals dvs ds) (hx : qB6 CX X E)
  (I : Inv X pins σ H s) (r : Vals vs us) (h : sp (vs ++ dvs) H Q E) : wpAny (model X.prog X.w) X.A (call (.ref f) us) (EP X pins σ Q) X.xe s := by
 have r2 : Vals (vs ++ dvs) (us ++ ds) := r.append hd
 have hl : (us ++ ds).length = ps.length := by rw [<- r2.length]; exact F.len _ _ _ _ h
 refine wpAny_call (codeAny_mono (F.run X.A X.stack s H ⟨us, []⟩ (us ++ ds) (vs ++ dvs) Q E hr I.env0 (hb s us I.kIn hl) r2 h) fun r s' hq => ?_)
 cases r with
 | error e => exact hx pins σ H s e s' I hq
 | ok fl =>
  cases fl with
  | ret u => exact I.after hq
  | next => exact False.elim hq
  | brk => exact False.elim hq
  | cont => exact False.elim hq
theorem pe_call (F : FnOk X.prog X.w X.K X.mg X.base CX k f fd ps sp) (hr : Room k X.A) (hg : Gl X x) (hm : X.mg x = some (.ref f)) (hk : jBc X.K (.ref f) = true) (hb : zV X.K fd ps ds) (hd : Vals dvs ds) (hx : qB6 CX X E)
  (ha : PA X (e :: es) t) (hdb : (x == ("__debug__" : Str)) = false := by decide) (he : starEach (e :: es) X.env = (false, eval e X.env) :: starEach es X.env := by rfl) (hpl : (backTo pos (starEach es X.env)).any (·.1) = false := by rfl) :
  PE X (.Call (.Name x p) (e :: es) [] pos) (tCall sp dvs E t) := by
 intro pins s σ H Q I h
 refine wpAny_Call_Name_kw (ld_glob I hg hm ?_ hdb)
 refine PySem.W.callWith_K (h₀ := X.base) I.ok.mod.kin hk (thn (ha pos pins s σ H _ I h) fun us s1 ⟨vs, H1, I1, r, q⟩ => ⟨I1.kIn, ?_⟩) he hpl
 exact run_fn F hr hb hd hx I1 r q
theorem pe_meth0 {pl : Sem Bool} (he : PE X o ta) (c : Cls X.K C) (hm : Meth X.K C m f) (F : FnOk X.prog X.w X.K X.mg X.base CX k f fd ps sp) (hr : Room k X.A) (hb : zV X.K fd ps ds) (hd : Vals dvs ds) (hx : qB6 CX X E)
  (ht : eval (.Call (.Attribute o m apos) [] [] pos) X.env = (do
   let ov <- eval o X.env
   standAt apos.atName
   let (f, first) <- holding [ov] (getMethod ov m pl)
   callWith pos f first (backTo pos (starEach [] X.env)) (backToKw pos (keywordEach [] X.env))) := by rfl) :
  PE X (.Call (.Attribute o m apos) [] [] pos) (tMeth C m sp dvs E ta tNil) := by
 intro pins s σ H Q I h
 refine PySem.W.methodCall_KW (pl := pl) (thn (he pins s σ H _ I h) fun u s1 ⟨x, H1, I1, rx, a, dx, fs, ex, ea, l, q⟩ => ?_) ht
 subst ex
 obtain rfl : u = Value.ref a := rx
 refine getmeth_ok I1 ea c hm l ?_
 exact PySem.W.callWith_K0 (first := [.ref a]) I1.kIn hm.kp (run_fn (us := [.ref a]) (vs := [.ref a]) F hr hb hd hx I1 (.cons rfl .nil) q)
structure Mk (K : PySem.W.Frag) (C f : Addr) : Prop where
 makes : jA8 K C = true
 init : jA2 K (.ref C) "__init__" = some (some (.ref f))
 fn : jA4 K (.ref f) = true
 kp : jBc K (.ref C) = true
theorem run_make {pins : List (Addr × Obj)} {σ : St} {H : Hp} {s : Shared} {Q : VK} {us : List Value} {vs : List V} (M : Mk X.K C f) (F : FnOk X.prog X.w X.K X.mg X.base CX k f fd ps sp) (hr : Room (k + 1) X.A) (hb : zV X.K fd ps ds) (hd : Vals dvs ds)
  (hx : qB6 CX X E) (I : Inv X pins σ H s) (r : Vals vs us)
  (h : ∀ x dx, H x = none -> H dx = none -> dx ≠ x -> sp (.ref x :: (vs ++ dvs)) (upd (upd H dx (.own x)) x (.ins C dx [])) (fun v H2 => v = .non /\ Q (.ref x) H2) E) :
  wpAny (model X.prog X.w) X.A (call (.ref C) us) (EP X pins σ Q) X.xe s := by
 have hq := h (s.heap.objs.size + 1) s.heap.objs.size (I.hok.fresh (Nat.le_succ _)) (I.hok.fresh (jAx _)) (jAf (jBf _))
 have I2 := Inv.made (C := C) I
 have r2 : Vals (V.ref (s.heap.objs.size + 1) :: (vs ++ dvs)) (Value.ref (s.heap.objs.size + 1) :: (us ++ ds)) := .cons rfl (r.append hd)
 have hl : (Value.ref (s.heap.objs.size + 1) :: us ++ ds).length = ps.length := by
  have e := r2.length
  rw [F.len _ _ _ _ hq] at e
  exact e.symm
 refine wpAny_call (make_map (f := f) I.kIn M.makes M.init (beq_iff_eq.mp M.fn) (codeAny_mono (F.run _ X.stack _ _ ⟨Value.ref (s.heap.objs.size + 1) :: us, []⟩ (Value.ref (s.heap.objs.size + 1) :: (us ++ ds)) _ _ E (hr.make C us [])
  (I2.env0.make C us []) (hb _ (Value.ref (s.heap.objs.size + 1) :: us) I2.kIn hl) r2 hq) fun r s' hq' => ?_))
 cases r with
 | error e => exact hx pins σ _ _ e s' I2 hq'
 | ok fl =>
  cases fl with
  | ret u =>
   obtain ⟨v, H', I3, rv, ev, q3⟩ := I2.after hq'
   subst ev
   exact ⟨rv, ⟨V.ref (s.heap.objs.size + 1), H', I3, rfl, q3⟩⟩
  | next => exact False.elim hq'
  | brk => exact False.elim hq'
  | cont => exact False.elim hq'
theorem pe_make (M : Mk X.K C f) (F : FnOk X.prog X.w X.K X.mg X.base CX k f fd ps sp) (hr : Room (k + 1) X.A) (hg : Gl X x) (hm : X.mg x = some (.ref C)) (hb : zV X.K fd ps ds) (hd : Vals dvs ds) (hx : qB6 CX X E)
  (ha : PA X (e :: es) t) (hdb : (x == ("__debug__" : Str)) = false := by decide) (he : starEach (e :: es) X.env = (false, eval e X.env) :: starEach es X.env := by rfl) (hpl : (backTo pos (starEach es X.env)).any (·.1) = false := by rfl) :
  PE X (.Call (.Name x p) (e :: es) [] pos) (tMake C sp dvs E t) := by
 intro pins s σ H Q I h
 refine wpAny_Call_Name_kw (ld_glob I hg hm ?_ hdb)
 refine PySem.W.callWith_K (h₀ := X.base) I.ok.mod.kin M.kp (thn (ha pos pins s σ H _ I h) fun us s1 ⟨vs, H1, I1, r, q⟩ => ⟨I1.kIn, ?_⟩) he hpl
 exact run_make M F hr hb hd hx I1 r q
end
structure zN (N P : List Str) (sc : Scope) : Prop where
 kind : sc.kind = .function
 co : sc.isCoroutine = false
 gen : sc.isGenerator = false
 nd : N.Nodup
 pre : N.take P.length = P
 par : ∀ x ∈ P, sc.names.lookup x = some .local \/ sc.names.lookup x = some .cell
 nofree : ∀ y ∈ sc.names, y.2 ≠ .free
theorem bindL_out {kindOf : Str -> Option NameKind} {x : Str} : ∀ {binds : List (Str × Value)} {m : Str -> Option Value}, (∀ v, (x, v) ∉ binds) -> bindL kindOf binds m x = m x
 | [], _, _ => rfl
 | (n, v) :: r, m, h => by
  unfold bindL
  rw [bindL_out fun w hw => h w (jAn _ hw)]
  split
  ·have : x ≠ n := by rintro rfl; exact h v jAm
   simp [this]
  ·rfl
theorem bindC_out {kindOf : Str -> Option NameKind} {x : Str} : ∀ {binds : List (Str × Value)} {m : Str -> Option Value}, (∀ v, (x, v) ∉ binds) -> bindC kindOf binds m x = m x
 | [], _, _ => rfl
 | (n, v) :: r, m, h => by
  unfold bindC
  rw [bindC_out fun w hw => h w (jAn _ hw)]
  split
  ·rfl
  ·have : x ≠ n := by rintro rfl; exact h v jAm
   simp [this]
theorem bindL_get {kindOf : Str -> Option NameKind} {x : Str} {v : Value} : ∀ {P : List Str} {vs : List Value} {i : Nat} {m : Str -> Option Value}, P.Nodup -> P[i]? = some x -> vs[i]? = some v -> kindOf x = some .local ->
  bindL kindOf (P.zip vs) m x = some v
 | [], _, _, _, _, h, _, _ => by simp at h
 | _ :: _, [], _, _, _, _, h, _ => by simp at h
 | p :: P, w :: vs, 0, m, nd, h1, h2, hk => by
  simp at h1 h2; subst h1; subst h2
  show bindL kindOf ((p, w) :: P.zip vs) m p = _
  unfold bindL
  rw [bindL_out fun v hv => (jBi.mp nd).1 (jBj hv).1, if_pos hk]
  simp
 | p :: P, w :: vs, i + 1, m, nd, h1, h2, hk => by
  show bindL kindOf ((p, w) :: P.zip vs) m x = _
  unfold bindL
  exact bindL_get (i := i) (jBi.mp nd).2 (by simpa using h1) (by simpa using h2) hk
theorem bindC_get {kindOf : Str -> Option NameKind} {x : Str} {v : Value} : ∀ {P : List Str} {vs : List Value} {i : Nat} {m : Str -> Option Value}, P.Nodup -> P[i]? = some x -> vs[i]? = some v -> kindOf x ≠ some .local ->
  bindC kindOf (P.zip vs) m x = some v
 | [], _, _, _, _, h, _, _ => by simp at h
 | _ :: _, [], _, _, _, _, h, _ => by simp at h
 | p :: P, w :: vs, 0, m, nd, h1, h2, hk => by
  simp at h1 h2; subst h1; subst h2
  show bindC kindOf ((p, w) :: P.zip vs) m p = _
  unfold bindC
  rw [bindC_out fun v hv => (jBi.mp nd).1 (jBj hv).1, if_neg hk]
  simp
 | p :: P, w :: vs, i + 1, m, nd, h1, h2, hk => by
  show bindC kindOf ((p, w) :: P.zip vs) m x = _
  unfold bindC
  exact bindC_get (i := i) (jBi.mp nd).2 (by simpa using h1) (by simpa using h2) hk
def start (N : List Str) (vs : List V) : St := vs.map some ++ jBk (N.length - vs.length) none
def cxOf (CX : CXT) (P : Program) (w : World) (K : PySem.W.Frag) (mg : Str -> Option Value) (base : Heap) (N : List Str) (qual : Str) (scope : Scope) (f : Addr) (cd : Value) (A : Around) (outer : List Env) (s : Shared) (H : Hp) (E : XK) : Cx where
 prog := P
 w := w
 K := K
 mg := mg
 base := base
 A := A.deeper (envOfC qual scope s.heap.objs.size f cd)
 N := N
 s₀ := s
 H₀ := H
 env := envOfC qual scope s.heap.objs.size f cd
 outer := outer
 stack := envOfC qual scope s.heap.objs.size f cd :: outer
 ex := []
 calm := true
 fn := fun _ => true
 pn := []
 xe := fun e s' => wpAny (model P w) (A.deeper (envOfC qual scope s.heap.objs.size f cd)) (leaving (envOfC qual scope s.heap.objs.size f cd) e) (fun _ s'' => CX outer H s E e s'') (fun e' s'' => CX outer H s E e' s'') s'
theorem cell_has {sc : Scope} {n : Nat} {x : Str} (h : sc.names.lookup x = some .cell) : ∃ c, (cellsFrom n sc.names []).lookup x = some c := by
 have q := jBl sc.names n [] (.inl h)
 exact jBm.mp q
theorem inv_start {CX : CXT} {P : Program} {w : World} {K : PySem.W.Frag} {mg : Str -> Option Value} {base : Heap} {N ps : List Str} {qual : Str} {scope : Scope} {f : Addr} {cd : Value} {A : Around} {outer : List Env} {s s1 : Shared} {H : Hp} {E : XK} {us : List Value} {vs : List V}
  (S : zN N ps scope) (hd : A.handled = none) (e0 : Env0 P w K mg base A outer s H) (hl : vs.length = ps.length) (r : Vals vs us)
  (x : InCallC s s.heap.objs.size (bindL (envOfC qual scope s.heap.objs.size f cd).kindOf (ps.zip us) fun _ => none) (cellsFrom (s.heap.objs.size + 1) scope.names []) (bindC (envOfC qual scope s.heap.objs.size f cd).kindOf (ps.zip us) fun _ => none) s1) :
  Inv (cxOf CX P w K mg base N qual scope f cd A outer s H E) [] (start N vs) H s1 := by
 have hpl : ps.length <= N.length := by have := congrArg jBn S.pre; rw [jBo] at this; omega
 obtain ⟨h1, tk, rfl, hk⟩ := x.done
 have noA : ∀ b : Addr, b ∉ (cxOf CX P w K mg base N qual scope f cd A outer s H E).ex := fun b z => absurd (show b ∈ ([] : List Addr) from z) (by simp)
 refine ⟨⟨e0.mod, S.kind, rfl, rfl, jAx _, fun y z c h1 h2 => ?_, fun y hy => ?_, fun y c _ h => ?_, fun _ => hd, Around.frames_deeper e0.frames, .inr ⟨rfl, rfl⟩, fun b z => absurd z (noA b), e0.bs, e0.bsz, fun b _ _ => noA b, fun b z => absurd z (noA b), e0.funs, e0.frf⟩,
  rfl, e0.bare, Un.kept hk, ⟨_, x.toInCall.ns, fun i y v h1 h2 h3 => ?_⟩, fun y c h => ⟨_, x.cell y c h⟩, e0.hok.fresh (jAx _), fun y c h => ?_, fun p hp => absurd (show p ∈ ([] : List (Addr × Obj)) from hp) (by simp), e0.hok.kept hk, ?_⟩
 ·exact name_of_addr x.apart (PySem.mem_of_lookup h1) (PySem.mem_of_lookup h2)
 ·have hy : scope.names.lookup y = some .cell \/ scope.names.lookup y = some .free := hy
  rcases hy with hy | hy
  ·exact cell_has hy
  ·exact absurd rfl (S.nofree _ (PySem.mem_of_lookup hy))
 ·exact jAk (x.above y c (PySem.mem_of_lookup h))
 ·have hi : i < vs.length := by
   unfold start at h2
   by_cases hi : i < vs.length
   ·exact hi
   ·rw [jBp (by simpa using hi)] at h2
    rw [jBq] at h2
    split at h2 <;> cases h2
  have ha : vs[i]? = some v := by
   unfold start at h2
   rw [jBr (by simpa using hi), jBs] at h2
   cases e : vs[i]? with
   | none => rw [e] at h2; cases h2
   | some a => rw [e] at h2; cases h2; rfl
  obtain ⟨u, hu, rv⟩ := r.get ha
  have hp : ps[i]? = some y := by
   rw [<- S.pre, List.getElem?_take_of_lt (by omega)]; exact h1
  have ndP : ps.Nodup := by rw [<- S.pre]; exact S.nd.sublist (List.take_sublist _ _)
  refine ⟨u, rv, ?_⟩
  rcases S.par y (jBt hp) with k | k
  ·exact .inl ⟨k, bindL_get ndP hp hu k⟩
  ·obtain ⟨c, e⟩ := cell_has (n := s.heap.objs.size + 1) k
   refine .inr ⟨.inl k, c, e, ?_⟩
   have q := x.cell y c e
   rw [bindC_get ndP hp hu (by show scope.names.lookup y ≠ _; rw [k]; decide)] at q
   exact q
 ·exact e0.hok.fresh (jAk (x.above y c (PySem.mem_of_lookup h)))
 ·unfold start
  show _ = N.length
  rw [jBu, jBd, jBv]
  omega
theorem fn_of {CX : CXT} {P : Program} {w : World} {K : PySem.W.Frag} {mg : Str -> Option Value} {base : Heap} {k : Nat} {f : Addr} {name qual : Str} {params : Arguments} {body : List Stmt} {scope : Scope} {dV kV doc pm cdv ct oc : Value} {an od : Option Addr}
  {osl : Array (Option Value)} {N ps : List Str} {sp : Sp} (lk : K.lookup f = some ⟨oc, od, .func (jBw name qual params body scope dV kV doc pm an cdv ct), osl⟩) (hcd : jBx K cdv qual = true) (S : zN N ps scope)
  (len : ∀ vs H Q E, sp vs H Q E -> vs.length = ps.length)
  (hbody : ∀ (A : Around) (outer : List Env) (s : Shared) (H : Hp) (vs : List V) (Q : VK) (E : XK), Room k (A.deeper (envOfC qual scope s.heap.objs.size f cdv)) -> sp vs H Q E ->
   ∃ t, PSs (cxOf CX P w K mg base N qual scope f cdv A outer s H E) body t /\ t { nx := fun _ H' => Q .non H', rt := Q } (start N vs) H) :
  FnOk P w K mg base CX (k + 1) f (jBw name qual params body scope dV kV doc pm an cdv ct) ps sp := by
 refine ⟨len, fun A outer s H args us vs Q E hr e0 hb r hsp => ?_⟩
 have hl := len _ _ _ _ hsp
 have KX : K.In s.heap := e0.mod.kin.keeps fun b o e => (e0.bs b o e).1
 have lim : s.heap.NoLimit := e0.mod.nolimit.keeps fun b o e => (e0.bs b o e).1
 have hkind : ∀ y ∈ ps.zip us, scope.names.lookup y.1 = some .local \/ (scope.names.lookup y.1 = some .cell /\ ((cellsFrom (s.heap.objs.size + 1) scope.names []).lookup y.1).isSome = true) := fun ⟨n, v⟩ hy => by
  rcases S.par n (jBj hy).1 with q | q
  ·exact .inl q
  ·exact .inr ⟨q, jBl _ _ _ (.inl q)⟩
 refine codeAny_call_function hr.depth (KX _ _ lk) rfl S.co S.gen rfl (PySem.W.codeRec_of KX hcd) (hb _ _ _ _ ?_)
 refine wpAny_newFunctionEnv_cells S.kind hkind fun env he s1 x => ?_
 subst he
 refine ⟨lim.keeps x.toInCall.keep, codeAny_func ?_⟩
 obtain ⟨t, ht, hq⟩ := hbody A outer s H vs Q E (hr.deeper _) hsp
 have I : Inv (cxOf CX P w K mg base N qual scope f cdv A outer s H E) [] (start N vs) H s1 := inv_start S hr.hd e0 hl r x
 refine wpAny_mono (ht [] s1 (start N vs) H _ I hq) (fun fl s' hs => ?_) fun e s' hs => hs
 have fin : ∀ {σ' : St} {H' : Hp} {v : V} {u : Value}, Inv (cxOf CX P w K mg base N qual scope f cdv A outer s H E) [] σ' H' s' -> RelV v u -> Q v H' -> CE outer P w H s Q u s' :=
  fun {σ' H' v u} J rv q => ⟨v, H', J.os, J.bare, J.base, J.hok, rv, q⟩
 cases fl with
 | ret u =>
  obtain ⟨v, σ', H', J, rv, q⟩ := hs
  exact fin J rv q
 | next =>
  obtain ⟨σ', H', J, q⟩ := hs
  exact fin (v := V.non) (u := Value.none) J rfl q
 | brk =>
  obtain ⟨_, _, _, q⟩ := hs
  exact False.elim q
 | cont =>
  obtain ⟨_, _, _, q⟩ := hs
  exact False.elim q
end L2
namespace L2
open PySem PySem.Spec PyProof.Rows
section
variable {X : Cx} {x : Str} {p pos : Pos} {e : Expr} {es : List Expr} {t : TA} {id T : String} {r : List V -> Hp -> VK -> Prop}
def tCB (r : List V -> Hp -> VK -> Prop) (t : TA) : TE := fun σ H Q => t σ H fun vs H1 => r vs H1 Q
theorem qFb (hc : qCq X (.builtin id) r) (hg : Gl X x) (hm : X.mg x = none) (hv : bootBuiltins x = some (.builtin id)) (ha : PA X (e :: es) t) (hn : x ≠ "__name__" := by decide) (hdb : (x == ("__debug__" : Str)) = false := by decide)
  (he : starEach (e :: es) X.env = (false, eval e X.env) :: starEach es X.env := by rfl) (hpl : (backTo pos (starEach es X.env)).any (·.1) = false := by rfl) : PE X (.Call (.Name x p) (e :: es) [] pos) (tCB r t) := by
 intro pins s σ H Q I h
 refine wpAny_Call_Name_kw (qD7 I hg hm hv ?_ hn hdb)
 exact PyProof.Rows.callWith_builtin1 (thn (ha pos pins s σ H _ I h) fun us s1 ⟨vs, H1, I1, r1, q1⟩ => hc pins s1 σ H1 vs us Q I1 r1 q1) he hpl
theorem pe_callTy (hc : qCq X (.type T) r) (hg : Gl X x) (hm : X.mg x = none) (hv : bootBuiltins x = some (.type T)) (ha : PA X (e :: es) t) (hn : x ≠ "__name__" := by decide) (hdb : (x == ("__debug__" : Str)) = false := by decide)
  (he : starEach (e :: es) X.env = (false, eval e X.env) :: starEach es X.env := by rfl) (hpl : (backTo pos (starEach es X.env)).any (·.1) = false := by rfl) : PE X (.Call (.Name x p) (e :: es) [] pos) (tCB r t) := by
 intro pins s σ H Q I h
 refine wpAny_Call_Name_kw (qD7 I hg hm hv ?_ hn hdb)
 exact PyProof.Rows.callWith_type1 (thn (ha pos pins s σ H _ I h) fun us s1 ⟨vs, H1, I1, r1, q1⟩ => hc pins s1 σ H1 vs us Q I1 r1 q1) he hpl
end
end L2
namespace HT
open PySem PyProof.Rows
section
variable {prog : Program} {w : World} {A : Around} {E : Value -> Shared -> Prop} {s : Shared}
def sIx (n d : Nat) : Option Int -> Nat
 | none => d
 | some v => if v < 0 then (v + (n : Int)).toNat else min v.toNat n
theorem sIx_le (n d : Nat) (hd : d <= n) (o : Option Int) : sIx n d o <= n := by
 cases o with
 | none => exact hd
 | some v =>
  show (if v < 0 then (v + (n : Int)).toNat else min v.toNat n) <= n
  by_cases hv : v < 0
  ·rw [if_pos hv]; omega
  ·rw [if_neg hv]; exact Nat.min_le_right _ _
theorem clip_eq (v : Int) (n d : Nat) : (if v < 0 then max (v + (n : Int)) 0 else min v (n : Int)) = ((sIx n d (some v) : Nat) : Int) := by
 show (if v < 0 then max (v + (n : Int)) 0 else min v (n : Int)) = (((if v < 0 then (v + (n : Int)).toNat else min v.toNat n) : Nat) : Int)
 by_cases hv : v < 0
 ·simp only [if_pos hv]; omega
 ·simp only [if_neg hv]; omega
theorem adjust_gen (lo hi : Option Int) (n : Nat) : Builtin.Slice.sliceAdjust lo hi 1 (n : Int) = (((sIx n 0 lo : Nat) : Int), ((sIx n n hi : Nat) : Int)) := by
 have h1 : ¬ ((1 : Int) < 0) := by omega
 unfold Builtin.Slice.sliceAdjust
 simp only [h1, if_false]
 refine Prod.ext ?_ ?_
 ·cases lo with
  | none => rfl
  | some v => exact clip_eq v n 0
 ·cases hi with
  | none => rfl
  | some v => exact clip_eq v n n
theorem places_gen (i j : Nat) : Builtin.Slice.slicePlaces (i : Int) (j : Int) 1 = j - i := by
 unfold Builtin.Slice.slicePlaces
 have h1 : (1 : Int) > 0 := by omega
 simp only [h1, if_true, Int.ediv_one]
 split <;> omega
theorem qEr {v : Value} {o : Option Int} {Q : Option Int -> Shared -> Prop} (p : IsPart v o) (h : Q o s) : wpAny (model prog w) A (Builtin.Slice.slicePartIndex v) Q E s := by
 cases p with
 | none => exact slicePart_none h
 | int i t => exact slicePart_int h
theorem qDi {sl : Addr} {vl vu : Value} {lo hi : Option Int} {n : Nat} {Q : Int × Int × Nat -> Shared -> Prop} (hs : s.heap.IsSliceOf sl vl vu .none) (pl : IsPart vl lo) (pu : IsPart vu hi)
  (h : Q (((sIx n 0 lo : Nat) : Int), 1, sIx n n hi - sIx n 0 lo) s) : wpAny (model prog w) A (Builtin.Slice.sliceApplied (.ref sl) (pure (n : Int))) Q E s := by
 obtain ⟨os, hos, hcs, hds⟩ := id hs
 unfold Builtin.Slice.sliceApplied Builtin.Slice.sliceFields
 refine wpAny_bind (wpAny_bind (wpAny_field hos hds (x := vl) rfl (wpAny_bind (wpAny_field hos hds (x := vu) rfl (wpAny_bind (wpAny_field hos hds (x := .none) rfl (wpAny_pure ?_)))))))
 refine wpAny_bind (slicePart_none ?_)
 show wpAny _ _ (if ((1 : Int) == 0) = true then _ else _) _ _ s
 rw [if_neg (by decide)]
 refine wpAny_bind (qEr pl (wpAny_bind (qEr pu (wpAny_bind (wpAny_pure ?_)))))
 show wpAny _ _ (match Builtin.Slice.sliceAdjust lo hi 1 (n : Int) with | (lo, hi) => pure (lo, (1 : Int), Builtin.Slice.slicePlaces lo hi 1)) _ _ s
 rw [adjust_gen lo hi n]
 show wpAny _ _ (pure (((sIx n 0 lo : Nat) : Int), (1 : Int), Builtin.Slice.slicePlaces ((sIx n 0 lo : Nat) : Int) ((sIx n n hi : Nat) : Int) 1)) _ _ s
 rw [places_gen]
 exact wpAny_pure h
theorem pick_gen (xs : Array Value) (i k : Nat) : ((jAg k).filterMap fun (m : Nat) => xs[((i : Int) + (m : Int) * 1).toNat]?).toArray = ((xs.toList.drop i).take k).toArray := by
 have e : (fun (m : Nat) => xs[((i : Int) + (m : Int) * 1).toNat]?) = fun m => xs[i + m]? := by
  funext m
  have : ((i : Int) + (m : Int) * 1).toNat = i + m := by omega
  rw [this]
 rw [e]
 have := pick_run xs i k
 rw [List.filterMap_map] at this
 have e2 : ((fun x => xs[x]?) ∘ fun x => i + x) = fun m => xs[i + m]? := rfl
 rw [e2] at this
 rw [this]
theorem getItem_tuple_cut {t sl : Addr} {items : Array Value} {vl vu : Value} {lo hi : Option Int} {Q : Value -> Shared -> Prop} (ht : IsTup s.heap t items) (hs : s.heap.IsSliceOf sl vl vu .none) (pl : IsPart vl lo) (pu : IsPart vu hi)
  (hw : ¬ (sIx items.size 0 lo = 0 /\ sIx items.size items.size hi = items.size))
  (h : Q (.ref s.heap.objs.size) { s with heap := s.heap.push { cls := .type "tuple", data := .seq ((items.toList.drop (sIx items.size 0 lo)).take (sIx items.size items.size hi - sIx items.size 0 lo)).toArray } })
  (hsz : items.size <= sizeLine) : wpAny (model prog w) A (getItem (.ref t) (.ref sl)) Q E s := by
 have htake : sizeOk (.seq ((items.toList.drop (sIx items.size 0 lo)).take (sIx items.size items.size hi - sIx items.size 0 lo)).toArray) := by
  show ((items.toList.drop (sIx items.size 0 lo)).take (sIx items.size items.size hi - sIx items.size 0 lo)).toArray.size <= sizeLine
  rw [jBy, jBo, List.length_drop, Array.length_toList]
  omega
 have hj : sIx items.size items.size hi <= items.size := sIx_le _ _ (jAx _) hi
 obtain ⟨os, hos, hcs, hds⟩ := id hs
 have hTs : s.TypeIs (.ref sl) "slice" := ⟨os, hos, hcs⟩
 unfold getItem
 try with_reducible refine wpAny_holding ?_
 first | refine wpAny_bind (wpAny_pure ?_) | skip
 refine wpAny_bind (wpAny_sequenceKey ht.typeIs (by decide) ?_)
 refine wpAny_bind (wpAny_callSpecial?_slot (name := Str.ofString "__getitem__") ht.typeIs PyProof.Rows.slot_tuple_getitem
  (wpAny_call_entry PyProof.Rows.slot_tuple_getitem ht.typeIs entry_tuple_getitem ?_ (args_tuple_getitem _ _)))
 show wpAny _ _ (Builtin.Tuple.tupleItemsOf (.ref t) >>= _) _ _ s
 refine wpAny_bind (tupleItemsOf_ ht ?_)
 refine wpAny_bind (wpAny_typeOf hTs ?_)
 rw [if_pos (by decide)]
 refine wpAny_bind (qDi hs pl pu ?_)
 have hno : ¬ ((((sIx items.size 0 lo : Nat) : Int) == 0 && (1 : Int) == 1 && (sIx items.size items.size hi - sIx items.size 0 lo) == items.size) = true) := by
  intro q
  rw [Bool.and_eq_true, Bool.and_eq_true] at q
  have q1 : ((sIx items.size 0 lo : Nat) : Int) = 0 := eq_of_beq q.1.1
  have q2 : sIx items.size items.size hi - sIx items.size 0 lo = items.size := eq_of_beq q.2
  exact hw ⟨by omega, by omega⟩
 show wpAny _ _ (if (((sIx items.size 0 lo : Nat) : Int) == 0 && (1 : Int) == 1 && (sIx items.size items.size hi - sIx items.size 0 lo) == items.size) = true then _ else _) _ _ s
 rw [if_neg hno, pick_gen]
 first
  | exact wpAny_bind (m := Builtin.Tuple.tupleExact _) (wpAny_newObj_type (wpAny_pure ⟨_, rfl, wpAny_pure h⟩) htake)
  | exact wpAny_bind (m := Builtin.Tuple.tupleExact _) (wpAny_newObj_type (wpAny_bind (wpAny_pure (wpAny_pure ⟨_, rfl, wpAny_pure h⟩))) htake)
  | exact wpAny_bind (wpAny_bind (m := Builtin.Tuple.tupleExact _) (wpAny_newObj_type (wpAny_pure (wpAny_pure ⟨_, rfl, wpAny_pure h⟩)) htake))
  | exact wpAny_bind (wpAny_bind (m := Builtin.Tuple.tupleExact _) (wpAny_newObj_type (wpAny_pure ⟨_, rfl, wpAny_pure h⟩) htake))
end
end HT
namespace L2
open PySem PySem.Spec PyProof.Rows
abbrev TO := St -> Hp -> (Option Int -> Hp -> Prop) -> Prop
def PO (X : Cx) (e : Option Expr) (t : TO) : Prop :=
 ∀ (pins : List (Addr × Obj)) (s : Shared) (σ : St) (H : Hp) (Q : Option Int -> Hp -> Prop), Inv X pins σ H s -> t σ H Q ->
  wpAny (model X.prog X.w) X.A (evalPart e X.env) (fun u s' => ∃ o H', Inv X pins σ H' s' /\ IsPart u o /\ Q o H') X.xe s
def tNoPart : TO := fun _ H Q => Q none H
def tPart (t : TE) : TO := fun σ H Q => t σ H fun x H1 => ∃ i, x = .int i /\ Q (some i) H1
section
variable {X : Cx} {e : Expr} {te : TE} {lo hi : Option Expr} {tl th : TO} {pos p2 : Pos}
theorem po_none : PO X none tNoPart := by
 intro pins s σ H Q I h
 rw [evalPart_none]
 exact wpAny_pure ⟨none, H, I, .none, h⟩
theorem po_some (h : PE X e te) : PO X (some e) (tPart te) := by
 intro pins s σ H Q I hw
 rw [evalPart_some]
 refine thn (h pins s σ H _ I hw) fun u s1 ⟨x, H1, I1, r1, q1⟩ => ?_
 obtain ⟨i, rfl, q⟩ := q1
 obtain ⟨t, rfl⟩ := r1
 exact ⟨some i, H1, I1, .int i t, q⟩
def SlR (X : Cx) (r : V -> Option Int -> Option Int -> Hp -> VK -> Prop) : Prop :=
 ∀ (pins : List (Addr × Obj)) (s : Shared) (σ : St) (H : Hp) (x : V) (v vl vu : Value) (lo hi : Option Int) (sl : Addr) (Q : VK), Inv X pins σ H s -> RelV x v -> s.heap.IsSliceOf sl vl vu .none -> IsPart vl lo -> IsPart vu hi -> r x lo hi H Q ->
  ∃ T id, typeLookup (.type T) "__getitem__" = pure (some (.builtin id)) /\ s.TypeIs v T /\ wpAny (model X.prog X.w) X.A (getItem v (.ref sl)) (EP X pins σ Q) X.xe s
theorem SlR.or {r r' : V -> Option Int -> Option Int -> Hp -> VK -> Prop} (h : SlR X r) (h' : SlR X r') : SlR X (fun x lo hi H Q => r x lo hi H Q \/ r' x lo hi H Q) := by
 intro pins s σ H x v vl vu lo hi sl Q I rx hs pl pu q
 rcases q with q | q
 ·exact h pins s σ H x v vl vu lo hi sl Q I rx hs pl pu q
 ·exact h' pins s σ H x v vl vu lo hi sl Q I rx hs pl pu q
def tSl (r : V -> Option Int -> Option Int -> Hp -> VK -> Prop) (te : TE) (tl th : TO) : TE := fun σ H Q => te σ H fun x H1 => tl σ H1 fun l H2 => th σ H2 fun u H3 => r x l u H3 Q
theorem pe_slice {r : V -> Option Int -> Option Int -> Hp -> VK -> Prop} (hr : SlR X r) (he : PE X e te) (hl : PO X lo tl) (hu : PO X hi th) : PE X (.Subscript e (.Slice lo hi none p2) pos) (tSl r te tl th) := by
 intro pins s σ H Q I h
 refine Subscript_ (thn (he pins s σ H _ I h) fun v s1 ⟨x, H1, I1, r1, q1⟩ => ?_)
 refine wpAny_Slice (thn (hl pins s1 σ H1 _ I1 q1) fun vl s2 ⟨l, H2, I2, pl, q2⟩ => thn (hu pins s2 σ H2 _ I2 q2) fun vu s3 ⟨u, H3, I3, pu, q3⟩ => ?_)
 rw [evalPart_none]
 refine wpAny_pure ?_
 have I4 : Inv X pins σ H3 { s3 with heap := s3.heap.push { cls := .type "slice", data := .fields #[vl, vu, .none] } } := I3.kept (t' := s3.toks) fun b ob q => jAu _ q
 obtain ⟨T, id, hT, ht, hg⟩ := hr pins { s3 with heap := s3.heap.push { cls := .type "slice", data := .fields #[vl, vu, .none] } } σ H3 x v vl vu l u s3.heap.objs.size Q I4 r1 (Heap.IsSliceOf.new ..) pl pu q3
 show wpAny (model X.prog X.w) X.A (subscriptTail e (.Slice lo hi none p2) v (.ref s3.heap.objs.size)) (EP X pins σ Q) X.xe { s3 with heap := s3.heap.push { cls := .type "slice", data := .fields #[vl, vu, .none] } }
 exact tail_any (ops := [.ref s3.heap.objs.size, v]) ht hT hg (by with_unfolding_all rfl)
def cutV (xs : List V) (lo hi : Option Int) : List V := (xs.drop (HT.sIx xs.length 0 lo)).take (HT.sIx xs.length xs.length hi - HT.sIx xs.length 0 lo)
theorem qEh (xs : List V) (lo hi : Option Int) : (cutV xs lo hi).length <= xs.length := by
 unfold cutV
 rw [jBo, List.length_drop]
 omega
def rSlT (K : PySem.W.Frag) : V -> Option Int -> Option Int -> Hp -> VK -> Prop := fun x lo hi H Q => ∃ a xs, x = .ref a /\ SqT K H a xs /\
 ¬ (HT.sIx xs.length 0 lo = 0 /\ HT.sIx xs.length xs.length hi = xs.length) /\ ∀ p, H p = none -> Q (.ref p) (upd H p (.tup (cutV xs lo hi)))
theorem sl_tup : SlR X (rSlT X.K) := by
 intro pins s σ H x v vl vu lo hi sl Q I rx hs pl pu h
 obtain ⟨a, xs, rfl, hx, hw, q⟩ := h
 cases rx
 obtain ⟨its, r, ht, hz⟩ := I.tuple hx
 have hlen : its.toArray.size = xs.length := by rw [jBy]; exact r.length.symm
 refine ⟨"tuple", _, PyProof.Rows.slot_tuple_getitem.lookup, ht.typeIs, ?_⟩
 refine HT.getItem_tuple_cut ht hs pl pu (by rw [hlen]; exact hw) ?_ (by rw [hlen]; exact hz)
 rw [hlen]
 refine ⟨.ref s.heap.objs.size, _, I.laid (t' := s.toks) (o := .tup (cutV xs lo hi)) (fun b ob q => jAu _ q) (jAx _) ?_, rfl, q _ (I.hok.fresh (jAx _))⟩
 exact ⟨jAj (qEh xs lo hi) hz, _, (r.drop (HT.sIx xs.length 0 lo)).take (HT.sIx xs.length xs.length hi - HT.sIx xs.length 0 lo), IsTup.new _ _⟩
end
end L2
namespace L2
open PySem PySem.Spec PyProof.Rows
def ixN (n : Nat) (i : Int) : Option Nat := if 0 <= i then (if i < n then some i.toNat else none) else if -(n : Int) <= i then some (i + n).toNat else none
def atI {α : Type} (xs : List α) (i : Int) : Option α := (ixN xs.length i).bind fun j => xs[j]?
theorem ixN_seq {n : Nat} {i : Int} {j : Nat} (h : ixN n i = some j) : seqIndex? i n = some j /\ j < n /\ -(n : Int) <= i /\ i < n := by
 unfold ixN at h
 by_cases h0 : 0 <= i
 ·rw [if_pos h0] at h
  by_cases h1 : i < n
  ·rw [if_pos h1] at h
   have e : i.toNat = j := Option.some.inj h
   exact ⟨by rw [seqIndex_of h0 h1, e], by omega, by omega, h1⟩
  ·rw [if_neg h1] at h; cases h
 ·rw [if_neg h0] at h
  by_cases h1 : -(n : Int) <= i
  ·rw [if_pos h1] at h
   have e : (i + n).toNat = j := Option.some.inj h
   exact ⟨by rw [seqIndex_neg (by omega) h1, e], by omega, h1, by omega⟩
  ·rw [if_neg h1] at h; cases h
theorem atI_get {α : Type} {xs : List α} {i : Int} {v : α} (h : atI xs i = some v) : ∃ j, seqIndex? i xs.length = some j /\ xs[j]? = some v /\ j < xs.length /\ -(xs.length : Int) <= i /\ i < xs.length := by
 unfold atI at h
 cases e : ixN xs.length i with
 | none => rw [e] at h; cases h
 | some j =>
  rw [e] at h
  obtain ⟨h1, h2, h3, h4⟩ := ixN_seq e
  exact ⟨j, h1, h, h2, h3, h4⟩
def PlainIx (b : Expr) : Prop := ∀ o i, subscripted b false o i = operate [o, i] (getItem o i)
def IxR (X : Cx) (r : R2) : Prop :=
 ∀ (value slice : Expr) (pins : List (Addr × Obj)) (s : Shared) (σ : St) (H : Hp) (x y : V) (v u : Value) (Q : VK), Inv X pins σ H s -> RelV x v -> RelV y u -> r x y H Q ->
  subscripted slice false v u = operate [v, u] (getItem v u) -> wpAny (model X.prog X.w) X.A (subscriptTail value slice v u) (EP X pins σ Q) X.xe s
def MtR (X : Cx) (id : String) (r : V -> List V -> Hp -> VK -> Prop) : Prop :=
 ∀ (pins : List (Addr × Obj)) (s : Shared) (σ : St) (H : Hp) (x : V) (xs : List V) (v : Value) (us : List Value) (Q : VK), Inv X pins σ H s -> RelV x v -> Vals xs us -> r x xs H Q ->
  wpAny (model X.prog X.w) X.A (call (.builtin id) (v :: us)) (EP X pins σ Q) X.xe s
section
variable {X : Cx} {a b : Expr} {ta tb : TE} {pos : Pos}
theorem IxR.or {r r' : R2} (h : IxR X r) (h' : IxR X r') : IxR X (fun x y H Q => r x y H Q \/ r' x y H Q) := by
 intro value slice pins s σ H x y v u Q I rx ry q hs
 rcases q with q | q
 ·exact h value slice pins s σ H x y v u Q I rx ry q hs
 ·exact h' value slice pins s σ H x y v u Q I rx ry q hs
theorem pe_ix {r : R2} (hr : IxR X r) (ha : PE X a ta) (hb : PE X b tb) (hs : PlainIx b) : PE X (.Subscript a b pos) (tOp r ta tb) := by
 intro pins s σ H Q I h
 exact Subscript_ (binT ha hb I h fun v u s2 x y H2 I2 rx ry q => hr a b pins s2 σ H2 x y v u Q I2 rx ry q (hs _ _))
def rIxL (K : PySem.W.Frag) : R2 := fun x y H Q => ∃ p xs i v, x = .ref p /\ y = .int i /\ SqL K H p xs /\ atI xs i = some v /\ Q v H
def rIxT (K : PySem.W.Frag) : R2 := fun x y H Q => ∃ p xs i v, x = .ref p /\ y = .int i /\ SqT K H p xs /\ atI xs i = some v /\ Q v H
theorem ix_list : IxR X (rIxL X.K) := by
 intro value slice pins s σ H x y v u Q I rx ry h hs
 obtain ⟨p, xs, i, z, rfl, rfl, hq, he, q⟩ := h
 cases rx
 obtain ⟨t, rfl⟩ := ry
 obtain ⟨its, r, pl, hz⟩ := I.list hq
 obtain ⟨j, h1, h2, h3, h4, h5⟩ := atI_get he
 obtain ⟨w, ew, rw'⟩ := r.get h2
 have hl := r.length
 have hn := line63
 have fin : EP X pins σ Q w s := ⟨z, H, I, rw', q⟩
 by_cases h0 : 0 <= i
 ·have hj : i.toNat = j := by
   rw [seqIndex_of h0 h5] at h1
   exact Option.some.inj h1
  exact item_listR pl.isList h0 (by omega) (by rw [hj]; simpa using ew) fin hs
 ·have hj : (i + (its.toArray.size : Int)).toNat = j := by
   rw [seqIndex_neg (by omega) h4] at h1
   rw [jBy, <- hl]
   exact Option.some.inj h1
  exact subscriptTail_builtinR (x := w) pl.isList.typeIs slot_list_getitem.lookup
   (wpAny_getItem_list_neg (Q := fun r s' => r = w /\ EP X pins σ Q r s') pl.isList (by omega) (by rw [jBy] <;> omega) (by omega) (by rw [hj]; simpa using ew) ⟨rfl, fin⟩) hs
theorem ix_tup : IxR X (rIxT X.K) := by
 intro value slice pins s σ H x y v u Q I rx ry h hs
 obtain ⟨p, xs, i, z, rfl, rfl, hq, he, q⟩ := h
 cases rx
 obtain ⟨t, rfl⟩ := ry
 obtain ⟨its, r, pl, hz⟩ := I.tuple hq
 obtain ⟨j, h1, h2, h3, h4, h5⟩ := atI_get he
 obtain ⟨w, ew, rw'⟩ := r.get h2
 have hl := r.length
 have hn := line63
 have fin : EP X pins σ Q w s := ⟨z, H, I, rw', q⟩
 exact subscriptTail_builtinR (x := w) pl.typeIs slot_tuple_getitem.lookup
  (getItem_tuple (j := j) (Q := fun r s' => r = w /\ EP X pins σ Q r s') pl (by omega) (by omega) (by rw [jBy, <- hl]; exact h1) (by simpa using ew) ⟨rfl, fin⟩) hs
theorem mapSeq_set (its : List Value) (n j : Nat) (u : Value) : Obj.mapSeq (·.setIfInBounds j u) { cls := .type "list", data := .seq its.toArray n } = { cls := .type "list", data := .seq (its.set j u).toArray n } := by
 simp [Obj.mapSeq]
theorem Inv.lst {pins : List (Addr × Obj)} {σ : St} {H : Hp} {s : Shared} {p : Addr} {xs : List V} (I : Inv X pins σ H s) (h : H p = some (.lst xs)) :
  ∃ (its : List Value) (n : Nat), Vals xs its /\ s.heap.get? p = some { cls := .type "list", data := .seq its.toArray n } /\ xs.length <= sizeLine := by
 obtain ⟨z, its, n, r, e⟩ := I.hok p _ h
 exact ⟨its, n, r, e, z⟩
theorem Inv.lstUpd {pins : List (Addr × Obj)} {σ : St} {H : Hp} {s : Shared} {p : Addr} {xs ys : List V} {its its' : List Value} {n n' : Nat} {f : Obj -> Obj} (I : Inv X pins σ H s) (h : H p = some (.lst xs))
  (ho : s.heap.get? p = some { cls := .type "list", data := .seq its.toArray n }) (hf : f { cls := .type "list", data := .seq its.toArray n } = { cls := .type "list", data := .seq its'.toArray n' }) (r : Vals ys its') (hz : ys.length <= sizeLine) (t : Nat) :
  Inv X pins σ (upd H p (.lst ys)) { s with heap := s.heap.update p f, toks := t } := by
 have e : (s.heap.update p f).get? p = some { cls := .type "list", data := .seq its'.toArray n' } := by
  rw [Heap.get?_update_self f ho (by rw [hf] <;> rfl), hf]
 refine I.write (x := p) (e := p) (by rw [h]; trivial) (.inl rfl) (fun b u hb q => (jBz _ _ (Ne.symm hb)).trans q) ⟨_, e⟩ ?_
 exact ⟨hz, its', n', r, e⟩
def rSetL : V -> V -> V -> Hp -> (Hp -> Prop) -> Prop := fun o i v H Q => ∃ p xs k j, o = .ref p /\ i = .int k /\ H p = some (.lst xs) /\ ixN xs.length k = some j /\ Q (upd H p (.lst (xs.set j v)))
theorem set_list : PSet X rSetL := by
 intro pins s σ H o i v ov iv u Q I ro ri rv h
 obtain ⟨p, xs, k, j, rfl, rfl, hp, hj, q⟩ := h
 cases ro
 obtain ⟨t, rfl⟩ := ri
 obtain ⟨its, n, r, ho, hz⟩ := I.lst hp
 obtain ⟨h1, h2, h3, h4⟩ := ixN_seq hj
 have hl := r.length
 have hn := line63
 have I' : Inv X pins σ (upd H p (.lst (xs.set j v))) { s with heap := s.heap.update p (Obj.mapSeq (·.setIfInBounds j u)) } :=
  I.lstUpd hp ho (mapSeq_set its n j u) (r.set rv j) (by rw [List.length_set]; exact hz) s.toks
 by_cases h0 : 0 <= k
 ·have hk : k.toNat = j := by
   rw [seqIndex_of h0 h4] at h1
   exact Option.some.inj h1
  exact PySem.W.ki_setAt ho h0 (by omega) (by rw [jBy, <- hl]; exact h4) (by rw [hk]; exact ⟨_, I', q⟩)
 ·have hk : (k + (its.toArray.size : Int)).toNat = j := by
   rw [seqIndex_neg (by omega) h3] at h1
   rw [jBy, <- hl]
   exact Option.some.inj h1
  exact PySem.W.ki_setBack ho (by omega) (by rw [jBy, <- hl]; exact h3) (by omega) (by rw [hk]; exact ⟨_, I', q⟩)
theorem slice_bounds (lo hi : Option Int) (n : Nat) : (sliceBounds lo hi none n).1 = ((HT.sIx n 0 lo : Nat) : Int) /\ (sliceBounds lo hi none n).2.1 = ((HT.sIx n n hi : Nat) : Int) /\ (sliceBounds lo hi none n).2.2 = 1 := by
 refine ⟨?_, ?_, rfl⟩
 ·cases lo with
  | none => simp [sliceBounds, HT.sIx]
  | some i =>
   simp only [sliceBounds, HT.sIx, Option.getD_none, show (1 : Int) > 0 by decide, if_true]
   by_cases h : i < 0
   ·simp only [h, if_true] <;> omega
   ·simp only [h, if_false] <;> omega
 ·cases hi with
  | none => simp [sliceBounds, HT.sIx]
  | some i =>
   simp only [sliceBounds, HT.sIx, Option.getD_none, show (1 : Int) > 0 by decide, if_true]
   by_cases h : i < 0
   ·simp only [h, if_true] <;> omega
   ·simp only [h, if_false] <;> omega
theorem qE5 (its : List Value) (lo hi : Option Int) : slicePick its.toArray lo hi none = ((its.drop (HT.sIx its.length 0 lo)).take (HT.sIx its.length its.length hi - HT.sIx its.length 0 lo)).toArray := by
 obtain ⟨h1, h2, h3⟩ := slice_bounds lo hi its.toArray.size
 unfold slicePick
 rw [h1, h2, h3]
 simp only [sliceRange_one, pick_run, jBy] <;> rfl
def rSlL (K : PySem.W.Frag) : V -> Option Int -> Option Int -> Hp -> VK -> Prop := fun x lo hi H Q => ∃ a xs, x = .ref a /\ SqL K H a xs /\ ∀ p, H p = none -> Q (.ref p) (upd H p (.lst (cutV xs lo hi)))
theorem sl_list : SlR X (rSlL X.K) := by
 intro pins s σ H x v vl vu lo hi sl Q I rx hs pl pu h
 obtain ⟨a, xs, rfl, hx, q⟩ := h
 cases rx
 obtain ⟨its, r, ht, hz⟩ := I.list hx
 have hlen := r.length
 refine ⟨"list", _, slot_list_getitem.lookup, ht.isList.typeIs, ?_⟩
 refine wpAny_getItem_list_slice ht.isList hs pl pu .none (by simp) ?_ (by rw [jBy] <;> omega)
 rw [qE5, <- hlen]
 refine ⟨.ref s.heap.objs.size, _, I.laid (t' := s.toks) (o := .lst (cutV xs lo hi)) (fun b ob q => jAu _ q) (jAx _) ?_, rfl, q _ (I.hok.fresh (jAx _))⟩
 exact ⟨jAj (qEh xs lo hi) hz, _, 0, (r.drop (HT.sIx xs.length 0 lo)).take (HT.sIx xs.length xs.length hi - HT.sIx xs.length 0 lo), jAw _ rfl⟩
theorem call_len_seq : qCq X (.builtin "len") (fun xs H Q => ∃ p ys, xs = [.ref p] /\ (SqL X.K H p ys \/ SqT X.K H p ys) /\ Q (.int ys.length) H) := by
 intro pins s σ H xs us Q I r h
 obtain ⟨p, ys, rfl, hq, q⟩ := h
 obtain ⟨u, rfl, rx⟩ := vals1 r
 cases rx
 have hn := line63
 rcases hq with hq | hq
 ·obtain ⟨its, r', pl, hz⟩ := I.list hq
  have hlen := r'.length
  exact Calls.call_len_list pl.isList (by simp only [jBy] <;> omega) ⟨.int ys.length, H, I.tok _, ⟨s.toks + 1, by rw [jBy, hlen]⟩, q⟩
 ·obtain ⟨its, r', pl, hz⟩ := I.tuple hq
  have hlen := r'.length
  exact len_tuple pl (by simp only [jBy] <;> omega) ⟨.int ys.length, H, I.tok _, ⟨s.toks + 1, by rw [jBy, hlen]⟩, q⟩
theorem call_len_str : qCq X (.builtin "len") (fun xs H Q => ∃ z, xs = [.str z] /\ z.length <= sizeLine /\ Q (.int z.length) H) := by
 intro pins s σ H xs us Q I r h
 obtain ⟨z, rfl, hz, q⟩ := h
 obtain ⟨u, rfl, t, rfl⟩ := vals1 r
 have hn := line63
 exact len_str (by omega) ⟨.int z.length, H, I.tok _, ⟨_, rfl⟩, q⟩
theorem qCq.or {f : Value} {r r' : List V -> Hp -> VK -> Prop} (h : qCq X f r) (h' : qCq X f r') : qCq X f (fun xs H Q => r xs H Q \/ r' xs H Q) := by
 intro pins s σ H xs us Q I rs q
 rcases q with q | q
 ·exact h pins s σ H xs us Q I rs q
 ·exact h' pins s σ H xs us Q I rs q
theorem call_list_of : qCq X (.type "list") (fun xs H Q => ∃ p ys, xs = [.ref p] /\ (SqL X.K H p ys \/ SqT X.K H p ys) /\ ∀ l, H l = none -> Q (.ref l) (upd H l (.lst ys))) := by
 intro pins s σ H xs us Q I r h
 obtain ⟨p, ys, rfl, hq, q⟩ := h
 obtain ⟨u, rfl, rx⟩ := vals1 r
 cases rx
 have fin : ∀ (its : List Value), Vals ys its -> ys.length <= sizeLine -> ∀ (h' : Heap) (c' : Nat), (∀ b o', s.heap.get? b = some o' -> h'.get? b = some o') ->
   h'.get? s.heap.objs.size = some { cls := .type "list", dict := none, data := .seq its.toArray c', slots := #[] } -> EP X pins σ Q (.ref s.heap.objs.size) { s with heap := h' } := fun its r' hz h' c' kp e =>
  ⟨.ref s.heap.objs.size, _, I.laid (t' := s.toks) kp (jAx _) (show qBz X.prog X.w _ h' _ (.lst ys) from ⟨hz, its, c', r', e⟩), rfl, q _ (I.hok.fresh (jAx _))⟩
 rcases hq with hq | hq
 ·obtain ⟨its, r', pl, hz⟩ := I.list hq
  have hlen := r'.length
  obtain ⟨o, ho, hc, n, hd⟩ := pl.isList
  exact call_list_seq p (.inl rfl) ho hc hd (fun h' c' kp e => fin its r' hz h' c' kp e) (by simp only [jBy] <;> omega)
 ·obtain ⟨its, r', pl, hz⟩ := I.tuple hq
  have hlen := r'.length
  obtain ⟨o, ho, hc, n, hd⟩ := pl
  exact call_list_seq p (.inr rfl) ho hc hd (fun h' c' kp e => fin its r' hz h' c' kp e) (by simp only [jBy] <;> omega)
def tyV (K : PySem.W.Frag) (T : String) (x : V) (H : Hp) : Prop := match x with
 | .str _ => T = "str"
 | .int _ => T = "int"
 | .ref p => (T = "list" /\ ∃ xs, SqL K H p xs) \/ (T = "tuple" /\ ∃ o, K.lookup p = some o /\ o.cls = .type "tuple" /\ o.dict = none) \/
   (T = "dict" /\ ((∃ kvs, H p = some (.dK kvs)) \/ ∃ kvs, H p = some (.dT kvs))) \/ (T = "set" /\ ∃ S n, H p = some (.set S n))
 | _ => False
theorem tyV_is {pins : List (Addr × Obj)} {σ : St} {H : Hp} {s : Shared} {T : String} {x : V} {v : Value} (I : Inv X pins σ H s) (r : RelV x v) (ty : tyV X.K T x H) :
  s.TypeIs v T /\ ∀ a, v = .ref a -> ∃ ob, s.heap.get? a = some ob /\ ob.dict = none := by
 cases x with
 | str z =>
  obtain ⟨t, rfl⟩ := r
  cases (show T = "str" from ty)
  exact ⟨typeIs_str s z t, fun _ e => nomatch e⟩
 | int i =>
  obtain ⟨t, rfl⟩ := r
  cases (show T = "int" from ty)
  exact ⟨typeIs_int s i t, fun _ e => nomatch e⟩
 | ref p =>
  cases r
  rcases ty with ⟨rfl, xs, hq⟩ | ⟨rfl, o, hk, hc, hd⟩ | ⟨rfl, hk⟩ | ⟨rfl, S, n, hk⟩
  ·obtain ⟨its, _, pl, _⟩ := I.list hq
   refine ⟨pl.isList.typeIs, fun a e => ?_⟩
   cases e
   obtain ⟨o, n, e, c, hd, _⟩ := pl
   exact ⟨o, e, hd⟩
  ·refine ⟨⟨o, I.kIn p o hk, hc⟩, fun a e => ?_⟩
   cases e
   exact ⟨o, I.kIn _ o hk, hd⟩
  ·have z : ∃ o, s.heap.get? p = some o /\ o.ExactDict := by
    rcases hk with ⟨kvs, hk⟩ | ⟨kvs, hk⟩
    ·obtain ⟨_, _, _, _, o, _, _, e, ex, _⟩ := I.hok p _ hk
     exact ⟨o, e, ex⟩
    ·obtain ⟨_, _, _, _, o, _, _, e, ex, _⟩ := I.hok p _ hk
     exact ⟨o, e, ex⟩
   obtain ⟨o, e, ex⟩ := z
   refine ⟨⟨o, e, ex.1⟩, fun a e2 => ?_⟩
   cases e2
   exact ⟨o, e, ex.2.1⟩
  ·obtain ⟨o, _, _, _, e, ex, _⟩ := I.hok p _ hk
   refine ⟨⟨o, e, ex.1⟩, fun a e2 => ?_⟩
   cases e2
   exact ⟨o, e, ex.2.1⟩
 | _ => exact False.elim ty
def tBM0 (K : PySem.W.Frag) (T : String) (r : V -> List V -> Hp -> VK -> Prop) (to : TE) : TE := fun σ H Q => to σ H fun x H1 => tyV K T x H1 /\ r x [] H1 Q
def tBM (K : PySem.W.Frag) (T : String) (r : V -> List V -> Hp -> VK -> Prop) (to : TE) (t : TA) : TE := fun σ H Q => to σ H fun x H1 => tyV K T x H1 /\ t σ H1 fun xs H2 => r x xs H2 Q
variable {o e : Expr} {es : List Expr} {to : TE} {t : TA} {name : Str} {apos cpos : Pos} {T id : String} {r : V -> List V -> Hp -> VK -> Prop}
theorem pe_bm0 (pa : PlainAttrs T) (slot : Slot T name id) (hty : typeOf (.builtin id) = pure (.type "method_descriptor")) (hm : MtR X id r) (ho : PE X o to)
  (hbase : attributeBase o name X.env (eval o X.env) = eval o X.env := by rfl) (hline : (apos.endLine == cpos.line) = true := by rfl) : PE X (.Call (.Attribute o name apos) [] [] cpos) (tBM0 X.K T r to) := by
 intro pins s σ H Q I h
 refine wpAny_Call_method0_late hbase hline (thn (ho pins s σ H _ I h) fun v s1 ⟨x, H1, I1, r1, ty, q1⟩ => ?_)
 obtain ⟨h1, h2⟩ := tyV_is I1 r1 ty
 exact ⟨T, id, pa, slot, hty, h1, h2, Calls.callWith_builtin rfl (PySem.evalArgs_none (hm pins s1 σ H1 x [] v [] Q I1 r1 .nil q1))⟩
theorem pe_bm (pa : PlainAttrs T) (slot : Slot T name id) (hty : typeOf (.builtin id) = pure (.type "method_descriptor")) (hm : MtR X id r) (ho : PE X o to) (ha : PA X (e :: es) t)
  (hbase : attributeBase o name X.env (eval o X.env) = eval o X.env := by rfl)
  (hfew : ((backTo cpos (starEach (e :: es) X.env)).all (fun x => !x.1) && (backToKw cpos (keywordEach [] X.env)).all (fun x => x.1.isSome)
   && decide ((e :: es).length + ([] : List Keyword).length + (if ([] : List Keyword).isEmpty then 0 else 1) < 30)) = true := by rfl)
  (hline : (apos.endLine == cpos.line) = true := by rfl) (hs : starEach (e :: es) X.env = (false, eval e X.env) :: starEach es X.env := by rfl) (hplain : (backTo cpos (starEach es X.env)).any (·.1) = false := by rfl) :
  PE X (.Call (.Attribute o name apos) (e :: es) [] cpos) (tBM X.K T r to t) := by
 intro pins s σ H Q I h
 refine wpAny_Call_method_late hbase hfew hline rfl (thn (ho pins s σ H _ I h) fun v s1 ⟨x, H1, I1, r1, ty, q1⟩ => ?_)
 obtain ⟨h1, h2⟩ := tyV_is I1 r1 ty
 refine ⟨T, id, pa, slot, hty, h1, h2, ?_⟩
 have hA := ha cpos pins s1 σ H1 _ I1 q1
 rw [hs] at hA ⊢
 refine Calls.callWith_builtin (by show (false || (backTo cpos (starEach es X.env)).any (·.1)) = false; rw [hplain] <;> rfl) (Calls.evalArgs_plain ?_)
 exact thn hA fun us s2 ⟨vs, H2, I2, r2, q2⟩ => hm pins s2 σ H2 x vs v us Q I2 r1 r2 q2
end
end L2
namespace L2
open PySem PySem.Spec PyProof.Rows
def MtM (X : Cx) (id : String) (r : V -> List V -> Hp -> VK -> Prop) : Prop :=
 ∀ (pins : List (Addr × Obj)) (s : Shared) (σ : St) (H : Hp) (x : V) (xs : List V) (v : Value) (us : List Value) (Q : VK), Inv X pins σ H s -> RelV x v -> Vals xs us -> r x xs H Q ->
  wpAny (model X.prog X.w) X.A (call (.builtin id) (v :: us)) (EP X pins σ Q) X.xe s
theorem Vals.one : ∀ {x : V} {us : List Value}, Vals [x] us -> ∃ u, us = [u] /\ RelV x u
 | _, _, .cons r .nil => ⟨_, rfl, r⟩
theorem Vals.two : ∀ {x y : V} {us : List Value}, Vals [x, y] us -> ∃ u v, us = [u, v] /\ RelV x u /\ RelV y v
 | _, _, _, .cons r (.cons q .nil) => ⟨_, _, rfl, r, q⟩
theorem Vals.zero : ∀ {us : List Value}, Vals [] us -> us = []
 | _, .nil => rfl
theorem Vals.rep {xs : List V} {us : List Value} (h : Vals xs us) : ∀ k : Nat, Vals (jBk k xs).flatten (jBk k us).flatten
 | 0 => .nil
 | k + 1 => by
  rw [jB0, jB0, jB1, jB1]
  exact Vals.append h (Vals.rep h k)
theorem foldl_rep (its : List Value) : ∀ (k : Nat) (acc : List Value),
  List.foldl (fun x1 x2 => x1 ++ x2) acc.toArray (jBk k its.toArray) = (acc ++ (jBk k its).flatten).toArray
 | 0, acc => by simp
 | k + 1, acc => by
  have e : acc.toArray ++ its.toArray = (acc ++ its).toArray := by simp
  have e2 : (acc ++ its) ++ (jBk k its).flatten = acc ++ (jBk (k + 1) its).flatten := by
   rw [jB0, jB1, List.append_assoc]
  rw [<- e2, <- foldl_rep its k (acc ++ its), <- e, jB0, jB2]
section
variable {X : Cx} {pins : List (Addr × Obj)} {σ : St} {H : Hp} {s : Shared} {l b : Addr} {xs ys zs : List V}
theorem Inv.lset {its its' : List Value} {n : Nat} {f : Array Value -> Array Value} {t' : Nat} (I : Inv X pins σ H s) (hH : H l = some (.lst xs))
  (e : s.heap.get? l = some { cls := .type "list", data := .seq its.toArray n }) (hf : f its.toArray = its'.toArray) (hv : Vals ys its') (hz : ys.length <= sizeLine) :
  Inv X pins σ (upd H l (.lst ys)) { s with heap := s.heap.update l (Obj.mapSeq f), toks := t' } := by
 have q := PySem.IsL.update e f
 rw [hf] at q
 refine I.write (x := l) (e := l) (by rw [hH]; exact trivial) (.inl rfl) (fun b' u hb hu => (jBz s.heap (Obj.mapSeq f) (Ne.symm hb)).trans hu) ⟨_, q⟩ ?_
 exact ⟨hz, its', _, hv, q⟩
theorem Inv.lnew {its : List Value} {t' : Nat} (I : Inv X pins σ H s) (hv : Vals ys its) (hz : ys.length <= sizeLine) :
  Inv X pins σ (upd H s.heap.objs.size (.lst ys)) { s with heap := s.heap.push { cls := .type "list", data := .seq its.toArray }, toks := t' } :=
 I.laid (fun _ _ q => jAu _ q) (jAx _) ⟨hz, its, 0, hv, jAw _ rfl⟩
theorem Inv.fresh (I : Inv X pins σ H s) : H s.heap.objs.size = none := I.hok.fresh (jAx _)
theorem Inv.lstM (I : Inv X pins σ H s) (hH : H l = some (.lst xs)) : xs.length <= sizeLine /\ ∃ (its : List Value) (n : Nat), Vals xs its /\ xs.length = its.length /\ s.heap.get? l = some { cls := .type "list", data := .seq its.toArray n } := by
 obtain ⟨z, its, n, r, e⟩ := I.hok l _ hH
 exact ⟨z, its, n, r, r.length, e⟩
theorem Inv.lstR (I : Inv X pins σ H s) (hH : Rd H l (.lst xs)) : xs.length <= sizeLine /\ ∃ (its : List Value) (n : Nat), Vals xs its /\ xs.length = its.length /\ s.heap.get? l = some { cls := .type "list", data := .seq its.toArray n } := by
 obtain ⟨z, its, n, r, e⟩ := hH.ok I.hok
 exact ⟨z, its, n, r, r.length, e⟩
theorem notLongL {n : Nat} (h : n <= sizeLine) : Builtin.List.listTooLong n = false := by
 unfold Builtin.List.listTooLong
 exact decide_eq_false (by omega)
end
section
variable {X : Cx}
def rAppend : V -> List V -> Hp -> VK -> Prop := fun x vs H Q => ∃ l xs y, x = .ref l /\ vs = [y] /\ H l = some (.lst xs) /\ xs.length < sizeLine /\ Q .non (upd H l (.lst (xs ++ [y])))
theorem mt_append : MtM X "list.append" rAppend := by
 intro pins s σ H x vs v us Q I rx rv h
 obtain ⟨l, xs, y, rfl, rfl, hH, hz, q⟩ := h
 cases rx
 obtain ⟨u, rfl, ru⟩ := rv.one
 obtain ⟨z, its, n, r, hl, e⟩ := I.lstM hH
 refine call_meets F.slot_list_append ⟨_, e, rfl⟩ F.entry_list_append (F.args_list_append_2 _ _) (PySem.list_append l its.toArray n u (by rw [jBy]; omega)) ⟨e, ?_⟩
 refine ⟨.non, _, I.lset (its' := its ++ [u]) hH e (by simp) (r.append (.cons ru .nil)) ?_, rfl, q⟩
 rw [jBu, jB3]
 omega
def rClear : V -> List V -> Hp -> VK -> Prop := fun x vs H Q => ∃ l xs, x = .ref l /\ vs = [] /\ H l = some (.lst xs) /\ Q .non (upd H l (.lst []))
theorem mt_clear : MtM X "list.clear" rClear := by
 intro pins s σ H x vs v us Q I rx rv h
 obtain ⟨l, xs, rfl, rfl, hH, q⟩ := h
 cases rx
 have hus := rv.zero
 subst hus
 obtain ⟨z, its, n, r, hl, e⟩ := I.lstM hH
 refine call_meets F.slot_list_clear ⟨_, e, rfl⟩ F.entry_list_clear (F.args_list_clear_1 _) (AutoSeq1.list_clear_list_0 l its.toArray n (by rw [jBy]; omega)) ⟨e, ?_⟩
 exact ⟨.non, _, I.lset (its' := []) (ys := []) hH e rfl .nil (jBg _), rfl, q⟩
def rCat : R2 := fun x y H Q => ∃ l b xs zs, x = .ref l /\ y = .ref b /\ Rd H l (.lst xs) /\ Rd H b (.lst zs) /\ xs.length + zs.length <= sizeLine /\ ∀ p, H p = none -> Q (.ref p) (upd H p (.lst (xs ++ zs)))
theorem op_cat : OpR X (binaryOp .Add) rCat := by
 intro pins s σ H x y v u Q I rx ry h
 obtain ⟨l, b, xs, zs, rfl, rfl, hH, hB, hz, q⟩ := h
 cases rx
 cases ry
 obtain ⟨z, its, n, r, hl, e⟩ := I.lstR hH
 obtain ⟨z2, its2, n2, r2, hl2, e2⟩ := I.lstR hB
 refine PySem.P.add_list e e2 ?_ (by rw [jBy, jBy]; omega)
 have ea : its.toArray ++ its2.toArray = (its ++ its2).toArray := by simp
 rw [ea]
 exact ⟨.ref _, _, I.lnew (t' := s.toks) (r.append r2) (by rw [jBu]; omega), rfl, q _ I.fresh⟩
def rRep : R2 := fun x y H Q => ∃ l k xs, x = .ref l /\ y = .int k /\ Rd H l (.lst xs) /\ -(2 ^ 63) <= k /\ k < 2 ^ 63 /\ xs.length * k.toNat <= sizeLine /\
 ∀ p, H p = none -> Q (.ref p) (upd H p (.lst (jBk k.toNat xs).flatten))
theorem len_rep {α : Type} (xs : List α) (k : Nat) : (jBk k xs).flatten.length = k * xs.length := by
 induction k with
 | zero => simp
 | succ k ih => rw [jB0, jB1, jBu, ih, jB4, Nat.add_comm]
theorem op_rep : OpR X (binaryOp .Mult) rRep := by
 intro pins s σ H x y v u Q I rx ry h
 obtain ⟨l, k, xs, rfl, rfl, hH, h1, h2, hz, q⟩ := h
 cases rx
 obtain ⟨t, rfl⟩ := ry
 obtain ⟨z, its, n, r, hl, e⟩ := I.lstR hH
 have hlen : its.toArray.size * k.toNat <= sizeLine := by rw [jBy, <- hl]; exact hz
 have hcap : ¬ its.toArray.size * k.toNat > (2 ^ 63 - 1) / 8 := by
  have : (sizeLine : Nat) <= (2 ^ 63 - 1) / 8 := by decide
  omega
 have hfit : ¬ (!Builtin.List.listFitsIndex k) = true := by
  rw [fitsIndex_both h1 h2]
  exact Bool.false_ne_true
 have hlong : ¬ Builtin.List.listTooLong (its.toArray.size * k.toNat) = true := by
  rw [notLongL hlen]
  exact Bool.false_ne_true
 have hnew : List.foldl (fun x1 x2 => x1 ++ x2) #[] (jBk (if its.toArray.isEmpty = true then 0 else k.toNat) its.toArray) = (jBk k.toNat its).flatten.toArray := by
  have f0 : ∀ m : Nat, List.foldl (fun x1 x2 => x1 ++ x2) #[] (jBk m its.toArray) = (jBk m its).flatten.toArray := fun m => by
   have := foldl_rep its m []
   rw [jB5] at this
   exact this
  rw [f0]
  cases its with
  | nil => simp
  | cons a r' => rw [if_neg (by simp)]
 refine wpAny_binaryOp_repeat_ref (T := "list") (U := "int") (by decide) ⟨_, e, rfl⟩ (fun s' => typeIs_int s' k t) noFill_list_mul F.fills_int_mul F.slot_int_rmul repeat_list F.slot_int_index.lookup
  (call_meets F.slot_int_rmul (typeIs_int s k t) F.entry_int_rmul (F.args_int_rmul_2 _ _) (int___rmul___int_list k t l its.toArray n)
   ⟨e, rfl, ⟨_, e, rfl⟩, call_meets F.slot_list_mul ⟨_, e, rfl⟩ F.entry_list_mul (F.args_list_mul_2 _ _) (AutoListH.list___mul___list_int_3 l its.toArray n k t hfit hcap hlong) ⟨e, ?_⟩⟩)
 rw [hnew]
 exact ⟨.ref _, _, I.lnew (t' := s.toks) (r.rep k.toNat) (by rw [len_rep, jB6]; exact hz), rfl, q _ I.fresh⟩
end
end L2
namespace Att
open PySem PySem.W PySem.Calls PyProof.Rows
theorem qEa {P : Params} {h : Heap} : ∀ (ns : List Int) (vs : List Value), WellAll P h vs (ns.map WData.int) -> IntsAre vs ns := by
 intro ns
 induction ns with
 | nil =>
  intro vs w
  rw [jB7] at w
  cases w
  exact .nil
 | cons n ns ih =>
  intro vs w
  rw [jBb] at w
  cases w with
  | cons a b =>
   cases a
   exact .cons _ _ (ih _ b)
theorem script_of {l : OpenLaw} {n : Nat} (hn : l.most = some n) {P : Params} {h : Heap} {args : List WData} {vals : List Value}
  (hpre : l.row.toRowW.claim.pre args = true) (hwl : WellAll P h vals args) :
  ∃ a vs ns, vals = [Value.ref a] /\ args = [WData.list (ns.map WData.int)] /\ h.get? a = some { cls := .type "list", data := .seq vs.toArray } /\ IntsAre vs ns /\ ns.length <= n := by
 have hsh : WShape.hasAll [] args [.list .int] = true := (pre_splitW hpre).1
 have hc : l.pre.holds [] { args := args } = true := (pre_splitW hpre).2
 obtain ⟨d, r, rfl, h1, h2⟩ := hasAllW_cons hsh
 obtain rfl := hasAllW_nil h2
 obtain ⟨xs, rfl, h3⟩ := hasW_list h1
 obtain ⟨ns, rfl⟩ := items_int h3
 have hlen : ns.length <= n := by
  unfold OpenLaw.pre at hc
  have h4 : (WTm.not (.lt (.lit (.int (n : Int))) (.len (.arg 0)))).holds [] { args := [.list (ns.map .int)] } = true := by
   have h4 := (holds_andW hc).1
   rw [hn] at h4
   exact h4
  have h5 := condW_of h4 (w_not (w_lt w_lit (w_len_list (w_arg rfl))))
  rw [jBd] at h5
  refine jB8 fun q => ?_
  have q' : (n : Int) < ((ns.length : Nat) : Int) := by omega
  first
   | (rw [decide_eq_true q'] at h5; exact absurd h5 (by decide))
   | (simp at h5; omega)
 cases hwl with
 | cons w1 w2 =>
  cases w2
  cases w1 with
  | list ho hall => exact ⟨_, _, ns, rfl, rfl, ho, qEa ns _ hall, hlen⟩
theorem post_true (l : OpenLaw) (args : List WData) : l.row.toRowW.claim.post args (.bool true) args = true :=
 postW_of (r := l.row.toRowW) (X := (true == true))
  (show WShape.has [] (.bool true) .bool = true by first | rfl | decide | simp [WShape.has, WShape.arms, WShape.armsAll])
  (show (WTm.eq .res (.lit (.bool true))).value [] { args := args, res := some (.bool true), after := args } = some (.bool (true == true)) from w_eq_bool (w_res rfl) w_lit) rfl
theorem attach_call {l : OpenLaw} {n : Nat} {q : Program} {loose : List Str} {XP : (Str -> Option Value) -> Heap -> Prop} {YP : World -> Heap -> Prop} {d : DefRec}
  (hn : l.most = some n) (hdf : d.params.defaults = [])
  (call : ∀ (w : World) (s₀ s₁ : Shared) (mg mb : Str -> Option Value) (fa : Addr) (o : Obj) (pm cd doc : Value) (a : Addr) (vs : List Value) (ns : List Int),
   Ground q loose [] XP w s₀ mg mb s₁.heap -> YP w s₁.heap ->
   s₁.heap.get? fa = some o -> o.data = .func (docDef d.name d.params d.body d.scope pm cd doc) -> s₁.heap.CodeRec cd d.name -> mg d.name = some (.ref fa) ->
   s₁.heap.get? a = some { cls := .type "list", data := .seq vs.toArray } -> IntsAre vs ns -> ns.length <= n -> (∀ z ∈ ns, z.natAbs.log2 < 1048577) -> s₁.gens = #[] ->
   codeAny (model l.prog w) callerA (.call (.ref fa) ⟨[.ref a], []⟩) (fun r s' => r = .ok (.ret (.bool true)) /\ OldK s₁.heap s'.heap /\ s'.os = s₁.os /\ AllBare s'.gens) s₁) :
  WalkO q loose XP YP l.row.toRowW d [] (fun f vs => PySem.call f vs) := by
 intro w s₀ s₁ mg mb G Y fa o pm cd doc dV kV ho hd hcd hD hmg hg args vals as hpre hlay hrd hwl hlo
 obtain rfl : dV = .none := Dflts.none hD hdf
 obtain rfl : kV = .none := Dflts.noKw hD
 obtain ⟨a, vs, ns, rfl, rfl, hobj, hints, hlen⟩ := script_of hn hpre hwl
 have hbits : ∀ z ∈ ns, z.natAbs.log2 < 1048577 := fun z hz => by
  have l1 := layableW_arg hlay (WData.list (ns.map WData.int)) (by simp)
  have l2 := layableW_item l1 (WData.int z) (jB9.mpr ⟨z, hz, rfl⟩)
  have l3 : (if z == 0 then 0 else z.natAbs.log2 + 1) <= 2 ^ 20 := by simpa [WData.weight] using (layableW_iff.mp l2).2.2
  by_cases h0 : z = 0
  ·subst h0; decide
  ·rw [if_neg (by simpa using h0)] at l3
   omega
 refine enter_call (codeAny_mono (call w s₀ s₁ mg mb fa o pm cd doc a vs ns G Y ho (fd_plain hd) hcd hmg hobj hints hlen hbits hg) fun r s' hq => ?_)
 obtain ⟨rfl, h2, h3, h4⟩ := hq
 exact ⟨.inl ⟨.bool true, .bool true, [], rfl, fun _ => rfl, .bool true, post_true l _, fun _ => ⟨List.Pairwise.nil, fun _ hm => (nomatch hm)⟩⟩, h2, h3, h4⟩
end Att
namespace L2
open PySem PySem.Spec PyProof.Rows
theorem vals_ints : ∀ {vs : List Value} {ns : List Int}, IntsAre vs ns -> Vals (ns.map V.int) vs
 | _, _, .nil => .nil
 | _, _, .cons n t h => .cons ⟨t, rfl⟩ (vals_ints h)
def Only (H : Hp) : Prop := ∀ b, H b = none \/ ∃ o xs, H b = some (.frz o (.lst xs))
theorem law_call {P : Program} {w : World} {K : PySem.W.Frag} {mg mb : Str -> Option Value} {CX : CXT} {k : Nat} {fa a : Addr} {fd : FuncData} {x : Str} {sp : Sp} {s₁ : Shared} {vs : List Value} {ns : List Int}
  (KX : K.In s₁.heap) (hns : s₁.heap.Ns mainGlobals mg) (hb : s₁.heap.Ns builtinsNs mb) (hbb : ∀ x : Str, x ≠ "__name__" -> mb x = bootBuiltins x) (hlim : s₁.heap.NoLimit) (hse : s₁.heap.NoSeer) (hg : s₁.gens = #[])
  (ha : s₁.heap.get? a = some { cls := .type "list", data := .seq vs.toArray }) (hi : IntsAre vs ns) (hl : ns.length <= sizeLine) (hr : Room k callerA)
  (F : ∀ base : Heap, K.In base -> base.Ns mainGlobals mg -> FnOk P w K mg base CX k fa fd [x] sp) (hbind : ∀ (s : Shared) (u : Value), BindsTo s fd ⟨[u], []⟩ [(x, u)])
  (hsp : ∀ H : Hp, Only H -> SqL K H a (ns.map V.int) -> sp [.ref a] H (fun v _ => v = .bl true) fun _ _ _ => False)
  (hCX : ∀ H e s', CX [] H s₁ (fun _ _ _ => False) e s' -> False) :
  codeAny (model P w) callerA (.call (.ref fa) ⟨[.ref a], []⟩) (fun r s' => r = .ok (.ret (.bool true)) /\ OldK s₁.heap s'.heap /\ s'.os = s₁.os /\ AllBare s'.gens) s₁ := by
 have rv := vals_ints hi
 have lenV := hi.length
 -- from an abstract heap in which nothing but the script may be tracked
 have core : ∀ H : Hp, Only H -> SqL K H a (ns.map V.int) -> HOk P w H s₁.heap -> (∀ b, H b ≠ none -> b = a) -> (H a ≠ none -> K.lookup a = none) ->
   codeAny (model P w) callerA (.call (.ref fa) ⟨[.ref a], []⟩) (fun r s' => r = .ok (.ret (.bool true)) /\ OldK s₁.heap s'.heap /\ s'.os = s₁.os /\ AllBare s'.gens) s₁ := by
  intro H hO hS hok hA hK
  have base_of : ∀ {b : Addr} {o : Obj}, s₁.heap.get? b = some o -> H b = none -> (hidT s₁.heap H).get? b = some o := fun e n => hidT_get e n
  have noA : ∀ {b : Addr} {o : Obj} {es : Array DictEntry} {ep : Nat}, s₁.heap.get? b = some o -> o.data = .dict es ep -> H b = none := fun {b o es ep} e d => by
   cases q : H b with
   | none => rfl
   | some u =>
    have e' : b = a := hA b (by rw [q]; simp)
    subst e'
    rw [ha] at e; cases e
    have d' : Data.seq vs.toArray _ = Data.dict es ep := d
    cases d'
  have nsK : ∀ {b : Addr} {m : Str -> Option Value}, s₁.heap.Ns b m -> (hidT s₁.heap H).Ns b m := fun {b m} ⟨o, es, ep, e, d, r⟩ => ⟨o, es, ep, base_of e (noA e d), d, r⟩
  have hKb : K.In (hidT s₁.heap H) := fun b o e => base_of (KX b o e) (by
   cases q : H b with
   | none => rfl
   | some u =>
    have e' : b = a := hA b (by rw [q]; simp)
    subst e'
    rw [hK (by rw [q]; simp)] at e; cases e)
  have hM : Mod K mg (hidT s₁.heap H) := ⟨hKb, nsK hns, ⟨mb, nsK hb, hbb⟩, let ⟨mc, h1, h2⟩ := hlim; ⟨mc, nsK h1, h2⟩,
   ⟨let ⟨mc, a, b⟩ := hse.statics; ⟨mc, nsK a, b⟩, let ⟨mc, a, b⟩ := hse.mods; ⟨mc, nsK a, b⟩, let ⟨mc, a, b⟩ := hse.imp; ⟨mc, nsK a, b⟩, let ⟨mg', bm, ob, a', b', c', d', e'⟩ := hse.main; ⟨mg', bm, ob, nsK a', b', base_of c' (by
    cases q : H bm with
    | none => rfl
    | some u =>
     have e2 : bm = a := hA bm (by rw [q]; simp)
     subst e2
     rw [ha] at c'; cases c'
     have d2 : Value.type "list" = Value.type "module" := d'
     exact absurd d2 (by decide +kernel)), d', e'⟩⟩⟩
  have e0 : Env0 P w K mg (hidT s₁.heap H) callerA [] s₁ H := ⟨rfl, hM, fun b o e => of_hidT e, Nat.le_of_eq (hidT_size _ _), trivial, fun b hb => absurd (show b ∈ ([] : List Addr) from hb) (by simp), hok, .of_eq hg⟩
  refine codeAny_mono ((F _ hKb (nsK hns)).run callerA [] s₁ H ⟨[.ref a], []⟩ [.ref a] [.ref a] _ _ hr e0 (hbind s₁ (.ref a)) (.cons rfl .nil) (hsp H hO hS)) fun r s' h => ?_
  cases r with
  | error e => exact (hCX H e s' h).elim
  | ok fl =>
   cases fl with
   | next => exact False.elim h
   | brk => exact False.elim h
   | cont => exact False.elim h
   | ret u =>
    obtain ⟨v, H', os, bare, un, hok', r', q⟩ := h
    have q' : v = .bl true := q
    subst q'
    obtain rfl : u = Value.bool true := r'
    refine ⟨rfl, OldK.of_keep fun b o e => ?_, os, bare⟩
    cases q : H b with
    | none => exact un.keep b o e q (by intro z; exact absurd (show b ∈ ([] : List Addr) from z) (by simp)) (by simp)
    | some u =>
     rcases hO b with z | ⟨ob, xs, z⟩
     ·rw [q] at z; cases z
     ·have z2 := un.frzs b ob _ z
      obtain ⟨e1, _⟩ := hok b _ z
      obtain ⟨e2, _⟩ := hok' b _ z2
      rw [e] at e1; cases e1
      exact e2
 cases hk : K.lookup a with
 | some o =>
  -- the script is one of the module's own objects
  have e := KX a o hk
  rw [ha] at e
  cases e
  refine core (fun _ => none) (fun _ => .inl rfl) (.inr ⟨_, vs.toArray, _, hk, rfl, rfl, rfl, by rw [jBy, lenV]; exact hl, by simpa using rv⟩) (fun b u z => by have z' : (none : Option HO) = some u := z; cases z') (fun b z => absurd rfl z) fun z => absurd rfl z
 | none =>
  refine core (fun b => if b = a then some (.frz { cls := .type "list", data := .seq vs.toArray } (.lst (ns.map V.int))) else none) (fun b => ?_) (.inl (.inr ⟨{ cls := .type "list", data := .seq vs.toArray }, if_pos rfl⟩)) (fun b u z => ?_) (fun b z => ?_) fun _ => hk
  ·by_cases hb : b = a
   ·exact .inr ⟨_, _, if_pos hb⟩
   ·exact .inl (if_neg hb)
  ·by_cases hb : b = a
   ·have z' := (if_pos hb).symm.trans z
    cases z'
    subst hb
    exact ⟨ha, by rw [jBd]; exact hl, vs, _, rv, ha⟩
   ·have z' := (if_neg hb).symm.trans z
    cases z'
  ·by_cases hb : b = a
   ·exact hb
   ·exact absurd (if_neg hb) z
end L2
namespace L2
open PySem PySem.Spec PyProof.Rows
theorem walk_of {l : PySem.W.OpenLaw} {n k : Nat} {q : Program} {loose : List Str} {XP : (Str -> Option Value) -> Heap -> Prop} {YP : World -> Heap -> Prop} {d : DefRec} {K : Params -> PySem.W.Frag} {CX : World -> CXT} {sp : World -> Sp} {x : Str}
  (hn : l.most = some n) (hn2 : n <= sizeLine) (hdf : d.params.defaults = []) (hr : Room k callerA)
  (hY : ∀ (w : World) (h : Heap), YP w h -> (K w.params).In h)
  (F : ∀ (w : World) (mg : Str -> Option Value) (fa : Addr) (h : Heap), (K w.params).In h -> h.Ns mainGlobals mg -> mg d.name = some (.ref fa) ->
   ∃ fd : FuncData, (∀ (s : Shared) (u : Value), BindsTo s fd ⟨[u], []⟩ [(x, u)]) /\
    ∀ base : Heap, (K w.params).In base -> base.Ns mainGlobals mg -> FnOk l.prog w (K w.params) mg base (CX w) k fa fd [x] (sp w))
  (hq : PyProof.Rows.importsNone q = true)
  (hsp : ∀ (w : World) (H : Hp) (a : Addr) (ns : List Int), ns.length <= n -> (∀ z ∈ ns, z.natAbs.log2 < 1048577) -> Only H -> SqL (K w.params) H a (ns.map V.int) -> sp w [.ref a] H (fun v _ => v = .bl true) fun _ _ _ => False)
  (hCX : ∀ (w : World) (H : Hp) (s : Shared) (e : Value) (s' : Shared), CX w [] H s (fun _ _ _ => False) e s' -> False) :
  PySem.W.WalkO q loose XP YP l.row.toRowW d [] (fun f vs => PySem.call f vs) := by
 refine Att.attach_call hn hdf fun w s₀ s₁ mg mb fa o pm cd doc a vs ns G Y ho hd hcd hmg hobj hints hlen hbits hg => ?_
 have KX := hY w _ Y
 obtain ⟨fd, hb, hF⟩ := F w mg fa _ KX G.T.g hmg
 exact law_call KX G.T.g G.T.b G.T.builtins G.T.nolimit (G.T.seer hq) hg hobj hints (jAj hlen hn2) hr hF hb (fun H hO hS => hsp w H a ns hlen hbits hO hS) fun H e s' => hCX w H s₁ e s'
end L2
namespace L2
open PySem PySem.Spec PyProof.Rows
def zI (s : Stmt) : Arguments := match s with
 | .FunctionDef _ a _ _ _ _ _ _ _ _ => a
 | _ => { posonlyargs := [], args := [], vararg := none, kwonlyargs := [], kw_defaults := [], kwarg := none, defaults := [] }
def zG (s : Stmt) : List Stmt := match s with
 | .FunctionDef _ _ b _ _ _ _ _ _ _ => b
 | _ => []
def zC (s : Stmt) : Scope := match s with
 | .FunctionDef _ _ _ _ _ _ sc _ _ _ => sc
 | _ => { kind := .function, names := [], isGenerator := false, isCoroutine := false }
abbrev CX0 : CXT := fun _ _ _ _ _ _ => False
abbrev E0 : XK := fun _ _ _ => False
theorem zT {X : Cx} : qB6 CX0 X E0 := fun _ _ _ _ _ _ _ h => h.elim
structure Fun (K : PySem.W.Frag) (x qual : Str) (st : Stmt) (f : Addr) (fd : FuncData) : Prop where
 ex : ∃ (oc : Value) (od : Option Addr) (kV doc pm : Value) (an : Option Addr) (cdv ct : Value) (osl : Array (Option Value)),
  fd = jBw x qual (zI st) (zG st) (zC st) .none kV doc pm an cdv ct /\ K.lookup f = some ⟨oc, od, .func fd, osl⟩ /\ jBx K cdv qual = true
 kp : jBc K (.ref f) = true
section
variable {P : Program} {w : World} {K : PySem.W.Frag} {mg : Str -> Option Value} {base : Heap}
theorem Fun.ok {x qual : Str} {st : Stmt} {f : Addr} {fd : FuncData} {N ps : List Str} {k : Nat} {sp : Sp} (F : Fun K x qual st f fd) (S : zN N ps (zC st)) (len : ∀ vs H Q E, sp vs H Q E -> vs.length = ps.length)
  (hbody : ∀ (cdv : Value) (A : Around) (outer : List Env) (s : Shared) (H : Hp) (vs : List V) (Q : VK) (E : XK), Room k (A.deeper (envOfC qual (zC st) s.heap.objs.size f cdv)) -> sp vs H Q E ->
   ∃ t, PSs (cxOf CX0 P w K mg base N qual (zC st) f cdv A outer s H E).nox (zG st) t /\ t { nx := fun _ H' => Q .non H', rt := Q } (start N vs) H) : FnOk P w K mg base CX0 (k + 1) f fd ps sp := by
 obtain ⟨oc, od, kV, doc, pm, an, cdv, ct, osl, rfl, lk, hcd⟩ := F.ex
 refine fn_of lk hcd S len fun A outer s H vs Q E hr hsp => ?_
 obtain ⟨t, h, q⟩ := hbody cdv A outer s H vs Q E hr hsp
 exact ⟨t, h.nox, q⟩
theorem Fun.binds {x qual : Str} {st : Stmt} {f : Addr} {fd : FuncData} {ps : List Str} (F : Fun K x qual st f fd)
  (h : ∀ (kV doc pm : Value) (an : Option Addr) (cdv ct : Value) (us : List Value), us.length = ps.length -> bindArgs (jBw x qual (zI st) (zG st) (zC st) .none kV doc pm an cdv ct) ⟨us, []⟩ = pure (ps.zip us)) : zV K fd ps [] := by
 obtain ⟨oc, od, kV, doc, pm, an, cdv, ct, osl, rfl, lk, hcd⟩ := F.ex
 exact .all (h kV doc pm an cdv ct)
theorem yE {x qual : Str} {st : Stmt} {f : Addr} {oc : Value} {od an : Option Addr} {osl : Array (Option Value)} {kV doc pm cdv ct : Value} (l : K.lookup f = some ⟨oc, od, .func (jBw x qual (zI st) (zG st) (zC st) .none kV doc pm an cdv ct), osl⟩)
  (c : jBx K cdv qual = true) (k : jBc K (.ref f) = true) : Fun K x qual st f (jBw x qual (zI st) (zG st) (zC st) .none kV doc pm an cdv ct) := ⟨⟨oc, od, kV, doc, pm, an, cdv, ct, osl, rfl, l, c⟩, k⟩
end
def Same (H H' : Hp) : Prop := ∀ b o, H b = some o -> H' b = some o
theorem Same.refl (H : Hp) : Same H H := fun _ _ h => h
theorem Same.trans {H H1 H2 : Hp} (a : Same H H1) (b : Same H1 H2) : Same H H2 := fun c o h => b c o (a c o h)
theorem Same.free {H H' : Hp} (e : Same H H') {l : Addr} (h : H' l = Option.none) : H l = Option.none := by
 cases q : H l with
 | none => rfl
 | some o =>
  rw [e l o q] at h
  cases h
theorem Same.seq {K : PySem.W.Frag} {H H' : Hp} {a : Addr} {xs : List V} (e : Same H H') (h : SqL K H a xs) : SqL K H' a xs := by
 rcases h with (h | ⟨o, h⟩) | h
 ·exact .inl (.inl (e _ _ h))
 ·exact .inl (.inr ⟨o, e _ _ h⟩)
 ·exact .inr h
end L2
end
section
namespace Np
open PySem
inductive D where
 | non | bl (b : Bool) | int (i : Int) | str (x : Str) | tup (xs : List D) | ref (a : Nat) | exc (c : Str) | scr (xs : List D)
 deriving Inhabited
inductive O where
 | lst (xs : List D) | dct (kvs : List (D × D)) | ins (c : Str) (fs : List (Str × D))
 deriving Inhabited
abbrev Sto := List O
inductive Rs (α : Type) where
 | ok (a : α) (S : Sto)
 | er (c : Str) (S : Sto)
abbrev R (α : Type) := Option (Rs α)
@[reducible] def ok {α : Type} (a : α) (S : Sto) : R α := some (.ok a S)
@[reducible] def er {α : Type} (c : Str) (S : Sto) : R α := some (.er c S)
def bnd {α β : Type} (m : R α) (k : α -> Sto -> R β) : R β := match m with
 | some (.ok a S) => k a S
 | some (.er c S) => some (.er c S)
 | none => none
@[simp] theorem bnd_ok {α β : Type} (a : α) (S : Sto) (k : α -> Sto -> R β) : bnd (some (Rs.ok a S)) k = k a S := rfl
theorem qAm {α β : Type} {m : R α} {k : α -> Sto -> R β} {r : Rs β} (h : bnd m k = some r) : (∃ a S, m = ok a S /\ k a S = some r) \/ ∃ c S, m = er c S /\ r = .er c S := by
 cases m with
 | none => cases h
 | some m =>
  cases m with
  | ok a S => exact .inl ⟨a, S, rfl, h⟩
  | er c S => cases h; exact .inr ⟨c, S, rfl, rfl⟩
abbrev DS := List (Option D)
inductive Fl where
 | nx (δ : DS) | rt (d : D) | bk (δ : DS) | ct (δ : DS)
abbrev DE := DS -> Sto -> R D
abbrev DT := DS -> Sto -> R Bool
abbrev DA := DS -> Sto -> R (List D)
abbrev DSt := DS -> Sto -> R Fl
abbrev DG := D -> DS -> Sto -> R DS
def vr (i : Nat) (δ : DS) (S : Sto) : R D := match δ[i]? with
 | some (some d) => ok d S
 | _ => none
def cst (d : D) (_ : DS) (S : Sto) : R D := ok d S
def op1 (f : D -> Sto -> R D) (a : DE) (δ : DS) (S : Sto) : R D := bnd (a δ S) f
def op2K (f : D -> D -> Sto -> R D) (b : DE) (δ : DS) (x : D) (S : Sto) : R D := bnd (b δ S) (f x)
def op2 (f : D -> D -> Sto -> R D) (a b : DE) (δ : DS) (S : Sto) : R D := bnd (a δ S) (op2K f b δ)
def aNil (_ : DS) (S : Sto) : R (List D) := ok [] S
def consK (x : D) (xs : List D) (S : Sto) : R (List D) := ok (x :: xs) S
def aConsK (r : DA) (δ : DS) (x : D) (S : Sto) : R (List D) := bnd (r δ S) (consK x)
def yH (e : DE) (r : DA) (δ : DS) (S : Sto) : R (List D) := bnd (e δ S) (aConsK r δ)
def fnE (f : List D -> Sto -> R D) (as : DA) (δ : DS) (S : Sto) : R D := bnd (as δ S) f
def fnD (f : List D -> Sto -> R D) (ds : List D) (as : List D) (S : Sto) : R D := f (as ++ ds) S
def ifEK (a b : DE) (δ : DS) : Bool -> Sto -> R D
 | true, S => a δ S
 | false, S => b δ S
def ifE (t : DT) (a b : DE) (δ : DS) (S : Sto) : R D := bnd (t δ S) (ifEK a b δ)
def zH (S : Sto) (a : Nat) : Option (List D) := match S[a]? with
 | some (.lst xs) => some xs
 | _ => none
def truV : D -> Sto -> R Bool
 | .bl b, S => ok b S
 | _, _ => none
def tv (e : DE) (δ : DS) (S : Sto) : R Bool := bnd (e δ S) truV
def andTK (b : DT) (δ : DS) : Bool -> Sto -> R Bool
 | true, S => b δ S
 | false, S => ok false S
def andT (a b : DT) (δ : DS) (S : Sto) : R Bool := bnd (a δ S) (andTK b δ)
def orTK (b : DT) (δ : DS) : Bool -> Sto -> R Bool
 | true, S => ok true S
 | false, S => b δ S
def orT (a b : DT) (δ : DS) (S : Sto) : R Bool := bnd (a δ S) (orTK b δ)
def notK (c : Bool) (S : Sto) : R Bool := ok (!c) S
def notT (a : DT) (δ : DS) (S : Sto) : R Bool := bnd (a δ S) notK
def andVB (b : DE) (δ : DS) : Bool -> Sto -> R D
 | true, S => b δ S
 | false, S => ok (.bl false) S
def andVK (b : DE) (δ : DS) (x : D) (S : Sto) : R D := bnd (truV x S) (andVB b δ)
def andV (a b : DE) (δ : DS) (S : Sto) : R D := bnd (a δ S) (andVK b δ)
def orVB (b : DE) (δ : DS) : Bool -> Sto -> R D
 | true, S => ok (.bl true) S
 | false, S => b δ S
def orVK (b : DE) (δ : DS) (x : D) (S : Sto) : R D := bnd (truV x S) (orVB b δ)
def orV (a b : DE) (δ : DS) (S : Sto) : R D := bnd (a δ S) (orVK b δ)
def notVB (c : Bool) (S : Sto) : R D := ok (.bl (!c)) S
def notVK (x : D) (S : Sto) : R D := bnd (truV x S) notVB
def notV (a : DE) (δ : DS) (S : Sto) : R D := bnd (a δ S) notVK
def nxS (δ : DS) (S : Sto) : R Fl := ok (.nx δ) S
def seqK (b : DSt) : Fl -> Sto -> R Fl
 | .nx δ, S => b δ S
 | .rt d, S => ok (.rt d) S
 | .bk δ, S => ok (.bk δ) S
 | .ct δ, S => ok (.ct δ) S
def seqS (a b : DSt) (δ : DS) (S : Sto) : R Fl := bnd (a δ S) (seqK b)
def dropK (δ : DS) (_ : D) (S : Sto) : R Fl := ok (.nx δ) S
def dropS (e : DE) (δ : DS) (S : Sto) : R Fl := bnd (e δ S) (dropK δ)
def retK (d : D) (S : Sto) : R Fl := ok (.rt d) S
def retS (e : DE) (δ : DS) (S : Sto) : R Fl := bnd (e δ S) retK
def ifK (a b : DSt) (δ : DS) : Bool -> Sto -> R Fl
 | true, S => a δ S
 | false, S => b δ S
def ifS (t : DT) (a b : DSt) (δ : DS) (S : Sto) : R Fl := bnd (t δ S) (ifK a b δ)
def brkS (δ : DS) (S : Sto) : R Fl := ok (.bk δ) S
def cntS (δ : DS) (S : Sto) : R Fl := ok (.ct δ) S
def setG (i : Nat) (d : D) (δ : DS) (S : Sto) : R DS := ok (δ.set i (some d)) S
def asgK (g : DG) (δ : DS) (d : D) (S : Sto) : R Fl := bnd (g d δ S) nxS
def asgS (e : DE) (g : DG) (δ : DS) (S : Sto) : R Fl := bnd (e δ S) (asgK g δ)
abbrev setS (i : Nat) (e : DE) : DSt := asgS e (setG i)
def parK2 (i j : Nat) (δ : DS) (x y : D) (S : Sto) : R Fl := ok (.nx ((δ.set i (some x)).set j (some y))) S
def parK (i j : Nat) (b : DE) (δ : DS) (x : D) (S : Sto) : R Fl := bnd (b δ S) (parK2 i j δ x)
def parS (i j : Nat) (a b : DE) (δ : DS) (S : Sto) : R Fl := bnd (a δ S) (parK i j b δ)
def tupGs : List DG -> List D -> DS -> Sto -> R DS
 | [], [], δ, S => ok δ S
 | g :: gs, d :: ds, δ, S => bnd (g d δ S) (tupGs gs ds)
 | _, _, _, _ => none
def tupG (gs : List DG) (d : D) (δ : DS) (S : Sto) : R DS := match d with
 | .tup ds => if ds.length = gs.length then tupGs gs ds δ S else none
 | _ => none
inductive Src where
 | fix (xs : List D) | one (a : Nat) | two (a b : Nat) | enm (a : Nat) | rev (a n : Nat)
def enm1 (i : Nat) : Option D -> Option D
 | some x => some (.tup [.int i, x])
 | none => none
def two1 : Option D -> Option D -> Option D
 | some x, some y => some (.tup [x, y])
 | _, _ => none
def Src.get : Src -> Sto -> Nat -> Option (Option D)
 | .fix xs, _, i => some xs[i]?
 | .one a, S, i => match zH S a with
  | some xs => some xs[i]?
  | none => none
 | .two a b, S, i => match zH S a, zH S b with
  | some xs, some ys => some (two1 xs[i]? ys[i]?)
  | _, _ => none
 | .enm a, S, i => match zH S a with
  | some xs => some (enm1 i xs[i]?)
  | none => none
 | .rev a n, S, i => match zH S a with
  | some xs => if i < n then (match xs[n - 1 - i]? with
    | some x => some (some x)
    | none => none) else some none
  | none => none
def Src.len : Src -> Sto -> Nat
 | .fix xs, _ => xs.length
 | .one a, S => match zH S a with
  | some xs => xs.length
  | none => 0
 | .two a _, S => match zH S a with
  | some xs => xs.length
  | none => 0
 | .enm a, S => match zH S a with
  | some xs => xs.length
  | none => 0
 | .rev _ n, _ => n
abbrev DI := DS -> Sto -> R Src
def loopK (k : DSt) : Fl -> Sto -> R Fl
 | .nx δ, S => k δ S
 | .ct δ, S => k δ S
 | .bk δ, S => ok (.nx δ) S
 | .rt d, S => ok (.rt d) S
def turnK (b k : DSt) (δ : DS) (S : Sto) : R Fl := bnd (b δ S) (loopK k)
def forD (src : Src) (g : DG) (b : DSt) : Nat -> Nat -> DSt
 | 0, i, δ, S => match src.get S i with
  | some none => ok (.nx δ) S
  | _ => none
 | n + 1, i, δ, S => match src.get S i with
  | some none => ok (.nx δ) S
  | some (some x) => bnd (g x δ S) (turnK b (forD src g b n (i + 1)))
  | none => none
def forK (g : DG) (b : DSt) (δ : DS) (src : Src) (S : Sto) : R Fl := forD src g b (src.len S) 0 δ S
def forS (it : DI) (g : DG) (b : DSt) (δ : DS) (S : Sto) : R Fl := bnd (it δ S) (forK g b δ)
def whK (b k : DSt) (δ : DS) : Bool -> Sto -> R Fl
 | true, S => turnK b k δ S
 | false, S => ok (.nx δ) S
def qA7 (t : DT) (b : DSt) : Nat -> DSt
 | 0, _, _ => none
 | n + 1, δ, S => bnd (t δ S) (whK b (qA7 t b n) δ)
theorem qCs (t : DT) (b : DSt) : ∀ (n : Nat) (δ : DS) (S : Sto) (r : Rs Fl), qA7 t b n δ S = some r -> qA7 t b (n + 1) δ S = some r
 | 0, _, _, _, h => by cases h
 | n + 1, δ, S, r, h => by
  have h : bnd (t δ S) (whK b (qA7 t b n) δ) = some r := h
  show bnd (t δ S) (whK b (qA7 t b (n + 1)) δ) = some r
  rcases qAm h with ⟨c, S1, e, q⟩ | ⟨c, S1, e, q⟩
  ·rw [e]
   cases c with
   | false => exact q
   | true =>
    show bnd (b δ S1) (loopK (qA7 t b (n + 1))) = some r
    rcases qAm (show bnd (b δ S1) (loopK (qA7 t b n)) = some r from q) with ⟨f, S2, e2, q2⟩ | ⟨c, S2, e2, q2⟩
    ·rw [e2]
     cases f with
     | nx δ' => exact qCs t b n δ' S2 r q2
     | ct δ' => exact qCs t b n δ' S2 r q2
     | bk δ' => exact q2
     | rt d => exact q2
    ·rw [e2, q2]
     rfl
  ·rw [e, q]
   rfl
theorem whileD_le {t : DT} {b : DSt} {n m : Nat} {δ : DS} {S : Sto} {r : Rs Fl} (h : qA7 t b n δ S = some r) (hm : n <= m) : qA7 t b m δ S = some r := by
 obtain ⟨k, rfl⟩ := Nat.exists_eq_add_of_le hm
 induction k with
 | zero => exact h
 | succ k ih => exact qCs t b (n + k) δ S r (ih (Nat.le_add_right _ _))
noncomputable def qCx (t : DT) (b : DSt) (δ : DS) (S : Sto) : R Fl := open Classical in if h : ∃ n r, qA7 t b n δ S = some r then qA7 t b (Classical.choose h) δ S else none
theorem whileS_of {t : DT} {b : DSt} {n : Nat} {δ : DS} {S : Sto} {r : Rs Fl} (h : qA7 t b n δ S = some r) : qCx t b δ S = some r := by
 have hx : ∃ n r, qA7 t b n δ S = some r := ⟨n, r, h⟩
 unfold qCx
 rw [dif_pos hx]
 obtain ⟨r', hr'⟩ := Classical.choose_spec hx
 have h1 := whileD_le hr' (Nat.le_max_left _ n)
 have h2 := whileD_le h (Nat.le_max_right (Classical.choose hx) n)
 rw [hr', <- h1, h2]
theorem whileS_some {t : DT} {b : DSt} {δ : DS} {S : Sto} {r : Rs Fl} (h : qCx t b δ S = some r) : ∃ n, qA7 t b n δ S = some r := by
 unfold qCx at h
 split at h
 ·exact ⟨_, h⟩
 ·cases h
def nevS (_ : DS) (_ : Sto) : R Fl := none
def raiseS (c : Str) (_ : DS) (S : Sto) : R Fl := er c S
def itL : D -> Sto -> R Src
 | .ref a, S => match zH S a with
  | some _ => ok (.one a) S
  | none => none
 | .scr xs, S => ok (.fix xs) S
 | _, _ => none
def itT : D -> Sto -> R Src
 | .tup xs, S => ok (.fix xs) S
 | _, _ => none
def qB7 (lo : Int) : Nat -> List D
 | 0 => []
 | n + 1 => .int lo :: qB7 (lo + 1) n
theorem limEx : ∃ v : Int, v = 1000000 := ⟨_, rfl⟩
noncomputable def lim : Int := Classical.choose limEx
theorem lim_eq : lim = 1000000 := Classical.choose_spec limEx
noncomputable def qBv : List D -> Sto -> R Src
 | [.int n], S => if n < lim /\ -lim < n then ok (.fix (qB7 0 n.toNat)) S else none
 | _, _ => none
noncomputable def rng2D : List D -> Sto -> R Src
 | [.int a, .int b], S => if (a < lim /\ -lim < a) /\ b < lim /\ -lim < b then ok (.fix (qB7 a (b - a).toNat)) S else none
 | _, _ => none
def qEo : List D -> Sto -> R Src
 | [.ref a, .ref b], S => match zH S a, zH S b with
  | some _, some _ => ok (.two a b) S
  | _, _ => none
 | _, _ => none
def enumD : List D -> Sto -> R Src
 | [.ref a], S => match zH S a with
  | some _ => ok (.enm a) S
  | none => none
 | _, _ => none
def itE (f : D -> Sto -> R Src) (e : DE) (δ : DS) (S : Sto) : R Src := bnd (e δ S) f
def itA (f : List D -> Sto -> R Src) (as : DA) (δ : DS) (S : Sto) : R Src := bnd (as δ S) f
def newO (o : O) (S : Sto) : R D := ok (.ref S.length) (S ++ [o])
def qEj (k : DA) (δ : DS) (d : D) (S : Sto) : R (List D) := bnd (k δ S) (consK d)
def compK (e : DE) (k : DA) (δ : DS) (S : Sto) : R (List D) := bnd (e δ S) (qEj k δ)
def qC4 (src : Src) (g : DG) (e : DE) : Nat -> Nat -> DA
 | 0, i, δ, S => match src.get S i with
  | some none => ok [] S
  | _ => none
 | n + 1, i, δ, S => match src.get S i with
  | some none => ok [] S
  | some (some x) => bnd (g x δ S) (compK e (qC4 src g e n (i + 1)))
  | none => none
def compIB (e : DE) (k : DA) (δ : DS) : Bool -> Sto -> R (List D)
 | true, S => bnd (e δ S) (qEj k δ)
 | false, S => k δ S
def compIK (t : DT) (e : DE) (k : DA) (δ : DS) (S : Sto) : R (List D) := bnd (t δ S) (compIB e k δ)
def qBd (src : Src) (g : DG) (t : DT) (e : DE) : Nat -> Nat -> DA
 | 0, i, δ, S => match src.get S i with
  | some none => ok [] S
  | _ => none
 | n + 1, i, δ, S => match src.get S i with
  | some none => ok [] S
  | some (some x) => bnd (g x δ S) (compIK t e (qBd src g t e n (i + 1)))
  | none => none
def lstK (ds : List D) (S : Sto) : R D := newO (.lst ds) S
def noer {α : Type} : R α -> R α
 | some (.ok a S) => ok a S
 | some (.er _ _) => none
 | none => none
def compL (g : DG) (e : DE) (δ : DS) (src : Src) (S : Sto) : R D := if src.len S <= 1000000 then bnd (noer (qC4 src g e (src.len S) 0 δ S)) lstK else none
def qAj (it : DI) (k : Nat) (g : DG) (e : DE) (δ : DS) (S : Sto) : R D := bnd (it δ S) (compL g e (δ ++ jBk k none))
def compIL (g : DG) (t : DT) (e : DE) (δ : DS) (src : Src) (S : Sto) : R D := if src.len S <= 1000000 then bnd (noer (qBd src g t e (src.len S) 0 δ S)) lstK else none
def qEk (it : DI) (k : Nat) (g : DG) (t : DT) (e : DE) (δ : DS) (S : Sto) : R D := bnd (it δ S) (compIL g t e (δ ++ jBk k none))
def outF : R Fl -> R D
 | some (.ok (.nx _) S) => ok .non S
 | some (.ok (.rt d) S) => ok d S
 | some (.ok (.bk _) _) => none
 | some (.ok (.ct _) _) => none
 | some (.er c S) => er c S
 | none => none
def startD (n : Nat) (ds : List D) : DS := ds.map some ++ jBk (n - ds.length) none
def fnF (n k : Nat) (g : DSt) (ds : List D) (S : Sto) : R D := if ds.length = k then noer (outF (g (startD n ds) S)) else none
def noerS (g : DSt) (δ : DS) (S : Sto) : R Fl := noer (g δ S)
def fnX (n k : Nat) (g : DSt) (ds : List D) (S : Sto) : R D := if ds.length = k then outF (g (startD n ds) S) else none
def op3K2 (f : D -> D -> D -> Sto -> R D) (x y : D) (z : D) (S : Sto) : R D := f x y z S
def op3K (f : D -> D -> D -> Sto -> R D) (c : DE) (δ : DS) (x y : D) (S : Sto) : R D := bnd (c δ S) (op3K2 f x y)
def op3J (f : D -> D -> D -> Sto -> R D) (b c : DE) (δ : DS) (x : D) (S : Sto) : R D := bnd (b δ S) (op3K f c δ x)
def op3 (f : D -> D -> D -> Sto -> R D) (a b c : DE) (δ : DS) (S : Sto) : R D := bnd (a δ S) (op3J f b c δ)
def chnB (g : D -> D -> Sto -> R D) (c : DE) (δ : DS) (y : D) : Bool -> Sto -> R D
 | true, S => bnd (c δ S) (g y)
 | false, S => ok (.bl false) S
def chnT (g : D -> D -> Sto -> R D) (c : DE) (δ : DS) (y : D) (t : D) (S : Sto) : R D := bnd (truV t S) (chnB g c δ y)
def chnK2 (f g : D -> D -> Sto -> R D) (c : DE) (δ : DS) (x y : D) (S : Sto) : R D := bnd (f x y S) (chnT g c δ y)
def chnK (f g : D -> D -> Sto -> R D) (b c : DE) (δ : DS) (x : D) (S : Sto) : R D := bnd (b δ S) (chnK2 f g c δ x)
def chn (f g : D -> D -> Sto -> R D) (a b c : DE) (δ : DS) (S : Sto) : R D := bnd (a δ S) (chnK f g b c δ)
@[simp] theorem truV_bl (b : Bool) (S : Sto) : truV (.bl b) S = ok b S := rfl
@[simp] theorem seqK_nx (b : DSt) (δ : DS) (S : Sto) : seqK b (.nx δ) S = b δ S := rfl
@[simp] theorem seqK_rt (b : DSt) (d : D) (S : Sto) : seqK b (.rt d) S = ok (.rt d) S := rfl
@[simp] theorem ifK_t (a b : DSt) (δ : DS) (S : Sto) : ifK a b δ true S = a δ S := rfl
@[simp] theorem ifK_f (a b : DSt) (δ : DS) (S : Sto) : ifK a b δ false S = b δ S := rfl
def tupD (ds : List D) (S : Sto) : R D := if ds.length <= 1000 then ok (.tup ds) S else none
def lstD (ds : List D) (S : Sto) : R D := if ds.length <= 1000 then newO (.lst ds) S else none
def catD (a b : Option (List D)) (S : Sto) : R D := match a, b with
 | some xs, some ys => if xs.length + ys.length <= 1000000 then newO (.lst (xs ++ ys)) S else none
 | _, _ => none
def addD : D -> D -> Sto -> R D
 | .int i, .int j, S => ok (.int (i + j)) S
 | .str x, .str y, S => if x.length + y.length <= 1000000 then ok (.str (x ++ y)) S else none
 | .ref a, .ref b, S => catD (zH S a) (zH S b) S
 | _, _, _ => none
def subD : D -> D -> Sto -> R D
 | .int i, .int j, S => ok (.int (i - j)) S
 | _, _, _ => none
def repD (a : Option (List D)) (k : Int) (S : Sto) : R D := match a with
 | some xs => if xs.length * k.toNat <= 1000000 /\ -1000000000 < k /\ k < 1000000000 then newO (.lst (jBk k.toNat xs).flatten) S else none
 | none => none
def mulD : D -> D -> Sto -> R D
 | .int i, .int j, S => if i.natAbs.log2 + j.natAbs.log2 <= 100000000 then ok (.int (i * j)) S else none
 | .ref a, .int k, S => repD (zH S a) k S
 | _, _, _ => none
def qBc : D -> D -> Sto -> R D
 | .int i, .int j, S => if j = 0 then none else ok (.int (i.fdiv j)) S
 | _, _, _ => none
def modD : D -> D -> Sto -> R D
 | .int i, .int j, S => if j = 0 then none else ok (.int (i.fmod j)) S
 | _, _, _ => none
def powD : D -> D -> Sto -> R D
 | .int i, .int j, S => if (0 <= j /\ j <= 1000) /\ i.natAbs < 1000000 then ok (.int (i ^ j.toNat)) S else none
 | _, _, _ => none
def negD : D -> Sto -> R D
 | .int i, S => ok (.int (-i)) S
 | _, _ => none
def absD : List D -> Sto -> R D
 | [.int i], S => ok (.int (if i < 0 then -i else i)) S
 | _, _ => none
inductive T where
 | non | bl (b : Bool) | int (i : Int) | str (x : Str) | tup (xs : List T) | lst (xs : List T)
mutual
def eqT : T -> T -> Bool
 | .non, .non => true
 | .bl a, .bl b => a == b
 | .bl a, .int j => (if a then 1 else 0) == j
 | .int i, .bl b => i == (if b then 1 else 0)
 | .int i, .int j => i == j
 | .str x, .str y => x == y
 | .lst xs, .lst ys => eqTs xs ys
 | .tup xs, .tup ys => eqTs xs ys
 | _, _ => false
def eqTs : List T -> List T -> Bool
 | [], [] => true
 | x :: xs, y :: ys => eqT x y && eqTs xs ys
 | _, _ => false
end
def rdl (f : D -> Option T) : List D -> Option (List T)
 | [] => some []
 | d :: ds => match f d, rdl f ds with
  | some t, some ts => some (t :: ts)
  | _, _ => none
def rd : Nat -> Sto -> D -> Option T
 | _, _, .non => some .non
 | _, _, .bl b => some (.bl b)
 | _, _, .int i => some (.int i)
 | _, _, .str x => if x.cps.all (· < 0x110000) = true then some (.str x) else none
 | n + 1, S, .tup ds => (rdl (rd n S) ds).map .tup
 | n + 1, S, .ref a => match zH S a with
  | some ds => (rdl (rd n S) ds).map .lst
  | none => none
 | _, _, _ => none
def eqK (neg : Bool) (S : Sto) : Option T -> Option T -> R D
 | some t, some u => ok (.bl (if neg = true then !eqT t u else eqT t u)) S
 | _, _ => none
def eqD (x y : D) (S : Sto) : R D := eqK false S (rd 9 S x) (rd 9 S y)
def neD (x y : D) (S : Sto) : R D := eqK true S (rd 9 S x) (rd 9 S y)
def ltD : D -> D -> Sto -> R D
 | .int i, .int j, S => ok (.bl (decide (i < j))) S
 | _, _, _ => none
def leD : D -> D -> Sto -> R D
 | .int i, .int j, S => ok (.bl (decide (i <= j))) S
 | _, _, _ => none
def gtD : D -> D -> Sto -> R D
 | .int i, .int j, S => ok (.bl (decide (j < i))) S
 | _, _, _ => none
def geD : D -> D -> Sto -> R D
 | .int i, .int j, S => ok (.bl (decide (j <= i))) S
 | _, _, _ => none
def qBr : D -> Bool
 | .non => true
 | _ => false
def isND (x y : D) (S : Sto) : R D := match y with
 | .non => ok (.bl (qBr x)) S
 | _ => none
def isNND (x y : D) (S : Sto) : R D := match y with
 | .non => ok (.bl (!qBr x)) S
 | _ => none
def ixA (n : Nat) (i : Int) : Option Nat := if 0 <= i then (if i < n then some i.toNat else none) else if -(n : Int) <= i then some (i + n).toNat else none
def ixK (xs : Option (List D)) (i : Int) (S : Sto) : R D := match xs with
 | some xs => match (ixA xs.length i).bind (fun j => xs[j]?) with
  | some d => ok d S
  | none => none
 | none => none
def ixD : D -> D -> Sto -> R D
 | .tup xs, .int i, S => ixK (some xs) i S
 | .ref a, .int i, S => ixK (zH S a) i S
 | .scr xs, .int i, S => ixK (some xs) i S
 | _, _, _ => none
def lenK (xs : Option (List D)) (S : Sto) : R D := match xs with
 | some xs => ok (.int xs.length) S
 | none => none
def lenD : List D -> Sto -> R D
 | [.scr xs], S => lenK (some xs) S
 | [.tup xs], S => lenK (some xs) S
 | [.ref a], S => lenK (zH S a) S
 | [.str x], S => if x.length <= 1000000 then ok (.int x.length) S else none
 | _, _ => none
inductive Kd where
 | int | bool | str | lst | tup
 deriving DecidableEq
def isK : Kd -> D -> Sto -> Option Bool
 | _, .exc _, _ => none
 | _, .scr _, _ => none
 | .lst, .ref a, S => match S[a]? with
  | some (.lst _) => some true
  | some (.dct _) => some false
  | _ => none
 | _, .ref a, S => match S[a]? with
  | some (.lst _) => some false
  | some (.dct _) => some false
  | _ => none
 | .int, .int _, _ => some true
 | .int, .bl _, _ => some true
 | .bool, .bl _, _ => some true
 | .str, .str _, _ => some true
 | .tup, .tup _, _ => some true
 | _, _, _ => some false
def isiD (k : Kd) (x : D) (S : Sto) : R D := match isK k x S with
 | some b => ok (.bl b) S
 | none => none
def sIxD (n d : Nat) : Option Int -> Nat
 | none => d
 | some v => if v < 0 then (v + (n : Int)).toNat else min v.toNat n
def cutD (xs : List D) (lo hi : Option Int) : List D := (xs.drop (sIxD xs.length 0 lo)).take (sIxD xs.length xs.length hi - sIxD xs.length 0 lo)
abbrev DO := DS -> Sto -> R (Option Int)
def noP (_ : DS) (S : Sto) : R (Option Int) := ok none S
def atPK : D -> Sto -> R (Option Int)
 | .int i, S => ok (some i) S
 | _, _ => none
def atP (e : DE) (δ : DS) (S : Sto) : R (Option Int) := bnd (e δ S) atPK
def slD (x : D) (lo hi : Option Int) (S : Sto) : R D := match x with
 | .ref a => match zH S a with
  | some xs => newO (.lst (cutD xs lo hi)) S
  | none => none
 | .scr xs => newO (.lst (cutD xs lo hi)) S
 | .tup xs => if sIxD xs.length 0 lo = 0 /\ sIxD xs.length xs.length hi = xs.length then none else ok (.tup (cutD xs lo hi)) S
 | _ => none
def slK2 (x : D) (lo : Option Int) (hi : Option Int) (S : Sto) : R D := slD x lo hi S
def slK1 (h : DO) (δ : DS) (x : D) (lo : Option Int) (S : Sto) : R D := bnd (h δ S) (slK2 x lo)
def slK (l h : DO) (δ : DS) (x : D) (S : Sto) : R D := bnd (l δ S) (slK1 h δ x)
def slE (e : DE) (l h : DO) (δ : DS) (S : Sto) : R D := bnd (e δ S) (slK l h δ)
def lofD : List D -> Sto -> R D
 | [.ref a], S => match zH S a with
  | some xs => newO (.lst xs) S
  | none => none
 | [.scr xs], S => newO (.lst xs) S
 | [.tup xs], S => newO (.lst xs) S
 | _, _ => none
def appD (x : D) (y : D) (S : Sto) : R D := match x with
 | .ref a => match zH S a with
  | some xs => if xs.length < 1000000 then ok .non (S.set a (.lst (xs ++ [y]))) else none
  | none => none
 | _ => none
def setXA (v : D) (δ : DS) (x y : D) (S : Sto) : R DS := match x, y with
 | .ref a, .int j => match zH S a with
  | some xs => match ixA xs.length j with
   | some k => ok δ (S.set a (.lst (xs.set k v)))
   | none => none
  | none => none
 | _, _ => none
def setXK (i : DE) (v : D) (δ : DS) (x : D) (S : Sto) : R DS := bnd (i δ S) (setXA v δ x)
def qCu (o i : DE) (v : D) (δ : DS) (S : Sto) : R DS := bnd (o δ S) (setXK i v δ)
def isL (x : D) (S : Sto) : Bool := match x with
 | .ref a => (zH S a).isSome
 | _ => false
def opMK (f : D -> D -> Sto -> R D) (b : DE) (δ : DS) (x : D) (S : Sto) : R D := if isL x S = true then bnd (b δ S) (f x) else none
def opM (f : D -> D -> Sto -> R D) (a b : DE) (δ : DS) (S : Sto) : R D := bnd (a δ S) (opMK f b δ)
def opM3K (f : D -> D -> D -> Sto -> R D) (b c : DE) (δ : DS) (x : D) (S : Sto) : R D := if isL x S = true then op3J f b c δ x S else none
def opM3 (f : D -> D -> D -> Sto -> R D) (a b c : DE) (δ : DS) (S : Sto) : R D := bnd (a δ S) (opM3K f b c δ)
def clearD (x : D) (S : Sto) : R D := match x with
 | .ref a => match zH S a with
  | some _ => ok .non (S.set a (.lst []))
  | none => none
 | _ => none
def allB : List D -> Option Bool
 | [] => some true
 | .bl b :: r => match allB r with
  | some c => some (b && c)
  | none => none
 | _ :: _ => none
def allD : List D -> Sto -> R D
 | [.ref a], S => match zH S a with
  | some xs => match allB xs with
   | some b => ok (.bl b) S
   | none => none
  | none => none
 | _, _ => none
def memT (t : T) : List T -> Bool
 | [] => false
 | u :: us => eqT t u || memT t us
def inA (neg : Bool) (x y : D) (S : Sto) : R D := match y with
 | .ref a => match zH S a with
  | some ys => match rd 8 S x, rdl (rd 8 S) ys with
   | some t, some ts => ok (.bl (if neg = true then !memT t ts else memT t ts)) S
   | _, _ => none
  | none => none
 | _ => none
def inD (x y : D) (S : Sto) : R D := inA false x y S
end Np
end
section
namespace Np
open PySem
mutual
def flat : Nat -> D -> Bool
 | _, .non => true
 | _, .bl _ => true
 | _, .int _ => true
 | _, .str _ => true
 | n + 1, .tup ds => flats n ds
 | _, .ref _ => true
 | _, _ => false
def flats : Nat -> List D -> Bool
 | _, [] => true
 | n, d :: ds => flat n d && flats n ds
end
end Np
end
section
namespace Np
open PySem
def qAu (S : Sto) (a : Nat) : Option (Str × List (Str × D)) := match S[a]? with
 | some (.ins c fs) => some (c, fs)
 | _ => none
def fldD (c f : Str) (x : D) (S : Sto) : R D := match x with
 | .ref a => match qAu S a with
  | some (c', fs) => if c' = c then (match fs.lookup f with
   | some d => ok d S
   | none => none) else none
  | none => none
 | _ => none
def putD (f : Str) (v : D) : List (Str × D) -> List (Str × D)
 | [] => [(f, v)]
 | (g, x) :: r => if g = f then (g, v) :: r else (g, x) :: putD f v r
def setfA (c f : Str) (v : D) (δ : DS) (x : D) (S : Sto) : R Fl := match x with
 | .ref a => match qAu S a with
  | some (c', fs) => if c' = c /\ fs.length < 900 then ok (.nx δ) (S.set a (.ins c (putD f v fs))) else none
  | none => none
 | _ => none
def setfK (c f : Str) (o : DE) (δ : DS) (v : D) (S : Sto) : R Fl := bnd (o δ S) (setfA c f v δ)
def qCt (c f : Str) (o e : DE) (δ : DS) (S : Sto) : R Fl := bnd (e δ S) (setfK c f o δ)
def qBe (F : List D -> Sto -> R D) (x : D) (ds : List D) (S : Sto) : R D := F (x :: ds) S
def methK (c m : Str) (F : List D -> Sto -> R D) (as : DA) (δ : DS) (x : D) (S : Sto) : R D := match x with
 | .ref a => match qAu S a with
  | some (c', fs) => if c' = c /\ fs.lookup m = none then bnd (as δ S) (qBe F x) else none
  | none => none
 | _ => none
def qAp (c m : Str) (F : List D -> Sto -> R D) (o : DE) (as : DA) (δ : DS) (S : Sto) : R D := bnd (o δ S) (methK c m F as δ)
def mkR (a : Nat) : R D -> R D
 | some (.ok .non S) => ok (.ref a) S
 | some (.er c S) => er c S
 | _ => none
def mkA (c : Str) (F : List D -> Sto -> R D) (ds : List D) (S : Sto) : R D := mkR S.length (F (.ref S.length :: ds) (S ++ [.ins c []]))
def mkE (c : Str) (F : List D -> Sto -> R D) (as : DA) (δ : DS) (S : Sto) : R D := bnd (as δ S) (mkA c F)
theorem qC9 {S : Sto} {a : Nat} {c : Str} {fs : List (Str × D)} (h : qAu S a = some (c, fs)) : S[a]? = some (.ins c fs) := by
 unfold qAu at h
 split at h
 ·rename_i c' fs' e
  cases h
  exact e
 ·cases h
def orE (g h : DE) (δ : DS) (S : Sto) : R D := match g δ S with
 | some r => some r
 | none => h δ S
def lstG (gs : List DG) (d : D) (δ : DS) (S : Sto) : R DS := match d with
 | .ref a => match zH S a with
  | some ds => if ds.length = gs.length then tupGs gs ds δ S else none
  | none => none
 | _ => none
end Np
end
section
namespace Np
open PySem PySem.Spec PyProof.Rows L2
structure Gx where
 K : PySem.W.Frag
 mg : Str -> Option Value
structure Wd where
 μ : Nat -> Addr
 S : Sto
def excAt (a C : Addr) : Heap -> Prop := fun h => ∃ o, h.get? a = some o /\ o.cls = .ref C
def Sc (K : PySem.W.Frag) (H : Hp) (a : Addr) (xs : List V) : Prop := (∃ o, H a = some (.frz o (.lst xs))) \/ SqL K (fun _ => none) a xs
theorem Sc.sq {K : PySem.W.Frag} {H : Hp} {a : Addr} {xs : List V} (h : Sc K H a xs) : SqL K H a xs := by
 rcases h with ⟨o, h⟩ | (h | h)
 ·exact .inl (.inr ⟨o, h⟩)
 ·rcases h with h | ⟨o, h⟩ <;> cases h
 ·exact .inr h
mutual
def Rep (G : Gx) (H : Hp) (W : Wd) : D -> V -> Prop
 | .non, v => v = .non
 | .bl b, v => v = .bl b
 | .int i, v => v = .int i
 | .str x, v => v = .str x
 | .tup ds, v => ∃ a xs, v = .ref a /\ SqT G.K H a xs /\ RepL G H W ds xs
 | .ref i, v => i < W.S.length /\ v = .ref (W.μ i)
 | .exc c, v => ∃ a C, v = .ref a /\ G.mg c = some (.ref C) /\ H a = some (.ext (excAt a C))
 | .scr ds, v => ∃ a xs, v = .ref a /\ Sc G.K H a xs /\ RepL G H W ds xs
def RepL (G : Gx) (H : Hp) (W : Wd) : List D -> List V -> Prop
 | [], vs => vs = []
 | d :: ds, vs => ∃ v r, vs = v :: r /\ Rep G H W d v /\ RepL G H W ds r
end
def RepO (G : Gx) (H : Hp) (W : Wd) (a : Addr) : O -> Prop
 | .lst ds => ∃ xs, H a = some (.lst xs) /\ RepL G H W ds xs
 | .dct kvs => kvs = [] /\ H a = some (.dK [])
 | .ins c fs => ∃ C dx ps, G.mg c = some (.ref C) /\ H a = some (.ins C dx ps) /\ ps.map (·.1) = fs.map (·.1) /\ RepL G H W (fs.map (·.2)) (ps.map (·.2))
structure StOk (G : Gx) (H : Hp) (W : Wd) : Prop where
 inj : ∀ i j, i < W.S.length -> j < W.S.length -> W.μ i = W.μ j -> i = j
 get : ∀ i o, W.S[i]? = some o -> RepO G H W (W.μ i) o
def stB : HO -> Bool
 | .lst _ => true
 | .dK _ => true
 | .ins _ _ _ => true
 | _ => false
theorem StOk.at {G : Gx} {H : Hp} {W : Wd} (h : StOk G H W) {i : Nat} (hi : i < W.S.length) : ∃ o, H (W.μ i) = some o /\ stB o = true := by
 have := h.get i W.S[i] (by simp [hi])
 cases q : W.S[i] with
 | lst ds => rw [q] at this; obtain ⟨xs, e, _⟩ := this; exact ⟨_, e, rfl⟩
 | dct kvs => rw [q] at this; obtain ⟨_, e⟩ := this; exact ⟨_, e, rfl⟩
 | ins c fs => rw [q] at this; obtain ⟨_, _, _, _, e, _⟩ := this; exact ⟨_, e, rfl⟩
theorem StOk.apart {G : Gx} {H : Hp} {W : Wd} (h : StOk G H W) {b : Addr} {o : HO} (e : H b = some o) (ho : stB o = false) : ∀ i, i < W.S.length -> W.μ i ≠ b := fun i hi z => by
 obtain ⟨u, eu, hu⟩ := h.at hi
 rw [z, e] at eu
 cases eu
 rw [ho] at hu
 cases hu
theorem StOk.new {G : Gx} {H : Hp} {W : Wd} (h : StOk G H W) {b : Addr} (e : H b = none) : ∀ i, i < W.S.length -> W.μ i ≠ b := fun i hi z => by
 obtain ⟨u, eu, hu⟩ := h.at hi
 rw [z, e] at eu
 cases eu
structure Mv (H : Hp) (W : Wd) (H' : Hp) (W' : Wd) : Prop where
 len : W.S.length <= W'.S.length
 old : ∀ i, i < W.S.length -> W'.μ i = W.μ i
 frm : ∀ b o, H b = some o -> stB o = false -> H' b = some o
theorem Mv.sqT {K : PySem.W.Frag} {H H' : Hp} {W W' : Wd} {a : Addr} {xs : List V} (e : Mv H W H' W') (h : SqT K H a xs) : SqT K H' a xs := by
 rcases h with (h | ⟨o, h⟩) | h
 ·exact .inl (.inl (e.frm _ _ h rfl))
 ·exact .inl (.inr ⟨o, e.frm _ _ h rfl⟩)
 ·exact .inr h
theorem Mv.sc {K : PySem.W.Frag} {H H' : Hp} {W W' : Wd} {a : Addr} {xs : List V} (e : Mv H W H' W') (h : Sc K H a xs) : Sc K H' a xs := by
 rcases h with ⟨o, h⟩ | h
 ·exact .inl ⟨o, e.frm _ _ h rfl⟩
 ·exact .inr h
mutual
theorem Rep.mv {G : Gx} {H H' : Hp} {W W' : Wd} (s : Mv H W H' W') : ∀ {d : D} {v : V}, Rep G H W d v -> Rep G H' W' d v
 | .non, _, h => h
 | .bl _, _, h => h
 | .int _, _, h => h
 | .str _, _, h => h
 | .tup ds, _, h => by
  obtain ⟨a, xs, e, q, r⟩ := h
  exact ⟨a, xs, e, s.sqT q, RepL.mv s r⟩
 | .ref i, _, h => by
  obtain ⟨l, e⟩ := h
  exact ⟨jAd l s.len, by rw [e, s.old i l]⟩
 | .exc c, _, h => by
  obtain ⟨a, C, e, m, q⟩ := h
  exact ⟨a, C, e, m, s.frm _ _ q rfl⟩
 | .scr ds, _, h => by
  obtain ⟨a, xs, e, q, r⟩ := h
  exact ⟨a, xs, e, s.sc q, RepL.mv s r⟩
theorem RepL.mv {G : Gx} {H H' : Hp} {W W' : Wd} (s : Mv H W H' W') : ∀ {ds : List D} {vs : List V}, RepL G H W ds vs -> RepL G H' W' ds vs
 | [], _, h => h
 | d :: ds, _, h => by
  obtain ⟨v, r, e, q, t⟩ := h
  exact ⟨v, r, e, Rep.mv s q, RepL.mv s t⟩
end
theorem RepL.length {G : Gx} {H : Hp} {W : Wd} : ∀ {ds : List D} {vs : List V}, RepL G H W ds vs -> ds.length = vs.length
 | [], _, h => by cases h; rfl
 | d :: ds, _, h => by
  obtain ⟨v, r, e, q, t⟩ := h
  subst e
  simp [RepL.length t]
theorem RepL.get {G : Gx} {H : Hp} {W : Wd} : ∀ {ds : List D} {vs : List V} {i : Nat} {d : D}, RepL G H W ds vs -> ds[i]? = some d -> ∃ v, vs[i]? = some v /\ Rep G H W d v
 | [], _, _, _, _, e => by simp at e
 | d :: ds, _, 0, _, h, e => by
  obtain ⟨v, r, rfl, q, t⟩ := h
  simp at e; subst e
  exact ⟨v, rfl, q⟩
 | d :: ds, _, i + 1, _, h, e => by
  obtain ⟨v, r, rfl, q, t⟩ := h
  obtain ⟨u, h1, h2⟩ := RepL.get (i := i) t (by simpa using e)
  exact ⟨u, by simpa using h1, h2⟩
theorem RepL.append {G : Gx} {H : Hp} {W : Wd} : ∀ {ds es : List D} {vs us : List V}, RepL G H W ds vs -> RepL G H W es us -> RepL G H W (ds ++ es) (vs ++ us)
 | [], _, _, _, h, k => by cases h; exact k
 | d :: ds, _, _, _, h, k => by
  obtain ⟨v, r, rfl, q, t⟩ := h
  exact ⟨v, _, rfl, q, RepL.append t k⟩
theorem RepL.take {G : Gx} {H : Hp} {W : Wd} : ∀ {ds : List D} {vs : List V} (n : Nat), RepL G H W ds vs -> RepL G H W (ds.take n) (vs.take n)
 | _, _, 0, _ => by simp [RepL]
 | [], _, n + 1, h => by cases h; simp [RepL]
 | d :: ds, _, n + 1, h => by
  obtain ⟨v, r, rfl, q, t⟩ := h
  exact ⟨v, _, rfl, q, RepL.take n t⟩
theorem RepL.drop {G : Gx} {H : Hp} {W : Wd} : ∀ {ds : List D} {vs : List V} (n : Nat), RepL G H W ds vs -> RepL G H W (ds.drop n) (vs.drop n)
 | _, _, 0, h => h
 | [], _, n + 1, h => by cases h; simp [RepL]
 | d :: ds, _, n + 1, h => by
  obtain ⟨v, r, rfl, q, t⟩ := h
  exact RepL.drop n t
theorem RepL.set {G : Gx} {H : Hp} {W : Wd} {d' : D} {v' : V} (q' : Rep G H W d' v') : ∀ {ds : List D} {vs : List V} (n : Nat), RepL G H W ds vs -> RepL G H W (ds.set n d') (vs.set n v')
 | [], _, n, h => by cases h; simp [RepL]
 | d :: ds, _, 0, h => by
  obtain ⟨v, r, rfl, q, t⟩ := h
  exact ⟨v', _, rfl, q', t⟩
 | d :: ds, _, n + 1, h => by
  obtain ⟨v, r, rfl, q, t⟩ := h
  exact ⟨v, _, rfl, q, RepL.set q' n t⟩
theorem RepL.one {G : Gx} {H : Hp} {W : Wd} {d : D} {v : V} (h : Rep G H W d v) : RepL G H W [d] [v] := ⟨v, [], rfl, h, rfl⟩
theorem RepO.mv {G : Gx} {H H' : Hp} {W W' : Wd} {a : Addr} {o : O} (s : Mv H W H' W') (e : H' a = H a) (h : RepO G H W a o) : RepO G H' W' a o := by
 cases o with
 | lst ds => obtain ⟨xs, q, r⟩ := h; exact ⟨xs, by rw [e]; exact q, r.mv s⟩
 | dct kvs => obtain ⟨q, r⟩ := h; exact ⟨q, by rw [e]; exact r⟩
 | ins c fs => obtain ⟨C, dx, ps, m, q, n, r⟩ := h; exact ⟨C, dx, ps, m, by rw [e]; exact q, n, r.mv s⟩
theorem lstAt_some {S : Sto} {a : Nat} {xs : List D} (h : zH S a = some xs) : S[a]? = some (.lst xs) := by
 unfold zH at h
 split at h
 ·rename_i ys e
  cases h
  exact e
 ·cases h
theorem StOk.lst {G : Gx} {H : Hp} {W : Wd} {a : Nat} {v : V} {ds : List D} (h : StOk G H W) (r : Rep G H W (.ref a) v) (e : zH W.S a = some ds) : ∃ xs, v = .ref (W.μ a) /\ H (W.μ a) = some (.lst xs) /\ RepL G H W ds xs := by
 obtain ⟨xs, q, rl⟩ := h.get a _ (lstAt_some e)
 exact ⟨xs, r.2, q, rl⟩
structure Nxt (G : Gx) (H : Hp) (W : Wd) (H' : Hp) (W' : Wd) : Prop where
 ok : StOk G H' W'
 len : W.S.length <= W'.S.length
 old : ∀ i, i < W.S.length -> W'.μ i = W.μ i
 new : ∀ i, W.S.length <= i -> i < W'.S.length -> H (W'.μ i) = none
 frm : ∀ b o, H b = some o -> (∀ i, i < W.S.length -> W.μ i ≠ b) -> H' b = some o
theorem Nxt.mv {G : Gx} {H H' : Hp} {W W' : Wd} (h : Nxt G H W H' W') (s : StOk G H W) : Mv H W H' W' := ⟨h.len, h.old, fun b o e q => h.frm b o e (s.apart e q)⟩
theorem Nxt.rfl {G : Gx} {H : Hp} {W : Wd} (s : StOk G H W) : Nxt G H W H W := ⟨s, jAx _, fun _ _ => by rfl, fun i h h' => absurd h' (Nat.not_lt.mpr h), fun _ _ e _ => e⟩
theorem Nxt.trans {G : Gx} {H H' H'' : Hp} {W W' W'' : Wd} (a : Nxt G H W H' W') (b : Nxt G H' W' H'' W'') : Nxt G H W H'' W'' := by
 refine ⟨b.ok, jAj a.len b.len, fun i hi => (b.old i (jAd hi a.len)).trans (a.old i hi), fun i h1 h2 => ?_, fun c o e q => ?_⟩
 ·by_cases hi : i < W'.S.length
  ·rw [b.old i hi]
   exact a.new i h1 hi
  ·have hn := b.new i (jB8 hi) h2
   cases q : H (W''.μ i) with
   | none => rfl
   | some o =>
    by_cases hz : ∃ j, j < W.S.length /\ W.μ j = W''.μ i
    ·obtain ⟨j, hj, ej⟩ := hz
     obtain ⟨o', e', _⟩ := a.ok.at (jAd hj a.len)
     rw [a.old j hj, ej, hn] at e'
     cases e'
    ·have := a.frm _ o q fun j hj ej => hz ⟨j, hj, ej⟩
     rw [hn] at this
     cases this
 ·refine b.frm c o (a.frm c o e q) fun i hi => ?_
  by_cases hl : i < W.S.length
  ·rw [a.old i hl]
   exact q i hl
  ·intro z
   have := a.new i (jB8 hl) hi
   rw [z, e] at this
   cases this
def Wd.push (W : Wd) (p : Addr) (o : O) : Wd := ⟨fun i => if i = W.S.length then p else W.μ i, W.S ++ [o]⟩
theorem Mv.push {G : Gx} {H : Hp} {W : Wd} {p : Addr} (hp : H p = none) (u : HO) (o : O) : Mv H W (upd H p u) (W.push p o) :=
 ⟨by simp [Wd.push], fun i hi => if_neg (jAf hi), fun b v e _ => by rw [zO (qAl e hp)]; exact e⟩
theorem Nxt.alloc {G : Gx} {H : Hp} {W : Wd} {p : Addr} {u : HO} {o : O} (h : StOk G H W) (hp : H p = none) (hr : RepO G (upd H p u) (W.push p o) p o) : Nxt G H W (upd H p u) (W.push p o) := by
 have m := Mv.push (G := G) (W := W) hp u o
 have hμ : ∀ i, i < W.S.length -> (W.push p o).μ i = W.μ i := fun i hi => if_neg (jAf hi)
 have hl : (W.push p o).S.length = W.S.length + 1 := by simp [Wd.push]
 have hn : (W.push p o).μ W.S.length = p := if_pos _root_.rfl
 refine ⟨⟨fun i j hi hj e => ?_, fun i o' e => ?_⟩, m.len, hμ, fun i h1 h2 => ?_, fun b v e _ => by rw [zO (qAl e hp)]; exact e⟩
 ·rw [hl] at hi hj
  by_cases h1 : i < W.S.length
  ·by_cases h2 : j < W.S.length
   ·rw [hμ i h1, hμ j h2] at e
    exact h.inj i j h1 h2 e
   ·have : j = W.S.length := by omega
    subst this
    rw [hμ i h1, hn] at e
    exact absurd e (h.new hp i h1)
  ·have : i = W.S.length := by omega
   subst this
   by_cases h2 : j < W.S.length
   ·rw [hμ j h2, hn] at e
    exact absurd e.symm (h.new hp j h2)
   ·omega
 ·have e' : (W.S ++ [o])[i]? = some o' := e
  by_cases h1 : i < W.S.length
  ·rw [jBr h1] at e'
   rw [hμ i h1]
   exact (h.get i o' e').mv m (zO (h.new hp i h1))
  ·have h2 : i < (W.S ++ [o]).length := (jAr.mp e').1
   have : i = W.S.length := by simp at h2; omega
   subst this
   simp at e'
   subst e'
   rw [hn]
   exact hr
 ·rw [hl] at h2
  have : i = W.S.length := by omega
  subst this
  rw [hn]
  exact hp
def Wd.put (W : Wd) (i : Nat) (o : O) : Wd := ⟨W.μ, W.S.set i o⟩
theorem Mv.put {G : Gx} {H : Hp} {W : Wd} {i : Nat} (h : StOk G H W) (hi : i < W.S.length) (u : HO) (o : O) : Mv H W (upd H (W.μ i) u) (W.put i o) :=
 ⟨by simp [Wd.put], fun _ _ => by rfl, fun b v e q => by rw [zO fun z => h.apart e q i hi z.symm]; exact e⟩
theorem Nxt.write {G : Gx} {H : Hp} {W : Wd} {i : Nat} {u : HO} {o : O} (h : StOk G H W) (hi : i < W.S.length) (hr : RepO G (upd H (W.μ i) u) (W.put i o) (W.μ i) o) : Nxt G H W (upd H (W.μ i) u) (W.put i o) := by
 have m := Mv.put h hi u o
 have hl : (W.put i o).S.length = W.S.length := by simp [Wd.put]
 refine ⟨⟨fun a b ha hb e => h.inj a b (by rw [<- hl]; exact ha) (by rw [<- hl]; exact hb) e, fun j o' e => ?_⟩, m.len, m.old, fun j h1 h2 => by omega, fun b v e q => by rw [zO fun z => q i hi z.symm]; exact e⟩
 have e' : (W.S.set i o)[j]? = some o' := e
 by_cases hj : i = j
 ·subst hj
  rw [jAs hi] at e'
  cases e'
  exact hr
 ·rw [jAt hj] at e'
  have hjl : j < W.S.length := (jAr.mp e').1
  exact (h.get j o' e').mv m (zO fun z => hj (h.inj i j hi hjl z.symm))
theorem Nxt.heap {G : Gx} {H : Hp} {W : Wd} {p : Addr} (h : StOk G H W) (hp : H p = none) (u : HO) : Nxt G H W (upd H p u) W := by
 have m : Mv H W (upd H p u) W := ⟨jAx _, fun _ _ => _root_.rfl, fun b v e _ => by rw [zO (qAl e hp)]; exact e⟩
 exact ⟨⟨h.inj, fun i o e => (h.get i o e).mv m (zO (h.new hp i (jAr.mp e).1))⟩, jAx _, fun _ _ => _root_.rfl, fun i h1 h2 => by omega, fun b v e _ => by rw [zO (qAl e hp)]; exact e⟩
def RepS (G : Gx) (H : Hp) (W : Wd) (δ : DS) (σ : L2.St) : Prop := δ.length = σ.length /\ ∀ (i : Nat) (d : D), δ[i]? = some (some d) -> ∃ v, σ[i]? = some (some v) /\ Rep G H W d v
theorem RepS.mv {G : Gx} {H H' : Hp} {W W' : Wd} {δ : DS} {σ : L2.St} (h : RepS G H W δ σ) (s : Mv H W H' W') : RepS G H' W' δ σ :=
 ⟨h.1, fun i d e => let ⟨v, e1, r⟩ := h.2 i d e; ⟨v, e1, r.mv s⟩⟩
theorem RepS.set {G : Gx} {H : Hp} {W : Wd} {δ : DS} {σ : L2.St} {d : D} {v : V} (i : Nat) (h : RepS G H W δ σ) (r : Rep G H W d v) : RepS G H W (δ.set i (some d)) (σ.set i (some v)) := by
 refine ⟨by simpa using h.1, fun j e hj => ?_⟩
 by_cases ij : i = j
 ·subst ij
  have hl : i < δ.length := by
   have := (jAr.mp hj).1
   simpa using this
  rw [jAs hl] at hj
  cases hj
  exact ⟨v, jAs (h.1 ▸ hl), r⟩
 ·rw [jAt ij] at hj
  obtain ⟨u, e1, q⟩ := h.2 j e hj
  exact ⟨u, by rw [jAt ij]; exact e1, q⟩
theorem RepS.start {G : Gx} {H : Hp} {W : Wd} {ds : List D} {vs : List V} (N : List Str) (h : RepL G H W ds vs) : RepS G H W (startD N.length ds) (start N vs) := by
 have hl := h.length
 refine ⟨by simp [startD, L2.start, hl], fun i d e => ?_⟩
 unfold startD at e
 by_cases hi : i < ds.length
 ·rw [jBr (by simpa using hi), jBs] at e
  cases q : ds[i]? with
  | none => rw [q] at e; cases e
  | some d' =>
   rw [q] at e; cases e
   obtain ⟨v, e1, r⟩ := h.get q
   refine ⟨v, ?_, r⟩
   unfold L2.start
   rw [jBr (by rw [jBd]; omega), jBs, e1] <;> rfl
 ·rw [jBp (by simpa using hi), jBq] at e
  split at e <;> cases e
def qBm {α : Type} (G : Gx) (E : XK) (H : Hp) (W : Wd) (r : Rs α) (P : α -> Hp -> Wd -> Prop) : Prop := match r with
 | .ok a S' => ∀ H' W', W'.S = S' -> Nxt G H W H' W' -> P a H' W'
 | .er c S' => ∃ C, G.mg c = some (.ref C) /\ ∀ H' W', W'.S = S' -> Nxt G H W H' W' -> E (.ref C) none H'
theorem qBm.nxt {α : Type} {G : Gx} {E : XK} {H H1 : Hp} {W W1 : Wd} {r : Rs α} {P : α -> Hp -> Wd -> Prop} (h : qBm G E H W r P) (s : Nxt G H W H1 W1) : qBm G E H1 W1 r P := by
 cases r with
 | ok a S' => exact fun H' W' e s' => h H' W' e (s.trans s')
 | er c S' =>
  obtain ⟨C, m, q⟩ := h
  exact ⟨C, m, fun H' W' e s' => q H' W' e (s.trans s')⟩
theorem qBm.now {α : Type} {G : Gx} {E : XK} {H : Hp} {W : Wd} {a : α} {P : α -> Hp -> Wd -> Prop} (h : qBm G E H W (.ok a W.S) P) (s : StOk G H W) : P a H W := h H W rfl (.rfl s)
abbrev VP (G : Gx) (Q : VK) : D -> Hp -> Wd -> Prop := fun d H' W' => ∀ v, Rep G H' W' d v -> Q v H'
abbrev AV (G : Gx) (Q : List V -> Hp -> Prop) : List D -> Hp -> Wd -> Prop := fun ds H' W' => ∀ vs, RepL G H' W' ds vs -> Q vs H'
abbrev BV (Q : Bool -> Hp -> Prop) : Bool -> Hp -> Wd -> Prop := fun b H' _ => Q b H'
def SV (G : Gx) (D : Ends) : Fl -> Hp -> Wd -> Prop := fun f H' W' => match f with
 | .nx δ => ∀ σ, RepS G H' W' δ σ -> D.nx σ H'
 | .rt d => ∀ v, Rep G H' W' d v -> D.rt v H'
 | .bk δ => ∀ σ, RepS G H' W' δ σ -> D.bk σ H'
 | .ct δ => ∀ σ, RepS G H' W' δ σ -> D.ct σ H'
def Go {α : Type} (G : Gx) (E : XK) (g : DS -> Sto -> R α) (P : α -> Hp -> Wd -> Prop) (σ : L2.St) (H : Hp) : Prop := ∃ W δ r, StOk G H W /\ RepS G H W δ σ /\ g δ W.S = some r /\ qBm G E H W r P
def tF (G : Gx) (E : XK) (g : DE) : TE := fun σ H Q => Go G E g (VP G Q) σ H
def tFT (G : Gx) (E : XK) (g : DT) : TT := fun σ H Q => Go G E g (BV Q) σ H
def tFA (G : Gx) (E : XK) (g : DA) : TA := fun σ H Q => Go G E g (AV G Q) σ H
def tFS (G : Gx) (E : XK) (g : DSt) : TS := fun D σ H => Go G E g (SV G D) σ H
def tFG (G : Gx) (E : XK) (g : DG) : TG := fun v σ H Q => ∃ W δ d r, StOk G H W /\ RepS G H W δ σ /\ Rep G H W d v /\ g d δ W.S = some r /\ qBm G E H W r (fun δ' H' W' => ∀ σ', RepS G H' W' δ' σ' -> Q σ' H')
abbrev gx (X : Cx) : Gx := ⟨X.K, X.mg⟩
@[irreducible] def PDE (X : Cx) (E : XK) (e : Expr) (g : DE) : Prop := PE X e (tF (gx X) E g)
@[irreducible] def PDT (X : Cx) (E : XK) (e : Expr) (g : DT) : Prop := PT X e (tFT (gx X) E g)
@[irreducible] def PDW (X : Cx) (E : XK) (e : Expr) (g : DT) : Prop := PW X e (tFT (gx X) E g)
@[irreducible] def PDA (X : Cx) (E : XK) (es : List Expr) (g : DA) : Prop := PA X es (tFA (gx X) E g)
@[irreducible] def PDS (X : Cx) (E : XK) (st : Stmt) (g : DSt) : Prop := PS X st (tFS (gx X) E g)
@[irreducible] def PDSs (X : Cx) (E : XK) (sts : List Stmt) (g : DSt) : Prop := PSs X sts (tFS (gx X) E g)
@[irreducible] def PDG (X : Cx) (E : XK) (tg : Expr) (g : DG) : Prop := PG X tg (tFG (gx X) E g)
theorem PDA.o {X : Cx} {E : XK} {es : List Expr} {g : DA} (h : PDA X E es g) : PA X es (tFA (gx X) E g) := by
 unfold PDA at h
 exact h
theorem PDE.o {X : Cx} {E : XK} {e : Expr} {g : DE} (h : PDE X E e g) : PE X e (tF (gx X) E g) := by
 unfold PDE at h
 exact h
theorem PE.imp {X : Cx} {e : Expr} {t t' : TE} (h : PE X e t) (hi : ∀ σ H Q, t' σ H Q -> t σ H Q) : PE X e t' := fun pins s σ H Q I q => h pins s σ H Q I (hi σ H Q q)
theorem PT.imp {X : Cx} {e : Expr} {t t' : TT} (h : PT X e t) (hi : ∀ σ H Q, t' σ H Q -> t σ H Q) : PT X e t' := fun pins s σ H Q I q => h pins s σ H Q I (hi σ H Q q)
theorem PW.imp {X : Cx} {e : Expr} {t t' : TT} (h : PW X e t) (hi : ∀ σ H Q, t' σ H Q -> t σ H Q) : PW X e t' := fun wh pins s σ H Q I q => h wh pins s σ H Q I (hi σ H Q q)
theorem PA.imp {X : Cx} {es : List Expr} {t t' : TA} (h : PA X es t) (hi : ∀ σ H Q, t' σ H Q -> t σ H Q) : PA X es t' := fun p pins s σ H Q I q => h p pins s σ H Q I (hi σ H Q q)
theorem PS.imp {X : Cx} {st : Stmt} {t t' : TS} (h : PS X st t) (hi : ∀ D σ H, t' D σ H -> t D σ H) : PS X st t' := fun pins s σ H D I q => h pins s σ H D I (hi D σ H q)
theorem PSs.imp {X : Cx} {st : List Stmt} {t t' : TS} (h : PSs X st t) (hi : ∀ D σ H, t' D σ H -> t D σ H) : PSs X st t' := fun pins s σ H D I q => h pins s σ H D I (hi D σ H q)
section
variable {G : Gx} {E : XK} {σ : L2.St} {H : Hp} {δ : DS} {W : Wd}
theorem Go.thn {α β : Type} {ga : DS -> Sto -> R α} {k : α -> Sto -> R β} {r : Rs β} {P : β -> Hp -> Wd -> Prop} {P1 : α -> Hp -> Wd -> Prop} (hS : StOk G H W) (hδ : RepS G H W δ σ) (h : bnd (ga δ W.S) k = some r) (hA : qBm G E H W r P)
  (next : ∀ a H1 W1, Nxt G H W H1 W1 -> RepS G H1 W1 δ σ -> k a W1.S = some r -> qBm G E H1 W1 r P -> P1 a H1 W1) : Go G E ga P1 σ H := by
 rcases qAm h with ⟨a, S, e, q⟩ | ⟨c, S, e, q⟩
 ·exact ⟨W, δ, .ok a S, hS, hδ, e, fun H1 W1 e1 s => next a H1 W1 s (hδ.mv (s.mv hS)) (by rw [e1]; exact q) (hA.nxt s)⟩
 ·subst q
  exact ⟨W, δ, .er c S, hS, hδ, e, hA⟩
end
section
variable {X : Cx} {E : XK} {a b c e : Expr} {pos : Pos} {ga gb : DE}
theorem zA (i : Nat) {x : Str} (hN : X.N[i]? = some x := by rfl) (hv : Vis X.env.scope x := by first | exact Or.inl rfl | exact Or.inr (Or.inl rfl) | exact Or.inr (Or.inr rfl)) (hd : (x == ("__debug__" : Str)) = false := by decide +kernel)
  (hcd : (x == ("__classdict__" : Str)) = false := by decide +kernel) : PDE X E (.Name x pos) (vr i) := by
 try unfold PDE at *
 refine PE.imp (pe_var hN hv hd hcd) fun σ H Q ⟨W, δ, r, hS, hδ, hg, hA⟩ => ?_
 unfold vr at hg
 cases q : δ[i]? with
 | none => rw [q] at hg; cases hg
 | some o =>
  cases o with
  | none => rw [q] at hg; cases hg
  | some d =>
   rw [q] at hg
   obtain rfl : Rs.ok d W.S = r := Option.some.inj hg
   obtain ⟨v, e1, rv⟩ := hδ.2 i d q
   exact ⟨v, e1, hA.now hS v rv⟩
theorem qDg {t : TE} {d : D} {v : V} (h : PE X e t) (ht : ∀ σ H Q, Q v H -> t σ H Q) (hr : ∀ H W, Rep (gx X) H W d v) : PDE X E e (cst d) := by
 try unfold PDE at *
 refine PE.imp h fun σ H Q ⟨W, δ, r, hS, hδ, hg, hA⟩ => ?_
 obtain rfl : Rs.ok d W.S = r := Option.some.inj hg
 exact ht σ H Q (hA.now hS v (hr H W))
theorem zF {i : Int} {j} : PDE X E (.Constant (.int i) j pos) (cst (.int i)) := by
 first
 | exact (
  qDg pe_int (fun _ _ _ q => q) fun _ _ => rfl)
 | ((try unfold PDE at *); exact (
  qDg pe_int (fun _ _ _ q => q) fun _ _ => rfl))
theorem pd_bl {i : Bool} {j} : PDE X E (.Constant (.bool i) j pos) (cst (.bl i)) := by
 first
 | exact (
  qDg pe_bl (fun _ _ _ q => q) fun _ _ => rfl)
 | ((try unfold PDE at *); exact (
  qDg pe_bl (fun _ _ _ q => q) fun _ _ => rfl))
theorem pd_non {j} : PDE X E (.Constant .none j pos) (cst .non) := by
 first
 | exact (
  qDg pe_non (fun _ _ _ q => q) fun _ _ => rfl)
 | ((try unfold PDE at *); exact (
  qDg pe_non (fun _ _ _ q => q) fun _ _ => rfl))
theorem pd_glob {x : Str} {u : Value} {v : V} {d : D} (hg : Gl X x) (hm : X.mg x = some u) (r : RelV v u) (hr : ∀ H W, Rep (gx X) H W d v) (hd : (x == ("__debug__" : Str)) = false := by decide +kernel) : PDE X E (.Name x pos) (cst d) := by
 first
 | exact (
  qDg (pe_glob hg hm r hd) (fun _ _ _ q => q) hr)
 | ((try unfold PDE at *); exact (
  qDg (pe_glob hg hm r hd) (fun _ _ _ q => q) hr))
def CstAt (K : PySem.W.Frag) (mg : Str -> Option Value) (x : Str) (d : D) : Prop := ∃ u v, mg x = some u /\ RelV v u /\ ∀ H W, Rep ⟨K, mg⟩ H W d v
theorem pd_C {x : Str} {d : D} (hg : Gl X x) (h : CstAt X.K X.mg x d) (hd : (x == ("__debug__" : Str)) = false := by decide +kernel) : PDE X E (.Name x pos) (cst d) := by
 obtain ⟨u, v, hm, r, hr⟩ := h
 exact pd_glob hg hm r hr hd
def OpD (G : Gx) (r : R2) (f : D -> D -> Sto -> R D) : Prop :=
 ∀ (E : XK) (H : Hp) (W : Wd) (x y : V) (dx dy : D) (Q : VK) (rr : Rs D), StOk G H W -> Rep G H W dx x -> Rep G H W dy y -> f dx dy W.S = some rr -> qBm G E H W rr (VP G Q) -> r x y H Q
theorem qDe {r : R2} {f : D -> D -> Sto -> R D} (hf : OpD (gx X) r f) : ∀ σ H Q, tF (gx X) E (op2 f ga gb) σ H Q -> tOp r (tF (gx X) E ga) (tF (gx X) E gb) σ H Q := by
 intro σ H Q ⟨W, δ, rr, hS, hδ, hg, hA⟩
 refine Go.thn hS hδ hg hA fun dx H1 W1 s1 hδ1 hg1 hA1 x rx => ?_
 refine Go.thn s1.ok hδ1 hg1 hA1 fun dy H2 W2 s2 hδ2 hg2 hA2 y ry => ?_
 exact hf E H2 W2 x y dx dy Q rr s2.ok (rx.mv (s2.mv s1.ok)) ry hg2 hA2
theorem pd_op {op : Operator} {r : R2} {f : D -> D -> Sto -> R D} (ho : OpR X (binaryOp op) r) (hf : OpD (gx X) r f) (ha : PDE X E a ga) (hb : PDE X E b gb) : PDE X E (.BinOp a op b pos) (op2 f ga gb) := by
 first
 | exact (
  PE.imp (pe_op ho ha hb) (qDe hf))
 | ((try unfold PDE at *); exact (
  PE.imp (pe_op ho ha hb) (qDe hf)))
theorem pd_cmp {op : CmpOp} {r : R2} {f : D -> D -> Sto -> R D} (ho : OpR X (compareOp op) r) (hf : OpD (gx X) r f) (ha : PDE X E a ga) (hb : PDE X E b gb) (hm : behindInMarks op b = false) : PDE X E (.Compare a [op] [b] pos) (op2 f ga gb) := by
 first
 | exact (
  PE.imp (pe_cmpR ho ha hb hm) (qDe hf))
 | ((try unfold PDE at *); exact (
  PE.imp (pe_cmpR ho ha hb hm) (qDe hf)))
theorem tB_tF {t : TE} (ht : ∀ σ H Q, tF (gx X) E ga σ H Q -> t σ H Q) : ∀ σ H Q, tFT (gx X) E (tv ga) σ H Q -> t σ H fun x H1 => ∃ k, x = .bl k /\ Q k H1 := by
 intro σ H Q ⟨W, δ, rr, hS, hδ, hg, hA⟩
 refine ht σ H _ (Go.thn hS hδ hg hA fun d H1 W1 s1 hδ1 hg1 hA1 v rv => ?_)
 cases d with
 | bl k =>
  obtain rfl : Rs.ok k W1.S = rr := Option.some.inj hg1
  exact ⟨k, rv, hA1.now s1.ok⟩
 | _ => cases hg1
theorem yA {op : CmpOp} {r : R2} {f : D -> D -> Sto -> R D} (ho : OpR X (compareOp op) r) (hf : OpD (gx X) r f) (ha : PDE X E a ga) (hb : PDE X E b gb) (hm : behindInMarks op b = false) : PDT X E (.Compare a [op] [b] pos) (tv (op2 f ga gb)) := by
 first
 | exact (
  PT.imp (pt_cmpR ho ha hb hm) (tB_tF (qDe hf)))
 | ((try unfold PDE at *); (try unfold PDT at *); exact (
  PT.imp (pt_cmpR ho ha hb hm) (tB_tF (qDe hf))))
theorem pt_valD (ha : PDE X E a ga) (he : ∀ whole, isTrue a X.env whole = (do let v <- whole; standAt a.pos; holding [v] (truthy v)) := by intro _; rfl) : PDT X E a (tv ga) := by
 first
 | exact (
  PT.imp (pt_val ha he) (tB_tF fun _ _ _ q => q))
 | ((try unfold PDE at *); (try unfold PDT at *); exact (
  PT.imp (pt_val ha he) (tB_tF fun _ _ _ q => q)))
def UnD (G : Gx) (r : V -> Hp -> VK -> Prop) (f : D -> Sto -> R D) : Prop :=
 ∀ (E : XK) (H : Hp) (W : Wd) (x : V) (dx : D) (Q : VK) (rr : Rs D), StOk G H W -> Rep G H W dx x -> f dx W.S = some rr -> qBm G E H W rr (VP G Q) -> r x H Q
theorem pd_un {op : UnaryOp} {r : V -> Hp -> VK -> Prop} {f : D -> Sto -> R D} (ho : UnR X (unaryOp op) r) (hf : UnD (gx X) r f) (ha : PDE X E a ga) : PDE X E (.UnaryOp op a pos) (op1 f ga) := by
 try unfold PDE at *
 refine PE.imp (pe_un ho ha) fun σ H Q ⟨W, δ, rr, hS, hδ, hg, hA⟩ => ?_
 exact Go.thn hS hδ hg hA fun dx H1 W1 s1 hδ1 hg1 hA1 x rx => hf E H1 W1 x dx Q rr s1.ok rx hg1 hA1
variable {ta tb : DT} {rest : List Expr}
theorem pd_and1 (ha : PDT X E a ta) : PDW X E (.BoolOp .And [a] pos) ta := by
 first
 | exact (
  pw_and1 ha)
 | ((try unfold PDT at *); (try unfold PDW at *); exact (
  pw_and1 ha))
theorem pd_or1 (ha : PDT X E a ta) : PDW X E (.BoolOp .Or [a] pos) ta := by
 first
 | exact (
  pw_or1 ha)
 | ((try unfold PDT at *); (try unfold PDW at *); exact (
  pw_or1 ha))
theorem pd_and (ha : PDT X E a ta) (hb : PDW X E (.BoolOp .And (b :: rest) pos) tb) : PDW X E (.BoolOp .And (a :: b :: rest) pos) (andT ta tb) := by
 try unfold PDT at *
 try unfold PDW at *
 refine PW.imp (pw_and ha hb) fun σ H Q ⟨W, δ, rr, hS, hδ, hg, hA⟩ => ?_
 refine Go.thn hS hδ hg hA fun c H1 W1 s1 hδ1 hg1 hA1 => ?_
 cases c with
 | true => exact ⟨W1, δ, rr, s1.ok, hδ1, hg1, hA1⟩
 | false =>
  obtain rfl : Rs.ok false W1.S = rr := Option.some.inj hg1
  exact hA1.now s1.ok
theorem pd_or (ha : PDT X E a ta) (hb : PDW X E (.BoolOp .Or (b :: rest) pos) tb) : PDW X E (.BoolOp .Or (a :: b :: rest) pos) (orT ta tb) := by
 try unfold PDT at *
 try unfold PDW at *
 refine PW.imp (pw_or ha hb) fun σ H Q ⟨W, δ, rr, hS, hδ, hg, hA⟩ => ?_
 refine Go.thn hS hδ hg hA fun c H1 W1 s1 hδ1 hg1 hA1 => ?_
 cases c with
 | true =>
  obtain rfl : Rs.ok true W1.S = rr := Option.some.inj hg1
  exact hA1.now s1.ok
 | false => exact ⟨W1, δ, rr, s1.ok, hδ1, hg1, hA1⟩
theorem pd_wt (h : PDW X E a ta) : PDT X E a ta := by
 first
 | exact (
  PW.pt h)
 | ((try unfold PDT at *); (try unfold PDW at *); exact (
  PW.pt h))
theorem pd_not (ha : PDT X E a ta) : PDT X E (.UnaryOp .Not a pos) (notT ta) := by
 try unfold PDT at *
 refine PT.imp (pt_not ha) fun σ H Q ⟨W, δ, rr, hS, hδ, hg, hA⟩ => ?_
 refine Go.thn hS hδ hg hA fun c H1 W1 s1 hδ1 hg1 hA1 => ?_
 obtain rfl : Rs.ok (!c) W1.S = rr := Option.some.inj hg1
 exact hA1.now s1.ok
theorem pd_oneV {op} (ha : PDE X E a ga) : PDE X E (.BoolOp op [a] pos) ga := by
 first
 | exact (
  pe_one ha)
 | ((try unfold PDE at *); exact (
  pe_one ha))
theorem pd_andV (ha : PDE X E a ga) (hb : PDE X E (.BoolOp .And (b :: rest) pos) gb) : PDE X E (.BoolOp .And (a :: b :: rest) pos) (andV ga gb) := by
 try unfold PDE at *
 refine PE.imp (pe_and ha hb) fun σ H Q ⟨W, δ, rr, hS, hδ, hg, hA⟩ => ?_
 refine Go.thn hS hδ hg hA fun d H1 W1 s1 hδ1 hg1 hA1 v rv => ?_
 cases d with
 | bl k =>
  refine ⟨k, rv, ?_⟩
  cases k with
  | true => exact ⟨W1, δ, rr, s1.ok, hδ1, hg1, hA1⟩
  | false =>
   obtain rfl : Rs.ok (D.bl false) W1.S = rr := Option.some.inj hg1
   exact hA1.now s1.ok _ rfl
 | _ => cases hg1
theorem pd_notV (ha : PDE X E a ga) : PDE X E (.UnaryOp .Not a pos) (notV ga) := by
 try unfold PDE at *
 refine PE.imp (pe_not ha) fun σ H Q ⟨W, δ, rr, hS, hδ, hg, hA⟩ => ?_
 refine Go.thn hS hδ hg hA fun d H1 W1 s1 hδ1 hg1 hA1 v rv => ?_
 cases d with
 | bl k =>
  refine ⟨k, rv, ?_⟩
  obtain rfl : Rs.ok (D.bl (!k)) W1.S = rr := Option.some.inj hg1
  exact hA1.now s1.ok _ rfl
 | _ => cases hg1
theorem pd_ifE (hc : PDT X E c ta) (ha : PDE X E a ga) (hb : PDE X E b gb) : PDE X E (.IfExp c a b pos) (ifE ta ga gb) := by
 try unfold PDE at *
 try unfold PDT at *
 refine PE.imp (pe_ifExp hc ha hb) fun σ H Q ⟨W, δ, rr, hS, hδ, hg, hA⟩ => ?_
 refine Go.thn hS hδ hg hA fun k H1 W1 s1 hδ1 hg1 hA1 => ?_
 cases k with
 | true => exact ⟨W1, δ, rr, s1.ok, hδ1, hg1, hA1⟩
 | false => exact ⟨W1, δ, rr, s1.ok, hδ1, hg1, hA1⟩
variable {es : List Expr} {gs : DA}
theorem zE : PDA X E [] aNil := by
 try unfold PDA at *
 refine PA.imp pa_nil fun σ H Q ⟨W, δ, rr, hS, hδ, hg, hA⟩ => ?_
 obtain rfl : Rs.ok [] W.S = rr := Option.some.inj hg
 exact hA.now hS [] rfl
theorem zB (ha : PDE X E e ga) (hr : PDA X E es gs) (hs : starEach (e :: es) X.env = (false, eval e X.env) :: starEach es X.env := by rfl) : PDA X E (e :: es) (yH ga gs) := by
 try unfold PDE at *
 try unfold PDA at *
 refine PA.imp (qDx ha hr hs) fun σ H Q ⟨W, δ, rr, hS, hδ, hg, hA⟩ => ?_
 refine Go.thn hS hδ hg hA fun d H1 W1 s1 hδ1 hg1 hA1 v rv => ?_
 refine Go.thn s1.ok hδ1 hg1 hA1 fun ds H2 W2 s2 hδ2 hg2 hA2 vs rvs => ?_
 obtain rfl : Rs.ok (d :: ds) W2.S = rr := Option.some.inj hg2
 exact hA2.now s2.ok _ ⟨v, vs, rfl, rv.mv (s2.mv s1.ok), rvs⟩
theorem sz {n : Nat} (h : n <= 1000000) : n <= sizeLine := jAj h (by decide)
theorem Mv.heap {H : Hp} {W : Wd} {p : Addr} (hp : H p = none) (u : HO) : Mv H W (upd H p u) W := ⟨jAx _, fun _ _ => rfl, fun b v e _ => by rw [zO (qAl e hp)]; exact e⟩
theorem pd_tup {x1} (h : PDA X E es gs) : PDE X E (.Tuple es x1 pos) (fnE tupD gs) := by
 try unfold PDE at *
 try unfold PDA at *
 refine PE.imp (pe_tup h) fun σ H Q ⟨W, δ, rr, hS, hδ, hg, hA⟩ => ?_
 refine Go.thn hS hδ hg hA fun ds H1 W1 s1 hδ1 hg1 hA1 vs rvs => ?_
 unfold tupD at hg1
 split at hg1
 ·rename_i hl
  obtain rfl : Rs.ok (D.tup ds) W1.S = rr := Option.some.inj hg1
  refine ⟨by rw [<- rvs.length]; exact sz (by omega), fun p hp => hA1 _ W1 rfl (Nxt.heap s1.ok hp _) _ ?_⟩
  exact ⟨p, vs, rfl, SqT.of zX, rvs.mv (Mv.heap hp _)⟩
 ·cases hg1
theorem qBq {G : Gx} {H : Hp} {W : Wd} {E : XK} {rr : Rs D} {Q : VK} {ds : List D} {vs : List V} {p : Addr} (hS : StOk G H W) (hg : newO (.lst ds) W.S = some rr) (hA : qBm G E H W rr (VP G Q)) (rl : RepL G H W ds vs) (hp : H p = none) : Q (.ref p) (upd H p (.lst vs)) := by
 obtain rfl : Rs.ok (D.ref W.S.length) (W.S ++ [O.lst ds]) = rr := Option.some.inj hg
 refine hA _ (W.push p (.lst ds)) rfl (Nxt.alloc hS hp ⟨vs, zX, rl.mv (Mv.push (G := G) hp _ _)⟩) _ ⟨?_, ?_⟩
 ·simp [Wd.push]
 ·show V.ref p = .ref (if W.S.length = W.S.length then p else _)
  rw [if_pos rfl]
theorem pd_lst (h : PDA X E es gs) : PDE X E (.List es pos) (fnE lstD gs) := by
 try unfold PDE at *
 try unfold PDA at *
 refine PE.imp (pe_lst h) fun σ H Q ⟨W, δ, rr, hS, hδ, hg, hA⟩ => ?_
 refine Go.thn hS hδ hg hA fun ds H1 W1 s1 hδ1 hg1 hA1 vs rvs => ?_
 unfold lstD at hg1
 split at hg1
 ·rename_i hl
  exact ⟨by rw [<- rvs.length]; exact sz (by omega), fun p hp => qBq s1.ok hg1 hA1 rvs hp⟩
 ·cases hg1
def CallD (G : Gx) (r : List V -> Hp -> VK -> Prop) (f : List D -> Sto -> R D) : Prop :=
 ∀ (E : XK) (H : Hp) (W : Wd) (vs : List V) (ds : List D) (Q : VK) (rr : Rs D), StOk G H W -> RepL G H W ds vs -> f ds W.S = some rr -> qBm G E H W rr (VP G Q) -> r vs H Q
theorem qE4 {r : List V -> Hp -> VK -> Prop} {f : List D -> Sto -> R D} (hf : CallD (gx X) r f) : ∀ σ H Q, tF (gx X) E (fnE f gs) σ H Q -> tCB r (tFA (gx X) E gs) σ H Q := by
 intro σ H Q ⟨W, δ, rr, hS, hδ, hg, hA⟩
 exact Go.thn hS hδ hg hA fun ds H1 W1 s1 hδ1 hg1 hA1 vs rvs => hf E H1 W1 vs ds Q rr s1.ok rvs hg1 hA1
theorem yC {x : Str} {id : String} {p : Pos} {r : List V -> Hp -> VK -> Prop} {f : List D -> Sto -> R D} (hc : qCq X (.builtin id) r) (hf : CallD (gx X) r f) (hg : Gl X x) (hm : X.mg x = none) (hv : bootBuiltins x = some (.builtin id)) (ha : PDA X E (e :: es) gs) (hn : x ≠ "__name__" := by decide +kernel)
  (hdb : (x == ("__debug__" : Str)) = false := by decide +kernel) (he : starEach (e :: es) X.env = (false, eval e X.env) :: starEach es X.env := by rfl) (hpl : (backTo pos (starEach es X.env)).any (·.1) = false := by rfl) : PDE X E (.Call (.Name x p) (e :: es) [] pos) (fnE f gs) := by
 first
 | exact (
  PE.imp (qFb hc hg hm hv ha hn hdb he hpl) (qE4 hf))
 | ((try unfold PDE at *); (try unfold PDA at *); exact (
  PE.imp (qFb hc hg hm hv ha hn hdb he hpl) (qE4 hf)))
theorem pd_callTy {x : Str} {T : String} {p : Pos} {r : List V -> Hp -> VK -> Prop} {f : List D -> Sto -> R D} (hc : qCq X (.type T) r) (hf : CallD (gx X) r f) (hg : Gl X x) (hm : X.mg x = none) (hv : bootBuiltins x = some (.type T)) (ha : PDA X E (e :: es) gs) (hn : x ≠ "__name__" := by decide +kernel)
  (hdb : (x == ("__debug__" : Str)) = false := by decide +kernel) (he : starEach (e :: es) X.env = (false, eval e X.env) :: starEach es X.env := by rfl) (hpl : (backTo pos (starEach es X.env)).any (·.1) = false := by rfl) : PDE X E (.Call (.Name x p) (e :: es) [] pos) (fnE f gs) := by
 first
 | exact (
  PE.imp (pe_callTy hc hg hm hv ha hn hdb he hpl) (qE4 hf))
 | ((try unfold PDE at *); (try unfold PDA at *); exact (
  PE.imp (pe_callTy hc hg hm hv ha hn hdb he hpl) (qE4 hf)))
def spF (G : Gx) (f : List D -> Sto -> R D) : Sp := fun vs H Q E => ∃ W ds rr, StOk G H W /\ RepL G H W ds vs /\ f ds W.S = some rr /\ qBm G E H W rr (VP G Q)
theorem pd_fn {CX : CXT} {k : Nat} {fa : Addr} {fd : FuncData} {ps : List Str} {x : Str} {p : Pos} {f : List D -> Sto -> R D} (F : FnOk X.prog X.w X.K X.mg X.base CX k fa fd ps (spF (gx X) f)) (hr : Room k X.A) (hg : Gl X x) (hm : X.mg x = some (.ref fa)) (hk : jBc X.K (.ref fa) = true)
  (hb : zV X.K fd ps []) (hx : qB6 CX X E) (ha : PDA X E (e :: es) gs) (hdb : (x == ("__debug__" : Str)) = false := by decide +kernel) (he : starEach (e :: es) X.env = (false, eval e X.env) :: starEach es X.env := by rfl)
  (hpl : (backTo pos (starEach es X.env)).any (·.1) = false := by rfl) : PDE X E (.Call (.Name x p) (e :: es) [] pos) (fnE f gs) := by
 try unfold PDE at *
 try unfold PDA at *
 refine PE.imp (pe_call F hr hg hm hk hb .nil hx ha hdb he hpl) fun σ H Q ⟨W, δ, rr, hS, hδ, hg, hA⟩ => ?_
 exact Go.thn hS hδ hg hA fun as H1 W1 s1 hδ1 hg1 hA1 vs rvs => ⟨W1, as, rr, s1.ok, by rw [jBh]; exact rvs, hg1, hA1⟩
theorem pd_ix {r : R2} {f : D -> D -> Sto -> R D} (hr : IxR X r) (hf : OpD (gx X) r f) (ha : PDE X E a ga) (hb : PDE X E b gb) (hs : PlainIx b) : PDE X E (.Subscript a b pos) (op2 f ga gb) := by
 first
 | exact (
  PE.imp (pe_ix hr ha hb hs) (qDe hf))
 | ((try unfold PDE at *); exact (
  PE.imp (pe_ix hr ha hb hs) (qDe hf)))
end
section
variable {X : Cx} {E : XK} {st : Stmt} {rest : List Stmt} {e : Expr} {pos : Pos} {ge : DE} {gs gr : DSt} {t : DT}
theorem pds_nil : PDSs X E [] nxS := by
 try unfold PDSs at *
 refine PSs.imp pss_nil fun D σ H ⟨W, δ, rr, hS, hδ, hg, hA⟩ => ?_
 obtain rfl : Rs.ok (Fl.nx δ) W.S = rr := Option.some.inj hg
 exact hA.now hS σ hδ
theorem zJ (h : PDS X E st gs) : PDSs X E [st] gs := by
 first
 | exact (
  pss_one h)
 | ((try unfold PDS at *); (try unfold PDSs at *); exact (
  pss_one h))
theorem zD (h : PDS X E st gs) (hr : PDSs X E rest gr) : PDSs X E (st :: rest) (seqS gs gr) := by
 try unfold PDS at *
 try unfold PDSs at *
 refine PSs.imp (pss_cons h hr) fun D σ H ⟨W, δ, rr, hS, hδ, hg, hA⟩ => ?_
 refine Go.thn hS hδ hg hA fun f H1 W1 s1 hδ1 hg1 hA1 => ?_
 cases f with
 | nx δ' => exact fun σ' hδ' => ⟨W1, δ', rr, s1.ok, hδ', hg1, hA1⟩
 | rt d =>
  obtain rfl : Rs.ok (Fl.rt d) W1.S = rr := Option.some.inj hg1
  exact hA1.now s1.ok
 | bk δ' =>
  obtain rfl : Rs.ok (Fl.bk δ') W1.S = rr := Option.some.inj hg1
  exact hA1.now s1.ok
 | ct δ' =>
  obtain rfl : Rs.ok (Fl.ct δ') W1.S = rr := Option.some.inj hg1
  exact hA1.now s1.ok
theorem zP (he : PDE X E e ge) : PDS X E (.Return (some e) pos) (retS ge) := by
 try unfold PDE at *
 try unfold PDS at *
 refine PS.imp (ps_ret he) fun D σ H ⟨W, δ, rr, hS, hδ, hg, hA⟩ => ?_
 refine Go.thn hS hδ hg hA fun d H1 W1 s1 hδ1 hg1 hA1 v rv => ?_
 obtain rfl : Rs.ok (Fl.rt d) W1.S = rr := Option.some.inj hg1
 exact hA1.now s1.ok v rv
theorem pd_expr (he : PDE X E e ge) (hs : swapsWith e none pos.line X.env = pure false := by rfl) : PDS X E (.Expr e pos) (dropS ge) := by
 try unfold PDE at *
 try unfold PDS at *
 refine PS.imp (ps_expr he hs) fun D σ H ⟨W, δ, rr, hS, hδ, hg, hA⟩ => ?_
 refine Go.thn hS hδ hg hA fun d H1 W1 s1 hδ1 hg1 hA1 v rv => ?_
 obtain rfl : Rs.ok (Fl.nx δ) W1.S = rr := Option.some.inj hg1
 exact hA1.now s1.ok σ hδ1
theorem pd_if {c : Expr} {a b : List Stmt} {gb : DSt} (hc : PDT X E c t) (ha : PDSs X E a gs) (hb : PDSs X E b gb) : PDS X E (.If c a b pos) (ifS t gs gb) := by
 try unfold PDT at *
 try unfold PDS at *
 try unfold PDSs at *
 refine PS.imp (ps_if hc ha hb) fun D σ H ⟨W, δ, rr, hS, hδ, hg, hA⟩ => ?_
 refine Go.thn hS hδ hg hA fun k H1 W1 s1 hδ1 hg1 hA1 => ?_
 cases k with
 | true => exact ⟨W1, δ, rr, s1.ok, hδ1, hg1, hA1⟩
 | false => exact ⟨W1, δ, rr, s1.ok, hδ1, hg1, hA1⟩
theorem pd_never : PDS X E st nevS := by
 first
 | exact (
  PS.imp ps_never fun D σ H ⟨W, δ, rr, hS, hδ, hg, hA⟩ => by cases hg)
 | ((try unfold PDS at *); exact (
  PS.imp ps_never fun D σ H ⟨W, δ, rr, hS, hδ, hg, hA⟩ => by cases hg))
theorem zS (i : Nat) {x : Str} {pos' : Pos} (hN : X.N.Nodup) (he : PDE X E e ge) (hi : X.N[i]? = some x := by rfl) (hx : Loc X.env.scope x := by first | exact Or.inl rfl | exact Or.inr rfl) (hs : swapsWith e (some (.Name x pos')) pos.line X.env = pure false := by rfl)
  (hf : X.fn x = true \/ X.env.scope.names.lookup x = some .local := by first | exact .inl rfl | exact .inr rfl | assumption) : PDS X E (.Assign [.Name x pos'] e pos) (setS i ge) := by
 try unfold PDE at *
 try unfold PDS at *
 refine PS.imp (ps_set hN hi hx he hs hf) fun D σ H ⟨W, δ, rr, hS, hδ, hg, hA⟩ => ?_
 refine Go.thn hS hδ hg hA fun d H1 W1 s1 hδ1 hg1 hA1 v rv => ?_
 obtain rfl : Rs.ok (Fl.nx (δ.set i (some d))) W1.S = rr := Option.some.inj hg1
 exact hA1.now s1.ok _ (hδ1.set i rv)
theorem pd_par (i j : Nat) {x y : Str} {a b : Expr} {ga gb : DE} {px py pt : Pos} {kt k2 pt2} (hc : X.calm = true) (hN : X.N.Nodup) (ha : PDE X E a ga) (hb : PDE X E b gb) (hi : X.N[i]? = some x := by rfl) (hj : X.N[j]? = some y := by rfl) (hij : i ≠ j := by decide)
  (hx : X.env.scope.names.lookup x = some .local := by rfl) (hy : X.env.scope.names.lookup y = some .local := by rfl)
  (hst : starEach (a :: [b]) X.env = (false, eval a X.env) :: starEach [b] X.env := by rfl) (hst2 : starEach (b :: []) X.env = (false, eval b X.env) :: starEach [] X.env := by rfl)
  (hw : swappedStores [.Tuple [.Name x px, .Name y py] kt pt] (.Tuple [a, b] k2 pt2) X.env = pure (some [x, y]) := by rfl)
  (hs : swapsWithSole [.Tuple [.Name x px, .Name y py] kt pt] (.Tuple [a, b] k2 pt2) pos.line X.env = pure false := by rfl) :
  PDS X E (.Assign [.Tuple [.Name x px, .Name y py] kt pt] (.Tuple [a, b] k2 pt2) pos) (parS i j ga gb) := by
 try unfold PDE at *
 try unfold PDS at *
 refine PS.imp (ps_par hc hN hi hj hij hx hy (qDx ha (qDx hb pa_nil hst2) hst) hw hs) fun D σ H ⟨W, δ, rr, hS, hδ, hg, hA⟩ => ?_
 refine Go.thn hS hδ hg hA fun d1 H1 W1 s1 hδ1 hg1 hA1 v1 rv1 => ?_
 refine Go.thn s1.ok hδ1 hg1 hA1 fun d2 H2 W2 s2 hδ2 hg2 hA2 v2 rv2 => ?_
 obtain rfl : Rs.ok (Fl.nx ((δ.set i (some d1)).set j (some d2))) W2.S = rr := Option.some.inj hg2
 exact ⟨v1, v2, rfl, hA2.now s2.ok _ ((hδ2.set i (rv1.mv (s2.mv s1.ok))).set j rv2)⟩
theorem zL (i : Nat) {x : Str} (hN : X.N.Nodup) (hi : X.N[i]? = some x := by rfl) (hx : Loc X.env.scope x := by first | exact Or.inl rfl | exact Or.inr rfl) (hf : X.fn x = true \/ X.env.scope.names.lookup x = some .local := by first | exact .inl rfl | exact .inr rfl | assumption) :
  PDG X E (.Name x pos) (setG i) := by
 try unfold PDG at *
 intro pins s σ H v u Q I rv h
 obtain ⟨W, δ, d, rr, hS, hδ, hd, hg, hA⟩ := h
 obtain rfl : Rs.ok (δ.set i (some d)) W.S = rr := Option.some.inj hg
 exact pg_name hN hi hx hf pins s σ H v u Q I rv (hA.now hS _ (hδ.set i hd))
def tFGs (G : Gx) (E : XK) (gs : List DG) : TGs := fun vs σ H Q => ∃ W δ ds r, StOk G H W /\ RepS G H W δ σ /\ RepL G H W ds vs /\ tupGs gs ds δ W.S = some r /\ qBm G E H W r (fun δ' H' W' => ∀ σ', RepS G H' W' δ' σ' -> Q σ' H')
@[irreducible] def PDGs (X : Cx) (E : XK) (ts : List Expr) (gs : List DG) : Prop := PGs X ts (tFGs (gx X) E gs)
theorem pdgs_nil : PDGs X E [] [] := by
 try unfold PDGs at *
 intro pins s σ H vs us Q I rv h
 obtain ⟨W, δ, ds, rr, hS, hδ, hd, hg, hA⟩ := h
 cases ds with
 | nil =>
  obtain rfl : Rs.ok δ W.S = rr := Option.some.inj hg
  have e : vs = [] := hd
  exact pgs_nil pins s σ H vs us Q I rv ⟨e, hA.now hS σ hδ⟩
 | cons d ds => cases hg
theorem zZ {tg : Expr} {ts : List Expr} {g : DG} {gs : List DG} (h : PDG X E tg g) (hr : PDGs X E ts gs) (hs : (assignEach (tg :: ts) X.env).map (·.2) = assign tg X.env :: (assignEach ts X.env).map (·.2) := by rfl) : PDGs X E (tg :: ts) (g :: gs) := by
 try unfold PDGs at *
 try unfold PDG at *
 intro pins s σ H vs us Q I rv h'
 obtain ⟨W, δ, ds, rr, hS, hδ, hd, hg, hA⟩ := h'
 cases ds with
 | nil => cases hg
 | cons d ds =>
  obtain ⟨v, r, rfl, q, tl⟩ := hd
  refine pgs_cons h hr hs pins s σ H _ us Q I rv ⟨v, r, rfl, ?_⟩
  rcases qAm (show bnd (g d δ W.S) (tupGs gs ds) = some rr from hg) with ⟨δ1, S1, e1, q1⟩ | ⟨c, S1, e1, q1⟩
  ·exact ⟨W, δ, d, .ok δ1 S1, hS, hδ, q, e1, fun H1 W1 e s1 σ1 hδ1 => ⟨W1, δ1, ds, rr, s1.ok, hδ1, tl.mv (s1.mv hS), by rw [e]; exact q1, hA.nxt s1⟩⟩
  ·subst q1
   exact ⟨W, δ, d, .er c S1, hS, hδ, q, e1, hA⟩
theorem pdg_tup {ts : List Expr} {k : Nat} {gs : List DG} (hc : X.calm = true) (h : PDGs X E ts gs) (hn : (assignEach ts X.env).length = gs.length := by rfl) (hst : (assignEach ts X.env).findIdx? (·.1) = none := by rfl) : PDG X E (.Tuple ts k pos) (tupG gs) := by
 try unfold PDGs at *
 try unfold PDG at *
 intro pins s σ H v u Q I rv h'
 obtain ⟨W, δ, d, rr, hS, hδ, hd, hg, hA⟩ := h'
 cases d with
 | tup ds =>
  obtain ⟨a, xs, e, q, r⟩ := hd
  have hg' : (if ds.length = gs.length then tupGs gs ds δ W.S else none) = some rr := hg
  split at hg'
  ·rename_i l
   exact pg_tup (n := gs.length) hc h hn hst pins s σ H v u Q I rv ⟨a, xs, e, q, by rw [<- r.length]; exact l, W, δ, ds, rr, hS, hδ, r, hg', hA⟩
  ·cases hg'
 | _ => cases hg
theorem pd_asg {tg : Expr} {g : DG} (he : PDE X E e ge) (hg : PDG X E tg g) (hs : swapsWithSole [tg] e pos.line X.env = pure false := by rfl) (hw : swappedStores [tg] e X.env = pure none := by rfl)
  (h1 : (assignEach [tg] X.env).map (·.2) = [assign tg X.env] := by rfl) : PDS X E (.Assign [tg] e pos) (asgS ge g) := by
 try unfold PDE at *
 try unfold PDS at *
 try unfold PDG at *
 refine PS.imp (ps_asg he hg hs hw h1) fun D σ H ⟨W, δ, rr, hS, hδ, hg, hA⟩ => ?_
 refine Go.thn hS hδ hg hA fun d H1 W1 s1 hδ1 hg1 hA1 v rv => ?_
 rcases qAm (show bnd (g d δ W1.S) nxS = some rr from hg1) with ⟨δ', S', e1, q⟩ | ⟨c, S', e1, q⟩
 ·obtain rfl : Rs.ok (Fl.nx δ') S' = rr := Option.some.inj q
  exact ⟨W1, δ, d, .ok δ' S', s1.ok, hδ1, rv, e1, fun H2 W2 e s2 σ2 hδ2 => hA1 H2 W2 e s2 σ2 hδ2⟩
 ·subst q
  exact ⟨W1, δ, d, .er c S', s1.ok, hδ1, rv, e1, hA1⟩
theorem pd_while {c : Expr} {body : List Stmt} (hp : PassesOwn (model X.prog X.w) X.A X.env X.xe) (hc : PDT X E c t) (hb : PDSs X E body gs) : PDS X E (.While c body [] pos) (qCx t gs) := by
 try unfold PDT at *
 try unfold PDS at *
 try unfold PDSs at *
 refine PS.imp (ps_while hp hc hb) fun D σ H ⟨W, δ, rr, hS, hδ, hg, hA⟩ => ?_
 obtain ⟨n, hg⟩ := whileS_some hg
 refine ⟨fun m σ1 H1 => ∃ W1 δ1, StOk (gx X) H1 W1 /\ RepS (gx X) H1 W1 δ1 σ1 /\ qA7 t gs m δ1 W1.S = some rr /\ qBm (gx X) E H1 W1 rr (SV (gx X) D), ⟨n, W, δ, hS, hδ, hg, hA⟩, ?_⟩
 rintro m σ1 H1 ⟨W1, δ1, hS1, hδ1, hg1, hA1⟩
 cases m with
 | zero => cases hg1
 | succ m =>
  refine Go.thn hS1 hδ1 hg1 hA1 fun k H2 W2 s2 hδ2 hg2 hA2 => ?_
  cases k with
  | false =>
   obtain rfl : Rs.ok (Fl.nx δ1) W2.S = rr := Option.some.inj hg2
   exact hA2.now s2.ok σ1 hδ2
  | true =>
   refine ⟨fun σ3 H3 => ∃ W3 δ3, StOk (gx X) H3 W3 /\ RepS (gx X) H3 W3 δ3 σ3 /\ qA7 t gs m δ3 W3.S = some rr /\ qBm (gx X) E H3 W3 rr (SV (gx X) D), fun σ3 H3 h3 => ⟨m, jBf m, h3⟩, ?_⟩
   refine Go.thn s2.ok hδ2 hg2 hA2 fun f H3 W3 s3 hδ3 q hA3 => ?_
   cases f with
   | nx δ3 => exact fun σ3 h3 => ⟨W3, δ3, s3.ok, h3, q, hA3⟩
   | ct δ3 => exact fun σ3 h3 => ⟨W3, δ3, s3.ok, h3, q, hA3⟩
   | bk δ3 =>
    obtain rfl : Rs.ok (Fl.nx δ3) W3.S = rr := Option.some.inj q
    exact fun σ3 h3 => hA3.now s3.ok σ3 h3
   | rt d =>
    obtain rfl : Rs.ok (Fl.rt d) W3.S = rr := Option.some.inj q
    exact fun v rv => hA3.now s3.ok v rv
def Walks (G : Gx) (J : It) (H : Hp) (W : Wd) (src : Src) : Prop :=
 ∀ (i : Nat) (H1 : Hp) (W1 : Wd), Nxt G H W H1 W1 -> (src.get W1.S i = some none -> J.stop i H1) /\ ∀ d, src.get W1.S i = some (some d) -> J.go i H1 /\ ∀ x H2, J.yld i H1 x H2 -> ∃ W2, W2.S = W1.S /\ Nxt G H1 W1 H2 W2 /\ Rep G H2 W2 d x
def tFI (G : Gx) (E : XK) (g : DI) : TI := fun σ H R => Go G E g (fun src H' W' => ∀ J, Walks G J H' W' src -> R J H') σ H
@[irreducible] def PDI (X : Cx) (E : XK) (tg iter : Expr) (g : DI) : Prop := PI X tg iter (tFI (gx X) E g)
theorem forD_cases {src : Src} {g : DG} {b : DSt} {n i : Nat} {δ : DS} {S : Sto} {r : Rs Fl} (h : forD src g b n i δ S = some r) :
  (src.get S i = some none /\ r = .ok (.nx δ) S) \/ ∃ x m, n = m + 1 /\ src.get S i = some (some x) /\ bnd (g x δ S) (turnK b (forD src g b m (i + 1))) = some r := by
 cases n with
 | zero =>
  unfold forD at h
  split at h
  ·rename_i e
   exact .inl ⟨e, (Option.some.inj h).symm⟩
  ·cases h
 | succ n =>
  unfold forD at h
  split at h
  ·rename_i e
   exact .inl ⟨e, (Option.some.inj h).symm⟩
  ·rename_i x e
   exact .inr ⟨x, n, rfl, e, h⟩
  ·cases h
theorem pd_for {tg iter : Expr} {body : List Stmt} {gi : DI} {g : DG} (hp : PassesOwn (model X.prog X.w) X.A X.env X.xe) (hc : X.calm = true) (hi : PDI X E tg iter gi) (hg : PDG X E tg g) (hb : PDSs X E body gs)
  (hs : ∀ x, foldedSetIterable iter X.env x = pure x := by intro _; rfl) : PDS X E (.For tg iter body [] pos) (forS gi g gs) := by
 try unfold PDS at *
 try unfold PDSs at *
 try unfold PDG at *
 try unfold PDI at *
 refine PS.imp (ps_for hp hc hi hg hb hs) fun D σ H ⟨W, δ, rr, hS, hδ, hg, hA⟩ => ?_
 refine Go.thn hS hδ hg hA fun src H1 W1 s1 hδ1 q hA1 J hJ => ?_
 refine ⟨fun i m σ2 H2 => ∃ W2, Nxt (gx X) H1 W1 H2 W2 /\ ∃ δ2, RepS (gx X) H2 W2 δ2 σ2 /\ forD src g gs m i δ2 W2.S = some rr /\ qBm (gx X) E H2 W2 rr (SV (gx X) D), ⟨src.len W1.S, W1, .rfl s1.ok, δ, hδ1, q, hA1⟩, ?_⟩
 rintro i m σ2 H2 ⟨W2, s2, δ2, hδ2, hg2, hA2⟩
 obtain ⟨w1, w2⟩ := hJ i H2 W2 s2
 rcases forD_cases hg2 with ⟨e, rfl⟩ | ⟨d, m, rfl, e, hg2⟩
 ·exact .inl ⟨w1 e, hA2.now s2.ok σ2 hδ2⟩
 ·obtain ⟨wg, wy⟩ := w2 d e
  refine .inr ⟨wg, fun σ' H' => ∃ W', Nxt (gx X) H1 W1 H' W' /\ ∃ δ', RepS (gx X) H' W' δ' σ' /\ forD src g gs m (i + 1) δ' W'.S = some rr /\ qBm (gx X) E H' W' rr (SV (gx X) D), fun σ' H' h' => ⟨m, jBf m, h'⟩, fun x H3 y => ?_⟩
  obtain ⟨W3, e3, s3, rx⟩ := wy x H3 y
  rcases qAm hg2 with ⟨δ4, S4, e4, q4⟩ | ⟨c, S4, e4, q4⟩
  ·refine ⟨W3, δ2, d, .ok δ4 S4, s3.ok, hδ2.mv (s3.mv s2.ok), rx, by rw [e3]; exact e4, fun H4 W4 eS4 s4 σ4 hδ4 => ?_⟩
   refine Go.thn s4.ok hδ4 (by rw [eS4]; exact q4) ((hA2.nxt s3).nxt s4) fun f H5 W5 s5 hδ5 q5 hA5 => ?_
   have s15 := (s2.trans s3).trans (s4.trans s5)
   cases f with
   | nx δ5 => exact fun σ5 h5 => ⟨W5, s15, δ5, h5, q5, hA5⟩
   | ct δ5 => exact fun σ5 h5 => ⟨W5, s15, δ5, h5, q5, hA5⟩
   | bk δ5 =>
    obtain rfl : Rs.ok (Fl.nx δ5) W5.S = rr := Option.some.inj q5
    exact fun σ5 h5 => hA5.now s5.ok σ5 h5
   | rt d =>
    obtain rfl : Rs.ok (Fl.rt d) W5.S = rr := Option.some.inj q5
    exact fun v rv => hA5.now s5.ok v rv
  ·subst q4
   exact ⟨W3, δ2, d, .er c S4, s3.ok, hδ2.mv (s3.mv s2.ok), rx, by rw [e3]; exact e4, hA2.nxt s3⟩
theorem Src.one_some {a : Nat} {S : Sto} {i : Nat} {o : Option D} (h : (Src.one a).get S i = some o) : ∃ ds, zH S a = some ds /\ ds[i]? = o := by
 have h' : (match zH S a with | some xs => some xs[i]? | none => none) = some o := h
 cases q : zH S a with
 | none => rw [q] at h'; cases h'
 | some ds => rw [q] at h'; exact ⟨ds, rfl, Option.some.inj h'⟩
theorem walks_list {G : Gx} {H : Hp} {W : Wd} {a : Nat} (ha : a < W.S.length) : Walks G (Itl G.K (W.μ a)) H W (.one a) := fun i H1 W1 s1 => by
 refine ⟨fun h => ?_, fun d hd => ?_⟩
 ·obtain ⟨ds, e, hn⟩ := Src.one_some h
  obtain ⟨xs, ex, q, rl⟩ := s1.ok.lst (v := .ref (W1.μ a)) ⟨jAd ha s1.len, rfl⟩ e
  rw [s1.old a ha] at q
  exact ⟨xs, .inl (.inl q), by rw [<- rl.length]; exact jCa.mp hn⟩
 ·obtain ⟨ds, e, hn⟩ := Src.one_some hd
  obtain ⟨xs, ex, q, rl⟩ := s1.ok.lst (v := .ref (W1.μ a)) ⟨jAd ha s1.len, rfl⟩ e
  rw [s1.old a ha] at q
  obtain ⟨x, hx, rx⟩ := rl.get hn
  refine ⟨⟨xs, x, .inl (.inl q), hx⟩, fun y H3 hy => ?_⟩
  obtain ⟨e3, hy⟩ := hy
  subst e3
  have := hy xs (.inl (.inl q))
  rw [hx] at this
  cases this
  exact ⟨W1, rfl, .rfl s1.ok, rx⟩
theorem walks_scr {G : Gx} {H : Hp} {W : Wd} {a : Addr} {ds : List D} {xs : List V} (hS : StOk G H W) (q : Sc G.K H a xs) (rl : RepL G H W ds xs) : Walks G (Itl G.K a) H W (.fix ds) := fun i H1 W1 s1 => by
 have q1 : Sc G.K H1 a xs := (s1.mv hS).sc q
 have rl1 := rl.mv (s1.mv hS)
 refine ⟨fun h => ?_, fun d hd => ?_⟩
 ·have h : ds[i]? = none := Option.some.inj h
  exact ⟨xs, q1.sq, by rw [<- rl.length]; exact jCa.mp h⟩
 ·have hd : ds[i]? = some d := Option.some.inj hd
  obtain ⟨x, hx, rx⟩ := rl1.get hd
  refine ⟨⟨xs, x, q1.sq, hx⟩, fun y H3 hy => ?_⟩
  obtain ⟨e3, hy⟩ := hy
  subst e3
  have := hy xs q1.sq
  rw [hx] at this
  cases this
  exact ⟨W1, rfl, .rfl s1.ok, rx⟩
theorem pdi_list {tg l : Expr} {gl : DE} (hl : PDE X E l gl) : PDI X E tg l (itE itL gl) := by
 try unfold PDE at *
 try unfold PDI at *
 intro pins s σ H R I ⟨W, δ, rr, hS, hδ, hg, hA⟩
 refine pi_list hl pins s σ H R I (Go.thn hS hδ hg hA fun d H1 W1 s1 hδ1 hg1 hA1 v rv => ?_)
 cases d with
 | ref a =>
  have hg1 : (match zH W1.S a with | some _ => ok (.one a) W1.S | none => none) = some rr := hg1
  cases q : zH W1.S a with
  | none => rw [q] at hg1; cases hg1
  | some ds =>
   rw [q] at hg1
   obtain rfl : Rs.ok (Src.one a) W1.S = rr := Option.some.inj hg1
   obtain ⟨xs, ex, qx, rl⟩ := s1.ok.lst rv q
   exact ⟨W1.μ a, ex, ⟨xs, .inl (.inl qx)⟩, hA1.now s1.ok _ (walks_list rv.1)⟩
 | scr ds =>
  obtain rfl : Rs.ok (Src.fix ds) W1.S = rr := Option.some.inj hg1
  obtain ⟨a, xs, e, q, rl⟩ := rv
  exact ⟨a, e, ⟨xs, q.sq⟩, hA1.now s1.ok _ (walks_scr s1.ok q rl)⟩
 | _ => cases hg1
theorem pdi_tup {tg l : Expr} {gl : DE} (hl : PDE X E l gl) : PDI X E tg l (itE itT gl) := by
 try unfold PDE at *
 try unfold PDI at *
 intro pins s σ H R I ⟨W, δ, rr, hS, hδ, hg, hA⟩
 refine pi_tup hl pins s σ H R I (Go.thn hS hδ hg hA fun d H1 W1 s1 hδ1 hg1 hA1 v rv => ?_)
 cases d with
 | tup ds =>
  obtain rfl : Rs.ok (Src.fix ds) W1.S = rr := Option.some.inj hg1
  obtain ⟨a, xs, e, q, rl⟩ := rv
  refine ⟨a, e, ⟨xs, q⟩, hA1.now s1.ok _ fun i H2 W2 s2 => ?_⟩
  have q2 := (s2.mv s1.ok).sqT q
  have rl2 := rl.mv (s2.mv s1.ok)
  refine ⟨fun h => ?_, fun d hd => ?_⟩
  ·have h : ds[i]? = none := Option.some.inj h
   exact ⟨xs, q2, by rw [<- rl.length]; exact jCa.mp h⟩
  ·have hd : ds[i]? = some d := Option.some.inj hd
   obtain ⟨x, hx, rx⟩ := rl2.get hd
   refine ⟨⟨xs, x, q2, hx⟩, fun y H3 hy => ?_⟩
   obtain ⟨e3, hy⟩ := hy
   subst e3
   have := hy xs q2
   rw [hx] at this
   cases this
   exact ⟨W2, rfl, .rfl s2.ok, rx⟩
 | _ => cases hg1
theorem intsD_get : ∀ (n : Nat) (lo : Int) (i : Nat) (d : D), (qB7 lo n)[i]? = some d -> i < n /\ d = .int (lo + i)
 | 0, _, _, _, h => by simp [qB7] at h
 | n + 1, lo, 0, d, h => by
  simp [qB7] at h
  exact ⟨Nat.succ_pos n, by rw [<- h]; simp⟩
 | n + 1, lo, i + 1, d, h => by
  simp only [qB7, jCb] at h
  obtain ⟨h1, h2⟩ := intsD_get n (lo + 1) i d h
  refine ⟨Nat.succ_lt_succ h1, ?_⟩
  rw [h2]
  congr 1
  omega
theorem qDh : ∀ (n : Nat) (lo : Int), (qB7 lo n).length = n
 | 0, _ => rfl
 | n + 1, lo => by simp [qB7, qDh n]
theorem qEq {G : Gx} {H : Hp} {W : Wd} (lo : Int) (n : Nat) : Walks G (Itr lo n) H W (.fix (qB7 lo n)) := fun i H1 W1 s1 =>
 ⟨fun h => by
  have h : (qB7 lo n)[i]? = none := Option.some.inj h
  have := jCa.mp h
  rw [qDh] at this
  exact this, fun d hd => by
  obtain ⟨h1, h2⟩ := intsD_get n lo i d (Option.some.inj hd)
  refine ⟨h1, fun x H2 hy => ?_⟩
  obtain ⟨e, hx⟩ := hy
  subst e
  subst h2
  exact ⟨W1, rfl, .rfl s1.ok, hx⟩⟩
theorem pdi_range1 {tg a : Expr} {ga : DE} {p pos : Pos} (hg : Gl X "range") (hm : X.mg "range" = none) (ha : PDE X E a ga) (hs : starEach [a] X.env = [(false, eval a X.env)] := by rfl) (hst : starEach (a :: []) X.env = (false, eval a X.env) :: starEach [] X.env := by rfl) :
  PDI X E tg (.Call (.Name "range" p) [a] [] pos) (itA qBv (yH ga aNil)) := by
 try unfold PDI at *
 intro pins s σ H R I ⟨W, δ, rr, hS, hδ, hg', hA⟩
 refine pi_range1 hg hm (zB ha zE hst).o hs pins s σ H R I (Go.thn hS hδ hg' hA fun ds H1 W1 s1 hδ1 hg1 hA1 vs rv => ?_)
 have hlim := lim_eq
 unfold qBv at hg1
 split at hg1
 ·rename_i n
  split at hg1
  ·obtain ⟨v, r, e, q, t⟩ := rv
   have q : v = .int n := q
   have t : r = [] := t
   subst e q t
   obtain rfl : Rs.ok (Src.fix (qB7 0 n.toNat)) W1.S = rr := Option.some.inj hg1
   exact ⟨n, rfl, by omega, by omega, hA1.now s1.ok _ (qEq 0 n.toNat)⟩
  ·cases hg1
 ·cases hg1
theorem pdi_range2 {tg a b : Expr} {ga gb : DE} {p pos : Pos} (hg : Gl X "range") (hm : X.mg "range" = none) (ha : PDE X E a ga) (hb : PDE X E b gb) (hs : starEach [a, b] X.env = [(false, eval a X.env), (false, eval b X.env)] := by rfl) (hs2 : starEach [b] X.env = [(false, eval b X.env)] := by rfl)
  (hst : starEach (a :: [b]) X.env = (false, eval a X.env) :: starEach [b] X.env := by rfl) (hst2 : starEach (b :: []) X.env = (false, eval b X.env) :: starEach [] X.env := by rfl) :
  PDI X E tg (.Call (.Name "range" p) [a, b] [] pos) (itA rng2D (yH ga (yH gb aNil))) := by
 try unfold PDI at *
 intro pins s σ H R I ⟨W, δ, rr, hS, hδ, hg', hA⟩
 refine pi_range2 hg hm (zB ha (zB hb zE hst2) hst).o hs hs2 pins s σ H R I (Go.thn hS hδ hg' hA fun ds H1 W1 s1 hδ1 hg1 hA1 vs rv => ?_)
 have hlim := lim_eq
 unfold rng2D at hg1
 split at hg1
 ·rename_i i j
  split at hg1
  ·rename_i hb
   obtain ⟨v, r, e, q, t⟩ := rv
   obtain ⟨v2, r2, e2, q2, t2⟩ := t
   have q : v = .int i := q
   have q2 : v2 = .int j := q2
   have t2 : r2 = [] := t2
   subst e e2 q q2 t2
   obtain rfl : Rs.ok (Src.fix (qB7 i (j - i).toNat)) W1.S = rr := Option.some.inj hg1
   exact ⟨i, j, rfl, ⟨by omega, by omega, by omega, by omega⟩, hA1.now s1.ok _ (qEq i _)⟩
  ·cases hg1
 ·cases hg1
end
mutual
def Bd (n : Nat) : D -> Prop
 | .ref i => i < n
 | .tup ds => BdL n ds
 | .scr ds => BdL n ds
 | _ => True
def BdL (n : Nat) : List D -> Prop
 | [] => True
 | d :: ds => Bd n d /\ BdL n ds
end
mutual
def mapD (ρ : Nat -> Nat) : D -> D
 | .ref i => .ref (ρ i)
 | .tup ds => .tup (mapL ρ ds)
 | .scr ds => .scr (mapL ρ ds)
 | .non => .non
 | .bl b => .bl b
 | .int i => .int i
 | .str x => .str x
 | .exc c => .exc c
def mapL (ρ : Nat -> Nat) : List D -> List D
 | [] => []
 | d :: ds => mapD ρ d :: mapL ρ ds
end
def BdO (n : Nat) : O -> Prop
 | .lst ds => BdL n ds
 | .dct kvs => kvs = []
 | .ins _ fs => BdL n (fs.map (·.2))
def mapO (ρ : Nat -> Nat) : O -> O
 | .lst ds => .lst (mapL ρ ds)
 | .dct kvs => .dct kvs
 | .ins c fs => .ins c (fs.map fun p => (p.1, mapD ρ p.2))
mutual
theorem Rep.bd {G : Gx} {H : Hp} {W : Wd} : ∀ {d : D} {v : V}, Rep G H W d v -> Bd W.S.length d
 | .ref i, _, h => h.1
 | .tup ds, _, h => by obtain ⟨a, xs, _, _, r⟩ := h; exact RepL.bd r
 | .scr ds, _, h => by obtain ⟨a, xs, _, _, r⟩ := h; exact RepL.bd r
 | .non, _, _ => trivial
 | .bl _, _, _ => trivial
 | .int _, _, _ => trivial
 | .str _, _, _ => trivial
 | .exc _, _, _ => trivial
theorem RepL.bd {G : Gx} {H : Hp} {W : Wd} : ∀ {ds : List D} {vs : List V}, RepL G H W ds vs -> BdL W.S.length ds
 | [], _, _ => trivial
 | d :: ds, _, h => by obtain ⟨v, r, _, q, t⟩ := h; exact ⟨Rep.bd q, RepL.bd t⟩
end
theorem RepO.bd {G : Gx} {H : Hp} {W : Wd} {a : Addr} {o : O} (h : RepO G H W a o) : BdO W.S.length o := by
 cases o with
 | lst ds => obtain ⟨xs, _, r⟩ := h; exact r.bd
 | dct kvs => exact h.1
 | ins c fs => obtain ⟨_, _, _, _, _, _, r⟩ := h; exact r.bd
mutual
theorem Rep.back {G : Gx} {H : Hp} {W : Wd} {S' : Sto} (ρ : Nat -> Nat) : ∀ {d : D} {v : V}, Bd S'.length d -> Rep G H W (mapD ρ d) v -> Rep G H ⟨fun i => W.μ (ρ i), S'⟩ d v
 | .ref i, _, b, h => ⟨b, h.2⟩
 | .tup ds, _, b, h => by obtain ⟨a, xs, e, q, r⟩ := h; exact ⟨a, xs, e, q, RepL.back ρ b r⟩
 | .scr ds, _, b, h => by obtain ⟨a, xs, e, q, r⟩ := h; exact ⟨a, xs, e, q, RepL.back ρ b r⟩
 | .non, _, _, h => h
 | .bl _, _, _, h => h
 | .int _, _, _, h => h
 | .str _, _, _, h => h
 | .exc _, _, _, h => h
theorem RepL.back {G : Gx} {H : Hp} {W : Wd} {S' : Sto} (ρ : Nat -> Nat) : ∀ {ds : List D} {vs : List V}, BdL S'.length ds -> RepL G H W (mapL ρ ds) vs -> RepL G H ⟨fun i => W.μ (ρ i), S'⟩ ds vs
 | [], _, _, h => h
 | d :: ds, _, b, h => by obtain ⟨v, r, e, q, t⟩ := h; exact ⟨v, r, e, Rep.back ρ b.1 q, RepL.back ρ b.2 t⟩
end
theorem mapL_map (ρ : Nat -> Nat) : ∀ ds : List D, mapL ρ ds = ds.map (mapD ρ)
 | [] => by simp [mapL]
 | d :: ds => by simp [mapL, mapL_map ρ ds]
theorem RepO.back {G : Gx} {H : Hp} {W : Wd} {S' : Sto} {a : Addr} (ρ : Nat -> Nat) {o : O} (b : BdO S'.length o) (h : RepO G H W a (mapO ρ o)) : RepO G H ⟨fun i => W.μ (ρ i), S'⟩ a o := by
 cases o with
 | lst ds => obtain ⟨xs, e, r⟩ := h; exact ⟨xs, e, r.back ρ b⟩
 | dct kvs => exact h
 | ins c fs =>
  obtain ⟨C, dx, ps, m, e, n, r⟩ := h
  refine ⟨C, dx, ps, m, e, by rw [n, jCc]; rfl, RepL.back ρ b ?_⟩
  rw [mapL_map]
  rw [jCc] at r ⊢
  exact r
structure Emb (n : Nat) (ρ : Nat -> Nat) (S' S1 : Sto) : Prop where
 len : n <= S'.length
 fix : ∀ i, i < n -> ρ i = i
 inj : ∀ i j, i < S'.length -> j < S'.length -> ρ i = ρ j -> i = j
 get : ∀ i o, S'[i]? = some o -> S1[ρ i]? = some (mapO ρ o) /\ BdO S'.length o
def Em (n : Nat) : Rs D -> Rs D -> Prop
 | .ok d S', .ok d1 S1 => ∃ ρ, Emb n ρ S' S1 /\ Bd S'.length d /\ d1 = mapD ρ d
 | .er c S', .er c1 S1 => c1 = c /\ ∃ ρ, Emb n ρ S' S1
 | _, _ => False
theorem Emb.nxt {G : Gx} {H H1 : Hp} {W W1 : Wd} {S' : Sto} {ρ : Nat -> Nat} (e : Emb W.S.length ρ S' W1.S) (s : Nxt G H W H1 W1) : Nxt G H W H1 ⟨fun i => W1.μ (ρ i), S'⟩ := by
 have hlt : ∀ i, i < S'.length -> ρ i < W1.S.length := fun i hi => by
  have := (e.get i S'[i] (by simp [hi])).1
  exact (jAr.mp this).1
 refine ⟨⟨fun i j hi hj h => e.inj i j hi hj (s.ok.inj _ _ (hlt i hi) (hlt j hj) h), fun i o h => ?_⟩, e.len, fun i hi => ?_, fun i h1 h2 => ?_, s.frm⟩
 ·obtain ⟨g1, g2⟩ := e.get i o h
  exact (s.ok.get _ _ g1).back ρ g2
 ·show W1.μ (ρ i) = _
  rw [e.fix i hi]
  exact s.old i hi
 ·show H (W1.μ (ρ i)) = none
  refine s.new _ ?_ (hlt i h2)
  by_cases hz : ρ i < W.S.length
  ·have h3 := e.fix _ hz
   have := e.inj (ρ i) i (jAd hz e.len) h2 h3
   omega
  ·exact jB8 hz
def Wf (S : Sto) (ds : List D) : Prop := (∀ (i : Nat) (o : O), S[i]? = some o -> BdO S.length o) /\ BdL S.length ds
structure FunG (K : PySem.W.Frag) (x qual : Str) (st : Stmt) (f : Addr) (fd : FuncData) : Prop where
 ex : ∃ (dV oc : Value) (od : Option Addr) (kV doc pm : Value) (an : Option Addr) (cdv ct : Value) (osl : Array (Option Value)),
  fd = jBw x qual (zI st) (zG st) (zC st) dV kV doc pm an cdv ct /\ K.lookup f = some ⟨oc, od, .func fd, osl⟩ /\ jBx K cdv qual = true
theorem FunG.ok {P : Program} {w : World} {K : PySem.W.Frag} {mg : Str -> Option Value} {base : Heap} {x qual : Str} {st : Stmt} {f : Addr} {fd : FuncData} {N ps : List Str} {k : Nat} {sp : Sp} (F : FunG K x qual st f fd) (S : zN N ps (zC st)) (len : ∀ vs H Q E, sp vs H Q E -> vs.length = ps.length)
  (hbody : ∀ (cdv : Value) (A : Around) (outer : List Env) (s : Shared) (H : Hp) (vs : List V) (Q : VK) (E : XK), Room k (A.deeper (envOfC qual (zC st) s.heap.objs.size f cdv)) -> sp vs H Q E ->
   ∃ t, PSs (cxOf CX0 P w K mg base N qual (zC st) f cdv A outer s H E).nox (zG st) t /\ t { nx := fun _ H' => Q .non H', rt := Q } (start N vs) H) : FnOk P w K mg base CX0 (k + 1) f fd ps sp := by
 obtain ⟨dV, oc, od, kV, doc, pm, an, cdv, ct, osl, rfl, lk, hcd⟩ := F.ex
 refine fn_of lk hcd S len fun A outer s H vs Q E hr hsp => ?_
 obtain ⟨t, h, q⟩ := hbody cdv A outer s H vs Q E hr hsp
 exact ⟨t, h.nox, q⟩
theorem _root_.L2.Fun.g {K : PySem.W.Frag} {x qual : Str} {st : Stmt} {f : Addr} {fd : FuncData} (F : Fun K x qual st f fd) : FunG K x qual st f fd :=
 ⟨let ⟨oc, od, kV, doc, pm, an, cdv, ct, osl, h1, h2, h3⟩ := F.ex; ⟨.none, oc, od, kV, doc, pm, an, cdv, ct, osl, h1, h2, h3⟩⟩
structure FunD (K : PySem.W.Frag) (x qual : Str) (st : Stmt) (f : Addr) (fd : FuncData) (T : Addr) (items : Array Value) : Prop where
 ex : ∃ (oc : Value) (od : Option Addr) (kV doc pm : Value) (an : Option Addr) (cdv ct : Value) (osl : Array (Option Value)),
  fd = jBw x qual (zI st) (zG st) (zC st) (.ref T) kV doc pm an cdv ct /\ K.lookup f = some ⟨oc, od, .func fd, osl⟩ /\ jBx K cdv qual = true
 tup : ∃ o n, K.lookup T = some o /\ o.data = .seq items n
theorem FunD.g {K : PySem.W.Frag} {x qual : Str} {st : Stmt} {f : Addr} {fd : FuncData} {T : Addr} {items : Array Value} (F : FunD K x qual st f fd T items) : FunG K x qual st f fd :=
 ⟨let ⟨oc, od, kV, doc, pm, an, cdv, ct, osl, h1, h2, h3⟩ := F.ex; ⟨.ref T, oc, od, kV, doc, pm, an, cdv, ct, osl, h1, h2, h3⟩⟩
theorem funD_mk {K : PySem.W.Frag} {x qual : Str} {st : Stmt} {f T : Addr} {oc : Value} {od an : Option Addr} {osl : Array (Option Value)} {kV doc pm cdv ct : Value} {items : Array Value} {o : Obj} {n : Nat} (l : K.lookup f = some ⟨oc, od, .func (jBw x qual (zI st) (zG st) (zC st) (.ref T) kV doc pm an cdv ct), osl⟩)
  (c : jBx K cdv qual = true) (lT : K.lookup T = some o) (hT : o.data = .seq items n) : FunD K x qual st f (jBw x qual (zI st) (zG st) (zC st) (.ref T) kV doc pm an cdv ct) T items := ⟨⟨oc, od, kV, doc, pm, an, cdv, ct, osl, rfl, l, c⟩, ⟨o, n, lT, hT⟩⟩
theorem FunD.bindsTo {K : PySem.W.Frag} {x qual : Str} {st : Stmt} {f : Addr} {fd : FuncData} {T : Addr} {items : Array Value} (F : FunD K x qual st f fd T items) {s : Shared} {args : Args} {binds : List (Str × Value)} (KX : K.In s.heap)
  (h : ∀ (kV doc pm : Value) (an : Option Addr) (cdv ct : Value), ∃ k : Option (Array Value) -> Sem (List (Str × Value)), bindArgs (jBw x qual (zI st) (zG st) (zC st) (.ref T) kV doc pm an cdv ct) args = seqItems? (.ref T) >>= k /\ k (some items) = pure binds) : BindsTo s fd args binds := by
 obtain ⟨oc, od, kV, doc, pm, an, cdv, ct, osl, rfl, lk, hcd⟩ := F.ex
 obtain ⟨o, n, lT, hT⟩ := F.tup
 obtain ⟨k, h1, h2⟩ := h kV doc pm an cdv ct
 exact BindsTo.of_defaults rfl (KX _ _ lT) hT h1 h2
theorem fn_den {P : Program} {w : World} {K : PySem.W.Frag} {mg : Str -> Option Value} {base : Heap} {x qual : Str} {st : Stmt} {fa : Addr} {fd : FuncData} {N ps : List Str} {k : Nat} {f : List D -> Sto -> R D} {g : DSt} (F : FunG K x qual st fa fd) (S : zN N ps (zC st))
  (hlen : ∀ ds S rr, f ds S = some rr -> ds.length = ps.length)
  (hg : ∀ ds S r, Wf S ds -> f ds S = some r -> ∃ r1, outF (g (startD N.length ds) S) = some r1 /\ (r1 = r \/ Em S.length r r1)) (hno : ∀ ds S c S', f ds S ≠ er c S')
  (hbody : ∀ (cdv : Value) (A : Around) (outer : List Env) (s : Shared) (H : Hp), Room k (A.deeper (envOfC qual (zC st) s.heap.objs.size fa cdv)) ->
   PDSs (cxOf CX0 P w K mg base N qual (zC st) fa cdv A outer s H E0).nox E0 (zG st) g) : FnOk P w K mg base CX0 (k + 1) fa fd ps (spF ⟨K, mg⟩ f) := by
 try unfold PDSs at *
 refine F.ok S (fun vs H Q E h => ?_) (fun cdv A outer s H vs Q E hr h => ?_)
 ·obtain ⟨W, ds, rr, _, rl, e, _⟩ := h
  rw [<- rl.length]
  exact hlen ds _ rr e
 ·obtain ⟨W, ds, rr, hS, rl, e, hA⟩ := h
  refine ⟨_, hbody cdv A outer s H hr, ?_⟩
  cases rr with
  | er c S' => exact absurd e (hno ds _ c S')
  | ok d S' =>
   obtain ⟨r1, q, hem⟩ := hg ds W.S _ ⟨fun i o h => (hS.get i o h).bd, rl.bd⟩ e
   have fin : ∀ d1 S1, r1 = .ok d1 S1 -> ∀ H1 W1, W1.S = S1 -> Nxt ⟨K, mg⟩ H W H1 W1 -> ∀ v, Rep ⟨K, mg⟩ H1 W1 d1 v -> Q v H1 := by
    intro d1 S1 e1 H1 W1 eS s1 v rv
    subst e1
    rcases hem with hem | hem
    ·cases hem
     exact hA H1 W1 eS s1 v rv
    ·obtain ⟨ρ, em, bd, rfl⟩ := hem
     subst eS
     exact hA H1 ⟨fun i => W1.μ (ρ i), S'⟩ rfl (em.nxt s1) v (rv.back ρ bd)
   cases z : g (startD N.length ds) W.S with
   | none => rw [z] at q; cases q
   | some r =>
    refine ⟨W, startD N.length ds, r, hS, RepS.start N rl, z, ?_⟩
    rw [z] at q
    cases r with
    | er c S1 =>
     cases q
     rcases hem with hem | hem
     ·cases hem
     ·exact hem.elim
    | ok fl S1 =>
     cases fl with
     | nx δ =>
      obtain rfl : Rs.ok D.non S1 = r1 := Option.some.inj q
      exact fun H1 W1 eS s1 σ1 hδ1 => fin _ _ rfl H1 W1 eS s1 .non rfl
     | rt d' =>
      obtain rfl : Rs.ok d' S1 = r1 := Option.some.inj q
      exact fun H1 W1 eS s1 v rv => fin _ _ rfl H1 W1 eS s1 v rv
     | bk δ => cases q
     | ct δ => cases q
theorem qBw {α : Type} {m : R α} {r : Rs α} (h : noer m = some r) : ∃ a S, m = ok a S /\ r = .ok a S := by
 cases m with
 | none => cases h
 | some m =>
  cases m with
  | ok a S => cases h; exact ⟨a, S, rfl, rfl⟩
  | er c S => cases h
theorem fn_F {P : Program} {w : World} {K : PySem.W.Frag} {mg : Str -> Option Value} {base : Heap} {x qual : Str} {st : Stmt} {fa : Addr} {fd : FuncData} {N ps : List Str} {k : Nat} {g : DSt} (F : FunG K x qual st fa fd) (S : zN N ps (zC st))
  (hbody : ∀ (cdv : Value) (A : Around) (outer : List Env) (s : Shared) (H : Hp), Room k (A.deeper (envOfC qual (zC st) s.heap.objs.size fa cdv)) ->
   PDSs (cxOf CX0 P w K mg base N qual (zC st) fa cdv A outer s H E0).nox E0 (zG st) g) : FnOk P w K mg base CX0 (k + 1) fa fd ps (spF ⟨K, mg⟩ (fnF N.length ps.length g)) := by
 refine fn_den (g := g) F S (fun ds S rr e => ?_) (fun ds S r _ e => ?_) (fun ds S c S' e => ?_) hbody
 ·unfold fnF at e
  split at e
  ·assumption
  ·cases e
 ·unfold fnF at e
  split at e
  ·obtain ⟨a, S1, e1, e2⟩ := qBw e
   exact ⟨_, e1, .inl e2.symm⟩
  ·cases e
 ·unfold fnF at e
  split at e
  ·obtain ⟨a, S1, e1, e2⟩ := qBw e
   cases e2
  ·cases e
theorem fn_N {P : Program} {w : World} {K : PySem.W.Frag} {mg : Str -> Option Value} {base : Heap} {x qual : Str} {st : Stmt} {fa : Addr} {fd : FuncData} {N ps : List Str} {k : Nat} (n m : Nat) (g : DSt) {f : List D -> Sto -> R D} (hf : f = fnF n m g) (F : FunG K x qual st fa fd) (S : zN N ps (zC st)) (hn : N.length = n) (hm : ps.length = m)
  (hbody : ∀ (cdv : Value) (A : Around) (outer : List Env) (s : Shared) (H : Hp), Room k (A.deeper (envOfC qual (zC st) s.heap.objs.size fa cdv)) ->
   PDSs (cxOf CX0 P w K mg base N qual (zC st) fa cdv A outer s H E0).nox E0 (zG st) g) : FnOk P w K mg base CX0 (k + 1) fa fd ps (spF ⟨K, mg⟩ f) := by
 subst hf hn hm
 exact fn_F F S hbody
end Np
end
section
namespace Np
open PySem PySem.Spec PyProof.Rows L2
section
variable {X : Cx} {E : XK} {G : Gx}
theorem opD_int {C : Int -> Int -> Prop} {g : Int -> Int -> Int} {f : D -> D -> Sto -> R D} (hf : ∀ dx dy S rr, f dx dy S = some rr -> ∃ i j, dx = .int i /\ dy = .int j /\ C i j /\ rr = .ok (.int (g i j)) S) : OpD G (rI C fun i j => .int (g i j)) f := by
 intro E H W x y dx dy Q rr hS rx ry e hA
 obtain ⟨i, j, rfl, rfl, c, rfl⟩ := hf dx dy _ rr e
 exact ⟨i, j, rx, ry, c, hA.now hS _ rfl⟩
theorem qFc {g : Int -> Int -> Bool} {f : D -> D -> Sto -> R D} (hf : ∀ dx dy S rr, f dx dy S = some rr -> ∃ i j, dx = .int i /\ dy = .int j /\ rr = .ok (.bl (g i j)) S) : OpD G (rI0 fun i j => .bl (g i j)) f := by
 intro E H W x y dx dy Q rr hS rx ry e hA
 obtain ⟨i, j, rfl, rfl, rfl⟩ := hf dx dy _ rr e
 exact ⟨i, j, rx, ry, hA.now hS _ rfl⟩
def rAddD : R2 := fun x y H Q => rI0 (fun i j => .int (i + j)) x y H Q \/ (∃ i j, x = .str i /\ y = .str j /\ i.length + j.length <= sizeLine /\ Q (.str (i ++ j)) H) \/ rCat x y H Q
theorem op_addX : OpR X (binaryOp .Add) rAddD := OpR.or op_add (OpR.or op_add_str op_cat)
theorem od_add : OpD G rAddD addD := by
 intro E H W x y dx dy Q rr hS rx ry e hA
 unfold addD at e
 split at e
 ·rename_i i j
  obtain rfl : Rs.ok (D.int (i + j)) W.S = rr := Option.some.inj e
  exact .inl ⟨i, j, rx, ry, hA.now hS _ rfl⟩
 ·rename_i i j
  split at e
  ·rename_i hl
   obtain rfl : Rs.ok (D.str (i ++ j)) W.S = rr := Option.some.inj e
   exact .inr (.inl ⟨i, j, rx, ry, sz hl, hA.now hS _ rfl⟩)
  ·cases e
 ·rename_i a b
  unfold catD at e
  split at e
  ·rename_i xs ys hx hy
   split at e
   ·rename_i hl
    obtain ⟨us, ea, qa, ra⟩ := hS.lst rx hx
    obtain ⟨ws, eb, qb, rb⟩ := hS.lst ry hy
    exact .inr (.inr ⟨_, _, us, ws, ea, eb, .inl qa, .inl qb, by rw [<- ra.length, <- rb.length]; exact sz hl, fun p hp => qBq hS e hA (ra.append rb) hp⟩)
   ·cases e
  ·cases e
 ·cases e
theorem od_sub : OpD G (rI0 fun i j => .int (i - j)) subD := by
 intro E H W x y dx dy Q rr hS rx ry e hA
 unfold subD at e
 split at e
 ·rename_i i j
  obtain rfl : Rs.ok (D.int (i - j)) W.S = rr := Option.some.inj e
  exact ⟨i, j, rx, ry, hA.now hS _ rfl⟩
 ·cases e
def CBits (i j : Int) : Prop := i.natAbs.log2 + j.natAbs.log2 <= 100000000
theorem CBits.ok {i j : Int} (h : CBits i j) : IntMulOk i j := by
 have hb : ∀ k : Int, Builtin.Int.intBits k <= k.natAbs.log2 + 1 := fun k => by
  unfold Builtin.Int.intBits
  split <;> omega
 refine PyProof.Rows.mulOk_of_bits (m := i.natAbs.log2 + 1) (n := j.natAbs.log2 + 1) (hb i) (hb j) ?_
 have h' : i.natAbs.log2 + j.natAbs.log2 <= 100000000 := h
 omega
theorem op_mulB : OpR X (binaryOp .Mult) (rI CBits fun i j => .int (i * j)) := opI fun _ _ _ _ _ _ _ hc q => mul_int q hc.ok
def rMulD : R2 := fun x y H Q => rI CBits (fun i j => .int (i * j)) x y H Q \/ rRep x y H Q
theorem op_mulX : OpR X (binaryOp .Mult) rMulD := OpR.or op_mulB op_rep
theorem RepL.rep {H : Hp} {W : Wd} {ds : List D} {vs : List V} (h : RepL G H W ds vs) : ∀ k : Nat, RepL G H W (jBk k ds).flatten (jBk k vs).flatten
 | 0 => rfl
 | k + 1 => by
  rw [jB0, jB0, jB1, jB1]
  exact h.append (RepL.rep h k)
theorem od_mul : OpD G rMulD mulD := by
 intro E H W x y dx dy Q rr hS rx ry e hA
 unfold mulD at e
 split at e
 ·rename_i i j
  split at e
  ·rename_i hl
   obtain rfl : Rs.ok (D.int (i * j)) W.S = rr := Option.some.inj e
   exact .inl ⟨i, j, rx, ry, hl, hA.now hS _ rfl⟩
  ·cases e
 ·rename_i a k
  unfold repD at e
  split at e
  ·rename_i xs hx
   split at e
   ·rename_i hl
    obtain ⟨hl, h1, h2⟩ := hl
    obtain ⟨us, ea, qa, ra⟩ := hS.lst rx hx
    exact .inr ⟨_, k, us, ea, ry, .inl qa, by omega, by omega, by rw [<- ra.length]; exact sz hl, fun p hp => qBq hS e hA (ra.rep k.toNat) hp⟩
   ·cases e
  ·cases e
 ·cases e
theorem room_pylong {k : Nat} {pins : List (Addr × Obj)} {σ : L2.St} {H : Hp} {s : Shared} (I : Inv X pins σ H s) (hr : Room k X.A) (ht : X.prog.given.tree = none) (hst : X.stack = X.env :: X.outer) (hgen : X.env.scope.isGenerator = false) (hco : X.env.scope.isCoroutine = false) :
  PySem.PylongRoom (model X.prog X.w) X.A s := by
 refine PySem.PylongRoom.of (I.mod.nolimit.keeps I.bk) ?_ (PySem.SeerAt.of (I.mod.seer.keeps I.bk) ht (by rw [I.ok.frames, hst]) hgen hco I.ok.blt I.ok.glob)
 have := hr.dp
 show X.A.depth + 100 < recursionLimit
 omega
theorem op_fdivX {k : Nat} (hr : Room k X.A) (ht : X.prog.given.tree = none) (hst : X.stack = X.env :: X.outer) (hgen : X.env.scope.isGenerator = false) (hco : X.env.scope.isCoroutine = false) : OpR X (binaryOp .FloorDiv) (rI (fun _ j => j ≠ 0) fun i j => .int (i.fdiv j)) := by
 intro pins s σ H x y v u Q I rx ry h
 obtain ⟨i, j, rfl, rfl, hc, q⟩ := h
 obtain ⟨t, rfl⟩ := rx
 obtain ⟨t', rfl⟩ := ry
 exact floordiv_int hc ⟨.int _, H, I.tok _, ⟨_, rfl⟩, q⟩ (.inr (room_pylong I hr ht hst hgen hco))
theorem od_fdiv : OpD G (rI (fun _ j => j ≠ 0) fun i j => .int (i.fdiv j)) qBc := opD_int fun dx dy S rr e => by
 unfold qBc at e
 split at e
 ·rename_i i j
  split at e
  ·cases e
  ·rename_i h
   exact ⟨i, j, rfl, rfl, h, (Option.some.inj e).symm⟩
 ·cases e
theorem od_mod : OpD G (rI (fun _ j => j ≠ 0) fun i j => .int (i.fmod j)) modD := opD_int fun dx dy S rr e => by
 unfold modD at e
 split at e
 ·rename_i i j
  split at e
  ·cases e
  ·rename_i h
   exact ⟨i, j, rfl, rfl, h, (Option.some.inj e).symm⟩
 ·cases e
theorem od_pow : OpD G (rI CPow fun i j => .int (i ^ j.toNat)) powD := opD_int fun dx dy S rr e => by
 unfold powD at e
 split at e
 ·rename_i i j
  split at e
  ·rename_i h
   exact ⟨i, j, rfl, rfl, ⟨h.1.1, by omega, by omega⟩, (Option.some.inj e).symm⟩
  ·cases e
 ·cases e
theorem ud_neg : UnD G (rU fun i => .int (-i)) negD := by
 intro E H W x dx Q rr hS rx e hA
 unfold negD at e
 split at e
 ·rename_i i
  obtain rfl : Rs.ok (D.int (-i)) W.S = rr := Option.some.inj e
  exact ⟨i, rx, hA.now hS _ rfl⟩
 ·cases e
theorem cd_abs : CallD G (fun xs H Q => ∃ i, xs = [.int i] /\ Q (.int (if i < 0 then -i else i)) H) absD := by
 intro E H W vs ds Q rr hS rl e hA
 unfold absD at e
 split at e
 ·rename_i i
  obtain rfl : Rs.ok (D.int (if i < 0 then -i else i)) W.S = rr := Option.some.inj e
  obtain ⟨v, r, rfl, q, t⟩ := rl
  have q : v = .int i := q
  have t : r = [] := t
  subst q t
  exact ⟨i, rfl, hA.now hS _ rfl⟩
 ·cases e
mutual
def toPy : T -> PyData
 | .non => .none
 | .bl b => .bool b
 | .int i => .int i
 | .str x => .str x
 | .tup ds => .tuple (qBt ds)
 | .lst ds => .list (qBt ds)
def qBt : List T -> List PyData
 | [] => []
 | d :: ds => toPy d :: qBt ds
end
mutual
theorem eqT_py : ∀ (d e : T), PyData.eqv (toPy d) (toPy e) = eqT d e
 | .non, e => by cases e <;> simp [toPy, PyData.eqv, eqT]
 | .bl _, e => by cases e <;> simp [toPy, PyData.eqv, eqT]
 | .int _, e => by cases e <;> simp [toPy, PyData.eqv, eqT]
 | .str _, e => by cases e <;> simp [toPy, PyData.eqv, eqT]
 | .tup ds, e => by
  cases e with
  | tup es => simp only [toPy, PyData.eqv, eqT]; exact eqTs_py ds es
  | _ => simp [toPy, PyData.eqv, eqT]
 | .lst ds, e => by
  cases e with
  | lst es => simp only [toPy, PyData.eqv, eqT]; exact eqTs_py ds es
  | _ => simp [toPy, PyData.eqv, eqT]
theorem eqTs_py : ∀ (ds es : List T), PyData.eqvAll (qBt ds) (qBt es) = eqTs ds es
 | [], [] => by simp [qBt, PyData.eqvAll, eqTs]
 | [], _ :: _ => by simp [qBt, PyData.eqvAll, eqTs]
 | _ :: _, [] => by simp [qBt, PyData.eqvAll, eqTs]
 | d :: ds, e :: es => by simp only [qBt, PyData.eqvAll, eqTs, eqT_py d e, eqTs_py ds es]
end
def Seen (s : Shared) (n : Nat) (t : T) (u : Value) : Prop := (toPy t).canLay0 = true /\ (toPy t).depth <= n /\ ∃ as, Reads s.heap u (toPy t) as
def Seens (s : Shared) (n : Nat) (ts : List T) (us : List Value) : Prop := PyData.canLayAll0 (qBt ts) = true /\ PyData.depthAll (qBt ts) <= n /\ ∃ as, ReadsAll s.heap us (qBt ts) as
theorem seens {pins : List (Addr × Obj)} {σ : L2.St} {H : Hp} {W : Wd} {s : Shared} (I : Inv X pins σ H s) {n : Nat} {S : Sto} (ih : ∀ {d : D} {v : V} {u : Value} {t : T}, rd n S d = some t -> Rep (gx X) H W d v -> RelV v u -> Seen s n t u) :
  ∀ {ds : List D} {vs : List V} {us : List Value} {ts : List T}, rdl (rd n S) ds = some ts -> RepL (gx X) H W ds vs -> Vals vs us -> Seens s n ts us
 | [], _, _, _, h, r, q => by
  cases r; cases q
  obtain rfl := Option.some.inj h
  exact ⟨by simp [qBt, PyData.canLayAll0], by simp [qBt, PyData.depthAll], _, ReadsAll.nil⟩
 | d :: ds, _, _, _, h, r, q => by
  obtain ⟨v, vs, rfl, rd1, rl⟩ := r
  cases q with
  | cons q1 q2 =>
   unfold rdl at h
   split at h
   ·rename_i t ts h1 h2
    obtain rfl := Option.some.inj h
    obtain ⟨a1, a2, as, a3⟩ := ih h1 rd1 q1
    obtain ⟨b1, b2, bs, b3⟩ := seens I ih h2 rl q2
    refine ⟨?_, ?_, _, ReadsAll.cons a3 b3⟩
    ·simp only [qBt, PyData.canLayAll0, a1, b1, Bool.and_self]
    ·simp only [qBt, PyData.depthAll]
     omega
   ·cases h
theorem seen {pins : List (Addr × Obj)} {σ : L2.St} {H : Hp} {W : Wd} {s : Shared} (I : Inv X pins σ H s) (hS : StOk (gx X) H W) : ∀ {n : Nat} {d : D} {v : V} {u : Value} {t : T}, rd n W.S d = some t -> Rep (gx X) H W d v -> RelV v u -> Seen s n t u
 | n, .non, _, _, t0, h, r, q => by
  cases r; cases q
  have h : some T.non = some t0 := by cases n <;> exact h
  obtain rfl := Option.some.inj h
  exact ⟨by simp [toPy, PyData.canLay0], by simp [toPy, PyData.depth], _, Reads.none⟩
 | n, .bl b, _, _, t0, h, r, q => by
  cases r; cases q
  have h : some (T.bl b) = some t0 := by cases n <;> exact h
  obtain rfl := Option.some.inj h
  exact ⟨by simp [toPy, PyData.canLay0], by simp [toPy, PyData.depth], _, Reads.bool b⟩
 | n, .int i, _, _, t0, h, r, q => by
  cases r
  obtain ⟨t, rfl⟩ := q
  have h : some (T.int i) = some t0 := by cases n <;> exact h
  obtain rfl := Option.some.inj h
  exact ⟨by simp [toPy, PyData.canLay0], by simp [toPy, PyData.depth], _, Reads.int i t⟩
 | n, .str i, _, _, t0, h, r, q => by
  cases r
  obtain ⟨t, rfl⟩ := q
  have h : (if i.cps.all (· < 0x110000) = true then some (T.str i) else none) = some t0 := by cases n <;> exact h
  split at h
  ·rename_i hc
   obtain rfl := Option.some.inj h
   have h' : PyData.strOk i = true := by simpa [PyData.strOk] using hc
   exact ⟨by simp [toPy, PyData.canLay0, h'], by simp [toPy, PyData.depth], _, Reads.str i t⟩
  ·cases h
 | 0, .tup _, _, _, _, h, _, _ => by cases h
 | 0, .ref _, _, _, _, h, _, _ => by cases h
 | n + 1, .tup ds, _, _, t0, h, r, q => by
  obtain ⟨a, xs, rfl, hq, rl⟩ := r
  cases q
  obtain ⟨its, rv, ⟨o, ho, hc, k, hd⟩, hz⟩ := I.tuple hq
  have h : (rdl (rd n W.S) ds).map T.tup = some t0 := h
  cases hts : rdl (rd n W.S) ds with
  | none => rw [hts] at h; cases h
  | some ts =>
   rw [hts] at h
   obtain rfl := Option.some.inj h
   obtain ⟨b1, b2, as, b3⟩ := seens I (fun h r q => seen I hS h r q) hts rl rv
   refine ⟨?_, ?_, _, reads_tuple_at ho hc hd (by simpa using b3)⟩
   ·simp only [toPy, PyData.canLay0, b1]
   ·simp only [toPy, PyData.depth]
    omega
 | n + 1, .ref i, _, _, t0, h, r, q => by
  have h : (match zH W.S i with | some ds => (rdl (rd n W.S) ds).map T.lst | none => none) = some t0 := h
  cases hl : zH W.S i with
  | none => rw [hl] at h; cases h
  | some ds =>
   rw [hl] at h
   have h : (rdl (rd n W.S) ds).map T.lst = some t0 := h
   obtain ⟨xs, ex, hq, rl⟩ := hS.lst r hl
   subst ex
   cases q
   obtain ⟨z, its, k, rv, hl', e⟩ := I.lstM hq
   cases hts : rdl (rd n W.S) ds with
   | none => rw [hts] at h; cases h
   | some ts =>
    rw [hts] at h
    obtain rfl := Option.some.inj h
    obtain ⟨b1, b2, as, b3⟩ := seens I (fun h r q => seen I hS h r q) hts rl rv
    refine ⟨?_, ?_, _, reads_list_at e rfl rfl (by simpa using b3)⟩
    ·simp only [toPy, PyData.canLay0, b1]
    ·simp only [toPy, PyData.depth]
     omega
 | n, .exc _, _, _, _, h, _, _ => by cases n <;> cases h
 | n, .scr _, _, _, _, h, _, _ => by cases n <;> cases h
theorem Seen.shaped {s : Shared} {t : T} {u : Value} (h : Seen s 9 t u) : SeqAt.shaped (toPy t) = true := by
 unfold SeqAt.shaped
 rw [h.1, Bool.true_and]
 exact decide_eq_true (by have := h.2.1; omega)
def rEqD (G : Gx) (neg : Bool) : R2 := fun x y H Q => ∃ W d e t u, StOk G H W /\ Rep G H W d x /\ Rep G H W e y /\ rd 9 W.S d = some t /\ rd 9 W.S e = some u /\ Q (.bl (if neg = true then !eqT t u else eqT t u)) H
theorem op_eqX {k : Nat} (hr : Room k X.A) : OpR X (compareOp .Eq) (rEqD (gx X) false) := by
 intro pins s σ H x y v u Q I rx ry h
 obtain ⟨W, d, e, t, t', hS, rd1, re, pd, pe, q⟩ := h
 have sa := seen I hS pd rd1 rx
 have sb := seen I hS pe re ry
 obtain ⟨as, ra⟩ := sa.2.2
 obtain ⟨bs, rb⟩ := sb.2.2
 refine eq_dataH ra rb sa.shaped sb.shaped hr.units ?_
 rw [eqT_py]
 exact ⟨.bl _, H, I, rfl, q⟩
theorem op_neX {k : Nat} (hr : Room k X.A) : OpR X (compareOp .NotEq) (rEqD (gx X) true) := by
 intro pins s σ H x y v u Q I rx ry h
 obtain ⟨W, d, e, t, t', hS, rd1, re, pd, pe, q⟩ := h
 have sa := seen I hS pd rd1 rx
 have sb := seen I hS pe re ry
 obtain ⟨as, ra⟩ := sa.2.2
 obtain ⟨bs, rb⟩ := sb.2.2
 refine ne_dataH ra rb sa.shaped sb.shaped hr.units ?_
 rw [eqT_py]
 exact ⟨.bl _, H, I, rfl, q⟩
theorem od_eqK (neg : Bool) : OpD G (rEqD G neg) (fun x y S => eqK neg S (rd 9 S x) (rd 9 S y)) := by
 intro E H W x y dx dy Q rr hS rx ry e hA
 have e : eqK neg W.S (rd 9 W.S dx) (rd 9 W.S dy) = some rr := e
 cases h1 : rd 9 W.S dx with
 | none => rw [h1] at e; cases e
 | some t =>
  cases h2 : rd 9 W.S dy with
  | none => rw [h1, h2] at e; cases e
  | some u =>
   rw [h1, h2] at e
   obtain rfl : Rs.ok (D.bl (if neg = true then !eqT t u else eqT t u)) W.S = rr := Option.some.inj e
   exact ⟨W, dx, dy, t, u, hS, rx, ry, h1, h2, hA.now hS _ rfl⟩
theorem od_eq : OpD G (rEqD G false) eqD := od_eqK false
theorem od_ne : OpD G (rEqD G true) neD := od_eqK true
theorem od_lt : OpD G (rI0 fun i j => .bl (decide (i < j))) ltD := qFc fun dx dy S rr e => by
 unfold ltD at e
 split at e
 ·exact ⟨_, _, rfl, rfl, (Option.some.inj e).symm⟩
 ·cases e
theorem od_le : OpD G (rI0 fun i j => .bl (decide (i <= j))) leD := qFc fun dx dy S rr e => by
 unfold leD at e
 split at e
 ·exact ⟨_, _, rfl, rfl, (Option.some.inj e).symm⟩
 ·cases e
theorem od_gt : OpD G (rI0 fun i j => .bl (decide (j < i))) gtD := qFc fun dx dy S rr e => by
 unfold gtD at e
 split at e
 ·exact ⟨_, _, rfl, rfl, (Option.some.inj e).symm⟩
 ·cases e
theorem od_ge : OpD G (rI0 fun i j => .bl (decide (j <= i))) geD := qFc fun dx dy S rr e => by
 unfold geD at e
 split at e
 ·exact ⟨_, _, rfl, rfl, (Option.some.inj e).symm⟩
 ·cases e
theorem rep_non {H : Hp} {W : Wd} {d : D} {v : V} (r : Rep G H W d v) : decide (v = .non) = qBr d := by
 cases d with
 | non => cases r; rfl
 | bl _ => cases r; rfl
 | int _ => cases r; rfl
 | str _ => cases r; rfl
 | tup _ => obtain ⟨a, _, rfl, _⟩ := r; rfl
 | ref _ => obtain ⟨_, rfl⟩ := r; rfl
 | exc _ => obtain ⟨a, _, rfl, _⟩ := r; rfl
 | scr _ => obtain ⟨a, _, rfl, _⟩ := r; rfl
theorem od_isNN : OpD G (fun x y H Q => y = .non /\ Q (.bl (!decide (x = .non))) H) isNND := by
 intro E H W x y dx dy Q rr hS rx ry e hA
 unfold isNND at e
 split at e
 ·obtain rfl := Option.some.inj e
  exact ⟨ry, by rw [rep_non rx]; exact hA.now hS _ rfl⟩
 ·cases e
def rIxD (K : PySem.W.Frag) : R2 := fun x y H Q => rIxL K x y H Q \/ rIxT K x y H Q
theorem ix_X : IxR X (rIxD X.K) := ix_list.or ix_tup
theorem ixA_at {α : Type} {xs : List α} {i : Int} : (ixA xs.length i).bind (fun j => xs[j]?) = atI xs i := by
 unfold atI ixA ixN
 rfl
theorem at_rep {H : Hp} {W : Wd} {ds : List D} {vs : List V} {i : Int} {d : D} (rl : RepL G H W ds vs) (h : (ixA ds.length i).bind (fun j => ds[j]?) = some d) : ∃ v, atI vs i = some v /\ Rep G H W d v := by
 rw [<- ixA_at]
 rw [rl.length] at h
 cases z : ixA vs.length i with
 | none => rw [z] at h; cases h
 | some j =>
  rw [z] at h
  obtain ⟨v, hv, rv⟩ := rl.get (i := j) (d := d) h
  exact ⟨v, hv, rv⟩
theorem qFj {o : Option (List D)} {i : Int} {S : Sto} {rr : Rs D} (h : ixK o i S = some rr) : ∃ xs d, o = some xs /\ (ixA xs.length i).bind (fun j => xs[j]?) = some d /\ rr = .ok d S := by
 unfold ixK at h
 split at h
 ·rename_i xs
  split at h
  ·rename_i d hd
   exact ⟨xs, d, rfl, hd, (Option.some.inj h).symm⟩
  ·cases h
 ·cases h
theorem zU : OpD G (rIxD G.K) ixD := by
 intro E H W x y dx dy Q rr hS rx ry e hA
 unfold ixD at e
 split at e
 ·rename_i xs i
  obtain ⟨xs', d, e0, hd, rfl⟩ := qFj e
  cases e0
  obtain ⟨a, us, ea, qa, ra⟩ := rx
  obtain ⟨v, hv, rv⟩ := at_rep ra hd
  exact .inr ⟨a, us, i, v, ea, ry, qa, hv, hA.now hS _ rv⟩
 ·rename_i a i
  obtain ⟨xs', d, e0, hd, rfl⟩ := qFj e
  obtain ⟨us, ea, qa, ra⟩ := hS.lst rx e0
  obtain ⟨v, hv, rv⟩ := at_rep ra hd
  exact .inl ⟨_, us, i, v, ea, ry, .inl (.inl qa), hv, hA.now hS _ rv⟩
 ·rename_i xs i
  obtain ⟨xs', d, e0, hd, rfl⟩ := qFj e
  cases e0
  obtain ⟨a, us, ea, qa, ra⟩ := rx
  obtain ⟨v, hv, rv⟩ := at_rep ra hd
  exact .inl ⟨a, us, i, v, ea, ry, qa.sq, hv, hA.now hS _ rv⟩
 ·cases e
def rLenD (K : PySem.W.Frag) : List V -> Hp -> VK -> Prop := fun xs H Q => (∃ p ys, xs = [.ref p] /\ (SqL K H p ys \/ SqT K H p ys) /\ Q (.int ys.length) H) \/ ∃ z, xs = [.str z] /\ z.length <= sizeLine /\ Q (.int z.length) H
theorem call_lenX : qCq X (.builtin "len") (rLenD X.K) := qCq.or call_len_seq call_len_str
theorem cd_len : CallD G (rLenD G.K) lenD := by
 intro E H W vs ds Q rr hS rl e hA
 unfold lenD at e
 split at e
 ·rename_i xs
  obtain rfl : Rs.ok (D.int xs.length) W.S = rr := Option.some.inj e
  obtain ⟨v, r, rfl, ⟨a, us, rfl, qa, ra⟩, t⟩ := rl
  have t : r = [] := t
  subst t
  exact .inl ⟨a, us, rfl, .inl qa.sq, by rw [<- ra.length]; exact hA.now hS _ rfl⟩
 ·rename_i xs
  obtain rfl : Rs.ok (D.int xs.length) W.S = rr := Option.some.inj e
  obtain ⟨v, r, rfl, ⟨a, us, rfl, qa, ra⟩, t⟩ := rl
  have t : r = [] := t
  subst t
  exact .inl ⟨a, us, rfl, .inr qa, by rw [<- ra.length]; exact hA.now hS _ rfl⟩
 ·rename_i a
  unfold lenK at e
  split at e
  ·rename_i xs hx
   obtain rfl : Rs.ok (D.int xs.length) W.S = rr := Option.some.inj e
   obtain ⟨v, r, rfl, rx, t⟩ := rl
   obtain ⟨us, ea, qa, ra⟩ := hS.lst rx hx
   have t : r = [] := t
   subst t ea
   exact .inl ⟨_, us, rfl, .inl (.inl (.inl qa)), by rw [<- ra.length]; exact hA.now hS _ rfl⟩
  ·cases e
 ·rename_i z
  split at e
  ·rename_i hl
   obtain rfl : Rs.ok (D.int z.length) W.S = rr := Option.some.inj e
   obtain ⟨v, r, rfl, q, t⟩ := rl
   have q : v = .str z := q
   have t : r = [] := t
   subst q t
   exact .inr ⟨z, rfl, sz hl, hA.now hS _ rfl⟩
  ·cases e
 ·cases e
def kdT : Kd -> String
 | .int => "int"
 | .bool => "bool"
 | .str => "str"
 | .lst => "list"
 | .tup => "tuple"
theorem call_isi (k : Kd) : qCq X (.builtin "isinstance") (fun xs H Q => ∃ W x d b, xs = [x, .ty (kdT k)] /\ StOk (gx X) H W /\ Rep (gx X) H W d x /\ isK k d W.S = some b /\ Q (.bl b) H) := by
 intro pins s σ H xs us Q I r h
 obtain ⟨W, x, d, b, rfl, hS, rd, hb, q⟩ := h
 obtain ⟨u, w, rfl, rx, rw'⟩ := Vals.two r
 cases rw'
 have qT : ∀ tk, EP X pins σ Q (.bool b) { s with toks := tk } := fun tk => ⟨.bl b, H, I.tok tk, rfl, q⟩
 have qS : EP X pins σ Q (.bool b) s := ⟨.bl b, H, I, rfl, q⟩
 cases d with
 | non =>
  cases rd; cases rx
  cases k <;> cases hb <;> first
   | exact PySem.IsiNone.NoneType_int (qT _)
   | exact PySem.IsiNone.NoneType_bool (qT _)
   | exact PySem.IsiNone.NoneType_str (qT _)
   | exact PySem.IsiNone.NoneType_list (qT _)
   | exact PySem.IsiNone.NoneType_tuple (qT _)
   | exact PySem.IsiPair.NoneType_int (qT _)
   | exact PySem.IsiPair.NoneType_bool (qT _)
   | exact PySem.IsiPair.NoneType_str (qT _)
   | exact PySem.IsiPair.NoneType_list (qT _)
   | exact PySem.IsiPair.NoneType_tuple (qT _)
 | bl c =>
  cases rd; cases rx
  cases k <;> cases hb <;> first
   | exact PySem.IsiPair.bool_int qS
   | exact PySem.IsiPair.bool_bool qS
   | exact PySem.IsiPair.bool_str (qT _)
   | exact PySem.IsiPair.bool_list (qT _)
   | exact PySem.IsiPair.bool_tuple (qT _)
 | int i =>
  cases rd
  obtain ⟨t, rfl⟩ := rx
  cases k <;> cases hb <;> first
   | exact PySem.IsiPair.int_int qS
   | exact PySem.IsiPair.int_bool (qT _)
   | exact PySem.IsiPair.int_str (qT _)
   | exact PySem.IsiPair.int_list (qT _)
   | exact PySem.IsiPair.int_tuple (qT _)
 | str i =>
  cases rd
  obtain ⟨t, rfl⟩ := rx
  cases k <;> cases hb <;> first
   | exact PySem.IsiPair.str_int (qT _)
   | exact PySem.IsiPair.str_bool (qT _)
   | exact PySem.IsiPair.str_str qS
   | exact PySem.IsiPair.str_list (qT _)
   | exact PySem.IsiPair.str_tuple (qT _)
 | tup ds =>
  obtain ⟨a, ys, rfl, hq, rl⟩ := rd
  cases rx
  obtain ⟨its, rv, ⟨o, ho, hc, kk, hd⟩, hz⟩ := I.tuple hq
  have ty : s.TypeIs (.ref a) "tuple" := ⟨o, ho, hc⟩
  cases k <;> cases hb <;> first
   | exact call_isinstance (isinstance_true (Tx := "tuple") F.isi_meta_tuple F.sub_tuple_tuple) ⟨ty, qS⟩
   | exact call_isinstance (isinstance_true (Tx := "tuple") F.isi_meta_tuple isi_sub_tuple) ⟨ty, qS⟩
   | exact call_isinstance (isinstance_false_tuple (by decide +kernel) F.isi_meta_int F.sub_tuple_int) ⟨ty, qT _⟩
   | exact call_isinstance (isinstance_false_tuple (by decide +kernel) F.isi_meta_bool F.sub_tuple_bool) ⟨ty, qT _⟩
   | exact call_isinstance (isinstance_false_tuple (by decide +kernel) F.isi_meta_str F.sub_tuple_str) ⟨ty, qT _⟩
   | exact call_isinstance (isinstance_false_tuple (by decide +kernel) F.isi_meta_list F.sub_tuple_list) ⟨ty, qT _⟩
 | ref a =>
  have hl : (∃ ds, zH W.S a = some ds /\ b = decide (k = .lst)) \/ ∃ kvs, W.S[a]? = some (.dct kvs) /\ b = false := by
   unfold zH
   cases k <;> (simp only [isK] at hb; split at hb <;> first | (rename_i heq; cases hb; first | (refine .inl ?_; rw [heq]; exact ⟨_, rfl, by decide⟩) | exact .inr ⟨_, heq, rfl⟩) | cases hb)
  rcases hl with hl | ⟨kvs, hl, eb⟩
  rotate_left
  ·obtain ⟨_, hq⟩ := hS.get a _ hl
   have ea : x = .ref (W.μ a) := rd.2
   subst ea
   cases rx
   obtain ⟨_, _, vs, _, p⟩ := (show qBz X.prog X.w H s.heap (W.μ a) (.dK []) from I.hok _ _ hq)
   obtain ⟨o, es, ep, h1, h2, _⟩ := p
   have ty : s.TypeIs (.ref (W.μ a)) "dict" := ⟨o, h1, h2.1⟩
   subst eb
   cases k <;> first
    | exact call_isinstance (isinstance_false_dict (by decide +kernel) F.isi_meta_int F.sub_dict_int) ⟨ty, qT _⟩
    | exact call_isinstance (isinstance_false_dict (by decide +kernel) F.isi_meta_bool F.sub_dict_bool) ⟨ty, qT _⟩
    | exact call_isinstance (isinstance_false_dict (by decide +kernel) F.isi_meta_str F.sub_dict_str) ⟨ty, qT _⟩
    | exact call_isinstance (isinstance_false_dict (by decide +kernel) F.isi_meta_list F.sub_dict_list) ⟨ty, qT _⟩
    | exact call_isinstance (isinstance_false_dict (by decide +kernel) F.isi_meta_tuple F.sub_dict_tuple) ⟨ty, qT _⟩
  obtain ⟨ds, hl, eb⟩ := hl
  obtain ⟨ys, ea, hq, rl⟩ := hS.lst rd hl
  subst ea
  cases rx
  obtain ⟨z, its, kk, rv, hl, e⟩ := I.lstM hq
  have ty : s.TypeIs (.ref (W.μ a)) "list" := ⟨_, e, rfl⟩
  subst eb
  cases k <;> first
   | exact call_isinstance (isinstance_true (Tx := "list") F.isi_meta_list F.sub_list_list) ⟨ty, qS⟩
   | exact call_isinstance (isinstance_false_list (by decide +kernel) F.isi_meta_int F.sub_list_int) ⟨ty, qT _⟩
   | exact call_isinstance (isinstance_false_list (by decide +kernel) F.isi_meta_bool F.sub_list_bool) ⟨ty, qT _⟩
   | exact call_isinstance (isinstance_false_list (by decide +kernel) F.isi_meta_str F.sub_list_str) ⟨ty, qT _⟩
   | exact call_isinstance (isinstance_false_list (by decide +kernel) F.isi_meta_tuple F.sub_list_tuple) ⟨ty, qT _⟩
 | exc c => cases k <;> cases hb
 | scr _ => cases k <;> cases hb
theorem pd_isi (k : Kd) {e : Expr} {ge : DE} {p p2 pos : Pos} {T : Str} (hT : bootBuiltins T = some (.type (kdT k))) (hg : Gl X "isinstance") (hm : X.mg "isinstance" = none) (hgT : Gl X T) (hmT : X.mg T = none) (he : PDE X E e ge)
  (hv : bootBuiltins "isinstance" = some (.builtin "isinstance") := by decide +kernel) (hnT : T ≠ "__name__" := by decide +kernel) (hdT : (T == ("__debug__" : Str)) = false := by decide +kernel)
  (hst : starEach (e :: [.Name T p2]) X.env = (false, eval e X.env) :: starEach [.Name T p2] X.env := by rfl) (hst2 : starEach (.Name T p2 :: []) X.env = (false, eval (.Name T p2) X.env) :: starEach [] X.env := by rfl)
  (hpl : (backTo pos (starEach [.Name T p2] X.env)).any (·.1) = false := by rfl) :
  PDE X E (.Call (.Name "isinstance" p) [e, .Name T p2] [] pos) (op1 (isiD k) ge) := by
 try unfold PDE at *
 refine PE.imp (qFb (call_isi k) hg hm hv (qDx he (qDx (pe_bltn (v := .ty (kdT k)) hgT hmT hT rfl hnT hdT) pa_nil hst2) hst) (by decide +kernel) (by decide +kernel) hst hpl) fun σ H Q ⟨W, δ, rr, hS, hδ, hg', hA⟩ => ?_
 refine Go.thn hS hδ hg' hA fun d H1 W1 s1 hδ1 hg1 hA1 v rv => ?_
 unfold isiD at hg1
 split at hg1
 ·rename_i b hb
  obtain rfl : Rs.ok (D.bl b) W1.S = rr := Option.some.inj hg1
  exact ⟨W1, v, d, b, rfl, s1.ok, rv, hb, hA1.now s1.ok _ rfl⟩
 ·cases hg1
end
end Np
end
section
namespace Np
open PySem PySem.Spec PyProof.Rows L2
def clOf : List (Str × NameKind) -> List (Str × Addr) -> List (Str × Addr) -> List (Str × Addr)
 | [], _, cs => cs
 | (n, k) :: r, cells, cs => clOf r cells (if k = .free then (match cells.lookup n with | some c => (n, c) :: cs | none => cs) else cs)
theorem clOf_get (cells : List (Str × Addr)) : ∀ (names : List (Str × NameKind)) (cs : List (Str × Addr)) (x : Str) (c : Addr), (clOf names cells cs).lookup x = some c -> cs.lookup x = some c \/ (cells.lookup x = some c /\ (x, NameKind.free) ∈ names)
 | [], cs, x, c, h => .inl h
 | (n, k) :: r, cs, x, c, h => by
  rcases clOf_get cells r _ x c h with q | ⟨q, m⟩
  ·split at q
   ·rename_i hk
    split at q
    ·rename_i d hd
     rw [jCd] at q
     cases e : x == n with
     | true =>
      rw [e] at q
      have e' : x = n := beq_iff_eq.mp e
      subst e' hk
      cases q
      exact .inr ⟨hd, .head _⟩
     | false =>
      rw [e] at q
      exact .inl q
    ·exact .inl q
   ·exact .inl q
  ·exact .inr ⟨q, .tail _ m⟩
theorem clOf_old (cells : List (Str × Addr)) : ∀ (names : List (Str × NameKind)) (cs : List (Str × Addr)) (x : Str), (∃ c, cs.lookup x = some c) -> ∃ c, (clOf names cells cs).lookup x = some c
 | [], cs, x, h => h
 | (n, k) :: r, cs, x, h => by
  refine clOf_old cells r _ x ?_
  split
  ·split
   ·rw [jCd]
    cases x == n with
    | true => exact ⟨_, rfl⟩
    | false => exact h
   ·exact h
  ·exact h
theorem qF0 (cells : List (Str × Addr)) : ∀ (names : List (Str × NameKind)) (cs : List (Str × Addr)) (x : Str), (x, NameKind.free) ∈ names -> (∃ c, cells.lookup x = some c) -> ∃ c, (clOf names cells cs).lookup x = some c
 | (n, k) :: r, cs, x, hm, hc => by
  rcases jAo.mp hm with e | hm
  ·obtain ⟨rfl, rfl⟩ := Prod.mk.inj e
   obtain ⟨c, hc⟩ := hc
   refine clOf_old cells r _ _ ?_
   rw [if_pos rfl, hc]
   exact ⟨c, by simp [jCd]⟩
  ·exact qF0 cells r _ x hm hc
theorem qDa {env : Env} : ∀ (names : List (Str × NameKind)) (cs : List (Str × Addr)), (∀ y ∈ names, y.2 = .free -> ∃ c, env.cells.lookup y.1 = some c) ->
  (forIn names cs (fun (x : Str × NameKind) (r : List (Str × Addr)) => do
   if (x.2 == NameKind.free) = true then do let c <- cellOf env x.1; pure (ForInStep.yield ((x.1, c) :: r)) else pure (ForInStep.yield r)) : Sem (List (Str × Addr))) = pure (clOf names env.cells cs)
 | [], cs, _ => rfl
 | (n, k) :: r, cs, h => by
  rw [List.forIn_cons]
  by_cases hk : k = .free
  ·subst hk
   obtain ⟨c, hc⟩ := h (n, .free) (.head _) rfl
   have e : cellOf env n = pure c := by unfold cellOf; rw [hc]
   have ih := qDa (env := env) r ((n, c) :: cs) fun y hy => h y (.tail _ hy)
   have e2 : clOf ((n, NameKind.free) :: r) env.cells cs = clOf r env.cells ((n, c) :: cs) := by
    show clOf r env.cells (if NameKind.free = NameKind.free then (match env.cells.lookup n with | some c => (n, c) :: cs | none => cs) else cs) = _
    rw [if_pos rfl, hc]
   rw [e2, <- ih]
   simp only [beq_self_eq_true, if_true, e, pure_bind]
  ·have ih := qDa (env := env) r cs fun y hy => h y (.tail _ hy)
   have hb : (k == NameKind.free) = false := by simpa using hk
   have e2 : clOf ((n, k) :: r) env.cells cs = clOf r env.cells cs := by
    show clOf r env.cells (if k = NameKind.free then (match env.cells.lookup n with | some c => (n, c) :: cs | none => cs) else cs) = _
    rw [if_neg hk]
   rw [e2, <- ih]
   simp only [hb, Bool.false_eq_true, if_false, pure_bind]
theorem qC5 {scope : Scope} {env : Env} (h : ∀ y ∈ scope.names, y.2 = .free -> ∃ c, env.cells.lookup y.1 = some c) : closureFor scope env = pure (clOf scope.names env.cells []) := by
 have := qDa (env := env) scope.names [] h
 unfold closureFor
 simp only [bind_pure]
 exact this
theorem qEw (f : Str -> NameKind -> NameKind) : ∀ (names : List (Str × NameKind)) (x : Str), (names.map fun y => (y.1, f y.1 y.2)).lookup x = (names.lookup x).map (f x)
 | [], x => rfl
 | (n, k) :: r, x => by
  rw [jBb, jCd, jCd, qEw f r x]
  cases e : x == n with
  | true =>
   have e' : x = n := beq_iff_eq.mp e
   subst e'
   rfl
  | false => rfl
theorem qE7 (scope : Scope) (env : Env) (x : Str) : (relabel scope env).names.lookup x = (scope.names.lookup x).map fun k => if (k == .free && env.scope.kind == .function && env.kindOf x == some .cell) = true then .cell else k := by
 have := qEw (fun n k => if (k == .free && env.scope.kind == .function && env.kindOf n == some .cell) = true then .cell else k) scope.names x
 rw [<- this]
 unfold relabel
 congr 1
 refine List.map_congr_left fun y _ => ?_
 obtain ⟨n, k⟩ := y
 dsimp only
 split <;> rfl
theorem qA5 {scope : Scope} {env : Env} {x : Str} {kd : NameKind} (h : (relabel scope env).names.lookup x = some kd) : scope.names.lookup x = some kd \/ (scope.names.lookup x = some .free /\ kd = .cell) := by
 rw [qE7] at h
 cases q : scope.names.lookup x with
 | none => rw [q] at h; cases h
 | some k =>
  rw [q, jCe] at h
  have h' := Option.some.inj h
  split at h'
  ·rename_i hc
   have hk : k = .free := by
    have := (Bool.and_eq_true_iff.mp (Bool.and_eq_true_iff.mp hc).1).1
    simpa using this
   exact .inr ⟨by rw [hk], h'.symm⟩
  ·exact .inl (by rw [h'])
structure qBp (N : List Str) (fsc : Scope) (N' : List Str) (scope : Scope) : Prop where
 kind : scope.kind = .function
 names : ∀ x ∈ scope.names, x.2 = .local -> scope.names.lookup x.1 = some .local
 celu : ∀ x ∈ scope.names, x.2 = .cell -> scope.names.lookup x.1 = some .cell
 free : ∀ x ∈ scope.names, x.2 = .free -> scope.names.lookup x.1 = some .free /\ (fsc.names.lookup x.1 = some .cell \/ fsc.names.lookup x.1 = some .free)
 pre : ((jAg N.length).all fun i => match N'[i]? with
  | some x => (match scope.names.lookup x with
   | some .local => false
   | some .cell => false
   | some .free => N[i]? == some x
   | _ => true)
  | none => true) = true
 len : N.length <= N'.length
 nd : N'.Nodup
def ownOf (scope : Scope) (x : Str) : Bool := scope.names.lookup x == some .local || scope.names.lookup x == some .cell
def cellsC (scope : Scope) (C : Addr) (cells : List (Str × Addr)) : List (Str × Addr) := cellsFrom (C + 1) scope.names (clOf scope.names cells [])
theorem qB5 : ∀ (names : List (Str × NameKind)) (h : Heap) (acc : List (Str × Addr)) (x : Str) (c : Addr), (cellsFrom h.objs.size names acc).lookup x = some c ->
  acc.lookup x = some c \/ ((x, NameKind.cell) ∈ names /\ h.objs.size <= c /\ (pushCells h names).IsCell c none)
 | [], h, acc, x, c, e => .inl e
 | (n, k) :: r, h, acc, x, c, e => by
  unfold cellsFrom at e
  unfold pushCells
  split at e
  ·rename_i hk
   rw [if_pos hk]
   have hk' : k = .cell := by simpa using hk
   have z : (h.push { cls := .type "cell", data := .cell none }).objs.size = h.objs.size + 1 := jBe ..
   rw [<- z] at e
   rcases qB5 r _ _ x c e with q | ⟨q1, q2, q3⟩
   ·rw [jCd] at q
    cases en : x == n with
    | true =>
     rw [en] at q
     have en' : x = n := beq_iff_eq.mp en
     cases q
     refine .inr ⟨by rw [en', hk']; exact .head _, jAx _, { cls := .type "cell", data := .cell none }, pushCells_keeps _ _ _ _ (jAw _ rfl), rfl⟩
    | false =>
     rw [en] at q
     exact .inl q
   ·exact .inr ⟨.tail _ q1, by omega, q3⟩
  ·rename_i hk
   rw [if_neg hk]
   rcases qB5 r _ _ x c e with q | ⟨q1, q2⟩
   ·exact .inl q
   ·exact .inr ⟨.tail _ q1, q2⟩
theorem qCf : ∀ (names : List (Str × NameKind)) (n : Nat) (acc : List (Str × Addr)) (x : Str) (c : Addr), (cellsFrom n names acc).lookup x = some c -> acc.lookup x = some c \/ ((x, NameKind.cell) ∈ names /\ n <= c)
 | [], n, acc, x, c, e => .inl e
 | (y, k) :: r, n, acc, x, c, e => by
  unfold cellsFrom at e
  split at e
  ·rename_i hk
   have hk' : k = .cell := by simpa using hk
   rcases qCf r _ _ x c e with q | ⟨q1, q2⟩
   ·rw [jCd] at q
    cases en : x == y with
    | true =>
     rw [en] at q
     have en' : x = y := beq_iff_eq.mp en
     cases q
     exact .inr ⟨by rw [en', hk']; exact .head _, jAx _⟩
    | false =>
     rw [en] at q
     exact .inl q
   ·exact .inr ⟨.tail _ q1, by omega⟩
  ·rcases qCf r _ _ x c e with q | ⟨q1, q2⟩
   ·exact .inl q
   ·exact .inr ⟨.tail _ q1, q2⟩
theorem qBg : ∀ (names : List (Str × NameKind)) (n : Nat) (acc : List (Str × Addr)) (x : Str), (∃ c, acc.lookup x = some c) -> ∃ c, (cellsFrom n names acc).lookup x = some c
 | [], n, acc, x, e => e
 | (y, k) :: r, n, acc, x, e => by
  unfold cellsFrom
  split
  ·refine qBg r _ _ x ?_
   rw [jCd]
   cases x == y with
   | true => exact ⟨_, rfl⟩
   | false => exact e
  ·exact qBg r _ _ x e
theorem qB4 : ∀ (names : List (Str × NameKind)) (n : Nat) (acc : List (Str × Addr)), (∀ x c, acc.lookup x = some c -> c < n) -> (∀ x y c, acc.lookup x = some c -> acc.lookup y = some c -> x = y) ->
  ∀ x y c, (cellsFrom n names acc).lookup x = some c -> (cellsFrom n names acc).lookup y = some c -> x = y
 | [], n, acc, _, h2 => h2
 | (z, k) :: r, n, acc, h1, h2 => by
  unfold cellsFrom
  split
  ·refine qB4 r _ _ (fun x c e => ?_) fun x y c e1 e2 => ?_
   ·rw [jCd] at e
    cases en : x == z with
    | true => rw [en] at e; cases e; exact jBf _
    | false => rw [en] at e; exact jCf (h1 x c e)
   ·rw [jCd] at e1 e2
    cases en : x == z with
    | true =>
     rw [en] at e1
     cases e1
     cases en2 : y == z with
     | true => rw [beq_iff_eq.mp en, beq_iff_eq.mp en2]
     | false => rw [en2] at e2; exact absurd (h1 y _ e2) (jAe _)
    | false =>
     rw [en] at e1
     cases en2 : y == z with
     | true => rw [en2] at e2; cases e2; exact absurd (h1 x _ e1) (jAe _)
     | false => rw [en2] at e2; exact h2 x y c e1 e2
  ·exact qB4 r _ _ h1 h2
theorem qDz {M : Model} {A : Around} {E : Value -> Shared -> Prop} {s : Shared} {scope : Scope} {globals : Addr} {closure : List (Str × Addr)} {qual : Str} {env : Env} {Q : Env -> Shared -> Prop}
  (hQ : ∀ h', h'.Ns s.heap.objs.size (fun _ => none) -> (∀ b o, s.heap.get? b = some o -> h'.get? b = some o) ->
   (∀ x c, (cellsFrom (s.heap.objs.size + 1) scope.names closure).lookup x = some c -> closure.lookup x = some c \/ ((x, NameKind.cell) ∈ scope.names /\ s.heap.objs.size + 1 <= c /\ h'.IsCell c none)) ->
   Q (newEnv scope s.heap.objs.size globals (cellsFrom (s.heap.objs.size + 1) scope.names closure) qual none .none (some env) builtinsNs) { s with heap := h' }) :
  wpAny M A (newFunctionEnv scope globals closure [] qual none .none (some env)) Q E s := by
 simp only [newFunctionEnv, Option.isSome_some, if_true]
 refine wpAny_bind (wpAny_alloc ?_)
 refine wpAny_bind (wpAny_layCells _ (fun name kind cells => by cases hkc : kind == NameKind.cell <;> simp [hkc]) _ _ _ _ ?_)
 have z : (s.heap.push { cls := .type "dict", data := .dict #[] }).objs.size = s.heap.objs.size + 1 := jBe ..
 rw [List.forIn_nil]
 refine wpAny_bind (wpAny_pure (wpAny_pure ?_))
 have := hQ (pushCells (s.heap.push { cls := .type "dict", data := .dict #[] }) scope.names) ((Heap.Ns.new s.heap (.type "dict")).keeps (pushCells_keeps _ _)) (fun b o e => pushCells_keeps _ _ b o (jAu _ e)) (fun x c e => by
  rw [<- z] at e ⊢
  exact qB5 _ _ _ _ _ e)
 rw [<- z] at this
 exact this
def qAa (X : Cx) (N' : List Str) (scope : Scope) (C : Addr) (s₃ : Shared) (H₃ : Hp) (ex : List Addr) (pn : List (Addr × Obj)) : Cx where
 prog := X.prog
 w := X.w
 K := X.K
 mg := X.mg
 base := X.base
 A := X.A
 N := N'
 s₀ := s₃
 H₀ := H₃
 env := compEnvC scope (cellsC scope C X.env.cells) C X.env
 outer := X.stack
 stack := X.stack
 ex := ex
 fn := ownOf scope
 calm := X.calm
 pn := pn
 xe := fun _ _ => False
section
variable {X : Cx} {N' : List Str} {scope : Scope}
theorem cl_sub {x : Str} {c : Addr} (h : (clOf scope.names X.env.cells []).lookup x = some c) : X.env.cells.lookup x = some c /\ (x, NameKind.free) ∈ scope.names := by
 rcases clOf_get _ _ _ _ _ h with z | z
 ·cases z
 ·exact z
theorem qCn {C : Addr} {x : Str} {c : Addr} (h : (cellsC scope C X.env.cells).lookup x = some c) : (X.env.cells.lookup x = some c /\ (x, NameKind.free) ∈ scope.names) \/ ((x, NameKind.cell) ∈ scope.names /\ C < c) := by
 rcases qCf _ _ _ _ _ h with q | ⟨q1, q2⟩
 ·exact .inl (cl_sub q)
 ·exact .inr ⟨q1, q2⟩
theorem cells_lt {pins : List (Addr × Obj)} {σ : L2.St} {H₃ : Hp} {s₃ : Shared} (I : Inv X pins σ H₃ s₃) {x : Str} {c : Addr} (h : X.env.cells.lookup x = some c) : c < s₃.heap.objs.size := by
 obtain ⟨v, o, ho, _⟩ := I.cell x c h
 exact jAc ho
theorem comp_ok {pins : List (Addr × Obj)} {σ : L2.St} {H₃ : Hp} {s₃ : Shared} {C : Addr} {fp : List Addr} (O : qBp X.N X.env.scope N' scope) (I : Inv X pins σ H₃ s₃) (hC : s₃.heap.objs.size <= C) (hf : ∀ b ∈ fp, FpOk X pins H₃ b) (hfl : ∀ b ∈ fp, b < s₃.heap.objs.size) :
  (qAa X N' scope C s₃ H₃ fp (X.pn ++ pins)).Ok where
 mod := I.ok.mod
 kind := by show (relabel scope X.env).kind = _; exact O.kind
 glob := I.ok.glob
 blt := I.ok.blt
 above := hC
 inj := fun x y c h1 h2 => qB4 scope.names (C + 1) (clOf scope.names X.env.cells []) (fun x c h => jCf (jAd (cells_lt I (cl_sub h).1) hC)) (fun x y c h1 h2 => I.ok.inj x y c (cl_sub h1).1 (cl_sub h2).1) x y c h1 h2
 has := fun x hx => by
  have hx' : (relabel scope X.env).names.lookup x = some .cell \/ (relabel scope X.env).names.lookup x = some .free := hx
  have hfree : scope.names.lookup x = some .cell \/ scope.names.lookup x = some .free := by
   rcases hx' with z | z
   ·rcases qA5 z with y | ⟨y, _⟩
    ·exact .inl y
    ·exact .inr y
   ·rcases qA5 z with y | ⟨y, y2⟩
    ·exact .inr y
    ·cases y2
  rcases hfree with hfree | hfree
  ·exact jBm.mp (jBl scope.names (C + 1) _ (.inl hfree))
  ·have hm := PySem.mem_of_lookup hfree
   have hcell : ∃ c, X.env.cells.lookup x = some c := I.ok.has x (O.free _ hm rfl).2
   exact qBg _ _ _ _ (qF0 _ _ _ _ hm hcell)
 cab := fun x c h1 h2 => by
  rcases qCn (X := X) h2 with ⟨_, hm⟩ | ⟨_, hc⟩
  ·have q := (O.free _ hm rfl).1
   have h1' : (scope.names.lookup x == some .local || scope.names.lookup x == some .cell) = true := h1
   rw [q] at h1'
   cases h1'
  ·exact jAk (jCg hC hc)
 hd := I.ok.hd
 frames := I.ok.frames
 stk := .inl rfl
 exf := fun b hb => ⟨jAf (jAd (hfl b hb) hC), fun x c h => by
  rcases qCn (X := X) h with ⟨q, _⟩ | ⟨_, q⟩
  ·exact (hf b hb).2.2.2.2.1 x c q
  ·exact jAv (Nat.lt_trans (jAd (hfl b hb) hC) q)⟩
 bs := I.bs
 bsz := jAj I.ok.bsz I.sz
 noex := fun b o e hb => by
  rcases (hf b hb).2.2.2.1 with z | z
  ·exact I.ok.noex b o e z
  ·exact absurd (jAd (jAc (I.ok.bs b o e).1) z) (jAe _)
 exfs := fun b hb z => by
  rcases jAo.mp (I.stkSub b z) with e | e
  ·exact (hf b hb).2.1 e
  ·exact (hf b hb).2.2.1 e
 funs := I.stack
 frf := I.stkFree
theorem inv_comp {pins : List (Addr × Obj)} {σ : L2.St} {H₃ : Hp} {s₃ s₄ : Shared} {C : Addr} {fp : List Addr} {m : Str -> Option Value} {k : Nat} (O : qBp X.N X.env.scope N' scope) (I : Inv X pins σ H₃ s₃) (hC : s₃.heap.objs.size <= C) (hf : ∀ b ∈ fp, FpOk X pins H₃ b) (hfl : ∀ b ∈ fp, b < s₃.heap.objs.size)
  (hs : ∃ h' t', s₄ = { s₃ with heap := h', toks := t' }) (hk : ∀ b o, s₃.heap.get? b = some o -> s₄.heap.get? b = some o) (hn : s₄.heap.Ns C m)
  (hce : ∀ x c, (cellsC scope C X.env.cells).lookup x = some c -> (clOf scope.names X.env.cells []).lookup x = some c \/ ((x, NameKind.cell) ∈ scope.names /\ C + 1 <= c /\ s₄.heap.IsCell c none)) (hlen : X.N.length + k = N'.length) : Inv (qAa X N' scope C s₃ H₃ fp (X.pn ++ pins)) [] (σ ++ jBk k none) H₃ s₄ := by
 obtain ⟨h', t', rfl⟩ := hs
 have hHC : H₃ C = none := I.hok.fresh hC
 refine ⟨comp_ok O I hC hf hfl, rfl, I.bare, Un.kept hk, ⟨m, hn, fun i x v h1 h2 h3 => ?_⟩, fun x c h => ?_, hHC, fun x c h => ?_, fun p hp => ?_, I.hok.kept hk, ?_⟩
 ·have hi : i < σ.length := by
   by_cases hi : i < σ.length
   ·exact hi
   ·rw [jBp (by omega), jBq] at h2
    split at h2 <;> cases h2
  rw [jBr hi] at h2
  have hiN : i < X.N.length := by rw [<- I.len]; exact hi
  have hp := jCh.mp O.pre i (jAi.mpr hiN)
  have h1' : N'[i]? = some x := h1
  rw [h1'] at hp
  have h3' : (relabel scope X.env).names.lookup x = some .local \/ (relabel scope X.env).names.lookup x = some .cell \/ (relabel scope X.env).names.lookup x = some .free := h3
  have hp2 : (match scope.names.lookup x with
   | some .local => false
   | some .cell => false
   | some .free => X.N[i]? == some x
   | _ => true) = true := hp
  have hfree : scope.names.lookup x = some .free := by
   rcases h3' with z | z | z
   ·rcases qA5 z with y | ⟨y, y2⟩
    ·rw [y] at hp2; cases hp2
    ·cases y2
   ·rcases qA5 z with y | ⟨y, _⟩
    ·rw [y] at hp2; cases hp2
    ·exact y
   ·rcases qA5 z with y | ⟨y, y2⟩
    ·exact y
    ·cases y2
  have hm := PySem.mem_of_lookup hfree
  rw [hfree] at hp2
  have hNx : X.N[i]? = some x := by simpa using hp2
  have hkx := (O.free _ hm rfl).2
  obtain ⟨m0, hn0, hl0⟩ := I.loc
  have vis : Vis X.env.scope x := by
   rcases hkx with z | z
   ·exact .inr (.inl z)
   ·exact .inr (.inr z)
  obtain ⟨u, r, l⟩ := hl0 i x v hNx h2 vis
  refine ⟨u, r, .inr ⟨?_, ?_⟩⟩
  ·rcases h3' with z | z | z
   ·exfalso
    rcases qA5 z with y | ⟨y, y2⟩
    ·rw [hfree] at y; cases y
    ·cases y2
   ·exact .inl z
   ·exact .inr z
  ·rcases l with ⟨z, _⟩ | ⟨_, c, hc, hcell⟩
   ·exfalso
    have z' : X.env.scope.names.lookup x = some .local := z
    rcases hkx with y | y
    ·rw [z'] at y; cases y
    ·rw [z'] at y; cases y
   ·obtain ⟨c', hc'⟩ := qBg scope.names (C + 1) _ x (qF0 X.env.cells scope.names [] x hm ⟨c, hc⟩)
    have hcc : X.env.cells.lookup x = some c' := by
     rcases qCn (X := X) (C := C) hc' with ⟨q, _⟩ | ⟨q, _⟩
     ·exact q
     ·have := O.celu _ q rfl
      rw [hfree] at this
      cases this
    rw [hc] at hcc
    cases hcc
    obtain ⟨o, ho, hd⟩ := hcell
    exact ⟨c, hc', o, hk _ _ ho, hd⟩
 ·rcases hce x c h with q | ⟨_, _, q⟩
  ·obtain ⟨v, o, ho, hd⟩ := I.cell x c (cl_sub q).1
   exact ⟨v, o, hk _ _ ho, hd⟩
  ·exact ⟨_, q⟩
 ·rcases qCn (X := X) h with ⟨q, _⟩ | ⟨_, q⟩
  ·exact I.freeC x c q
  ·exact I.hok.fresh (jAk (jCg hC q))
 ·have hp' : p ∈ X.pn ++ pins := by
   have q : p ∈ (X.pn ++ pins) ++ [] := hp
   rwa [jBh] at q
  obtain ⟨e, n, ne, nf, d⟩ := I.pin p hp'
  refine ⟨hk _ _ e, n, jAf (jAd (jAc e) hC), fun z => ?_, d⟩
  rcases jAo.mp (I.stkSub p.1 z) with y | y
  ·exact ne y
  ·exact nf y
 ·show _ = N'.length
  rw [jBu, jBv, I.len, hlen]
end
section
variable {prog : Program} {w : World} {A : Around} {R : Result -> Shared -> Prop} {s : Shared}
theorem compLoop_any {elt target iter : Expr} {scope : Scope} {pos : Pos} {it acc : Value} {env : Env} (I : Nat -> Shared -> Prop)
  (turn : ∀ n s, I n s -> wpAny (model prog w) A (pyNext it) (fun r s₁ => match r with
   | none => R (.ok .next) s₁
   | some v => wpAny (model prog w) A (letOwnedTupleGo target it v) (fun _ s₂ => wpAny (model prog w) A (assign target env v) (fun _ s₃ => wpAny (model prog w) A (eval elt env) (fun x s₄ =>
     wpAny (model prog w) A (call (.builtin "list.append") [acc, x]) (fun _ s₅ => ∃ m, m < n /\ I m s₅) (fun _ _ => False) s₄) (fun _ _ => False) s₃) (fun _ _ => False) s₂) (fun _ _ => False) s₁) (fun _ _ => False) s)
  (n : Nat) (h : I n s) :
  codeAny (model prog w) A (.compLoop (.ListComp elt [⟨target, iter, [], 0⟩] scope pos) 0 it acc env) R s := by
 refine codeAny_loop rfl I (fun n s hI => ?_) n h
 show wpAny _ _ ((compTurn (.ListComp elt [⟨target, iter, [], 0⟩] scope pos) 0 it acc env).onRaise (fun x => do noteFrame x env; theTreesLotGoes x)) _ _ s
 refine wpAny_noted ?_
 rw [compTurn_list1]
 refine wpAny_bind (wpAny_standAt (wpAny_bind (wpAny_mono (turn n s hI) (fun r s₁ h₁ => ?_) fun _ _ h' => h'.elim)))
 cases r with
 | none => exact wpAny_pure h₁
 | some v =>
  refine wpAny_bind (wpAny_mono h₁ (fun _ s₂ h₂ => ?_) fun _ _ h' => h'.elim)
  exact wpAny_bind (wpAny_mono h₂ (fun _ s₂ h₂ => wpAny_bind (wpAny_bind (wpAny_mono h₂ (fun x s₃ h₃ => wpAny_bind (wpAny_mono h₃
   (fun _ s₄ h₄ => wpAny_pure (wpAny_pure ⟨rfl, h₄⟩)) fun _ _ h' => h'.elim)) fun _ _ h' => h'.elim))) fun _ _ h' => h'.elim)
end
def tComp (wi : TI) (g : TG) (te : TE) (k : Nat) : TE := fun σ H Q => wi σ H fun J H1 => ∃ W : Nat -> Nat -> List V -> L2.St -> Hp -> Prop, (∃ n, W 0 n [] (σ ++ jBk k none) H1) /\ ∀ i n vs σ H, W i n vs σ H ->
 (J.stop i H /\ ∀ p, H p = none -> Q (.ref p) (upd H p (.lst vs))) \/ (J.go i H /\ vs.length < sizeLine /\ ∀ x H', J.yld i H x H' -> g x σ H' fun σ2 H2 => te σ2 H2 fun v H3 => ∃ n', n' < n /\ W (i + 1) n' (vs ++ [v]) σ2 H3)
section
variable {X : Cx} {N' : List Str} {scope : Scope}
theorem Inv.adopt {pins : List (Addr × Obj)} {σ : L2.St} {H : Hp} {s : Shared} {a : Addr} {vs : List V} {its : List Value} {n : Nat} (I : Inv X pins σ H s) (f : FpOk X pins H a) (e : s.heap.get? a = some { cls := .type "list", data := .seq its.toArray n }) (rv : Vals vs its) (hz : vs.length <= sizeLine) :
  Inv X pins σ (upd H a (.lst vs)) s := by
 have hn := f.1
 have ne : ∀ b u, H b = some u -> b ≠ a := fun b u q => qAl q hn
 have J := I.step (h' := s.heap) (H' := upd H a (.lst vs)) (g' := s.gens) (t' := s.toks) (d' := s.drawn) (ch := [a]) (fun b hb => by
   have z : b = a := by simpa using hb
   subst z
   exact ⟨f.2.2.2.1, f.2.1, f.2.2.2.2.1, f.2.2.2.2.2⟩) (fun b o _ _ _ q _ => q) (fun b o _ _ _ q _ => ⟨o.slots, q⟩) (fun b o hc _ q => by rw [zO (by simpa using hc)]; exact q) (fun b o _ q => ⟨o, q⟩)
  (fun b xs q => by rw [zO (ne b _ q)]; exact q) (fun b o u q => by rw [zO (ne b _ q)]; exact q) (fun b ps q => ⟨#[], by rw [zO (ne b _ q), q]; simp⟩) (fun m hm => hm) (fun b u q => ?_) I.bare
 ·exact J
 ·by_cases hb : b = a
  ·subst hb
   rw [zX] at q
   cases q
   exact ⟨hz, its, n, rv, e⟩
  ·rw [zO hb] at q
   exact (I.hok b u q).stay (fun c v _ z => z) (fun c z => by rw [zO (ne c _ z)]; exact z) fun c xs z => by rw [zO (ne c _ z)]; exact z
end
section
variable {X : Cx} {N' : List Str} {scope : Scope}
theorem comp_run {elt iter tg : Expr} {pos : Pos} {wi : TI} {g : TG} {te : TE} {k : Nat} (O : qBp X.N X.env.scope N' scope) (hlen : X.N.length + k = N'.length) (hcal : X.calm = true) (hi : PI X tg iter wi)
  (hg : ∀ C s₃ H₃ ex pn, PG (qAa X N' scope C s₃ H₃ ex pn) tg g) (he : ∀ C s₃ H₃ ex pn, PE (qAa X N' scope C s₃ H₃ ex pn) elt te)
  {use : Option (Value -> Sem Unit)} {Qf : Value -> Shared -> Prop} {pins : List (Addr × Obj)} {s : Shared} {σ : L2.St} {H : Hp} {Q : VK} (I : Inv X pins σ H s) (h : tComp wi g te k σ H Q)
  (fin : ∀ (C acc : Addr) (H' : Hp) (s' : Shared) (m : Str -> Option Value), Inv X pins σ H' s' -> s'.heap.Ns C m -> FpOk X pins H' C -> Q (.ref acc) H' -> compPost (model X.prog X.w) X.A X.xe use Qf (.ref acc) C (.ok .next) s')
  (hs : ∀ x, foldedSetIterable iter X.env x = pure x := by intro _; rfl) :
  wpAny (model X.prog X.w) X.A (comprehension (.ListComp elt [⟨tg, iter, [], 0⟩] scope pos) scope X.env (firstIterPos [⟨tg, iter, [], 0⟩] pos) (newList []) false (eval iter X.env) use) Qf X.xe s := by
 have hclos : closureFor scope X.env = pure (clOf scope.names X.env.cells []) := qC5 fun y hy hf => I.ok.has y.1 (O.free y hy hf).2
 refine wpAny_comprehension_free (use := use) rfl hs hclos O.kind O.names (thn (hi pins s σ H _ I h) fun xv s1 h1 => thn h1 fun itv s2 h2 => ?_)
 obtain ⟨it, fp, tn, J, H2, rfl, I2, T, st2, f2, hW⟩ := h2
 refine wpAny_newObj_type (qDz fun h₁ hns₁ hk₁ hce₁ => ?_)
 have hfp2 : ∀ b ∈ fp, b < s2.heap.objs.size := fun b hb => by
  obtain ⟨o, e, _⟩ := T.obj 0 _ st2 b hb
  exact jAc e
 have hpn : H2 s2.heap.objs.size = none := I2.hok.fresh (jAx _)
 have I3 : Inv X pins σ H2 { s2 with heap := s2.heap.push { cls := .type "list", data := .seq ([] : List Value).toArray } } := I2.kept (t' := s2.toks) fun b o e => jAu _ e
 have facc : FpOk X pins H2 s2.heap.objs.size := I2.fpOk (jAx _) hpn
 have gacc : (s2.heap.push { cls := .type "list", data := .seq ([] : List Value).toArray }).get? s2.heap.objs.size = some { cls := .type "list", data := .seq ([] : List Value).toArray } := jAw _ rfl
 obtain ⟨W, ⟨n0, w0⟩, turn⟩ := hW
 generalize hs3 : ({ s2 with heap := s2.heap.push { cls := .type "list", data := .seq ([] : List Value).toArray } } : Shared) = s3 at I3
 have hh3 : s3.heap = s2.heap.push { cls := .type "list", data := .seq ([] : List Value).toArray } := by rw [<- hs3]
 rw [<- hh3] at gacc
 have z3 : s3.heap.objs.size = s2.heap.objs.size + 1 := by rw [hh3, jBe]
 generalize hacc : s2.heap.objs.size = acc at *
 have f3 : ∀ b ∈ acc :: fp, FpOk X pins H2 b := fun b hb => by
  rcases jAo.mp hb with e | hb
  ·rw [e]; exact facc
  ·exact f2 b hb
 have hfp3 : ∀ b ∈ acc :: fp, b < s3.heap.objs.size := fun b hb => by
  rw [z3]
  rcases jAo.mp hb with e | hb
  ·rw [e]; exact jBf _
  ·exact jCf (hfp2 b hb)
 have hk4 : ∀ b o, s3.heap.get? b = some o -> h₁.get? b = some o := fun b o e => hk₁ b o (by rw [hh3] at e; exact e)
 have hCe : (s2.heap.push { cls := .type "list", dict := none, data := .seq ([] : List Value).toArray }).objs.size = s3.heap.objs.size := by rw [hh3]
 generalize hC : (s2.heap.push { cls := .type "list", dict := none, data := .seq ([] : List Value).toArray }).objs.size = C at *
 have st3 : tn 0 h₁ := T.keep 0 _ _ st2 fun b hb o e => hk4 b o (by rw [hh3]; exact jAu _ e)
 have okx := comp_ok (fp := acc :: fp) O I3 (show s3.heap.objs.size <= C by rw [hCe]; exact jAx _) f3 hfp3
 have pinOk : ∀ {H' : Hp} {its : List Value} {kk : Nat} {h' : Heap}, H' acc = none -> h'.get? acc = some { cls := .type "list", data := .seq its.toArray kk } -> ∀ p ∈ [(acc, ({ cls := .type "list", data := .seq its.toArray kk } : Obj))], h'.get? p.1 = some p.2 /\ H' p.1 = none /\ p.1 ≠ (qAa X N' scope C s3 H2 (acc :: fp) (X.pn ++ pins)).env.locals /\ p.1 ∉ (qAa X N' scope C s3 H2 (acc :: fp) (X.pn ++ pins)).fs /\ ∀ v, p.2.data ≠ .cell v := fun {H' its kk h'} hn e p hp => by
  have z : p = (acc, ({ cls := .type "list", data := .seq its.toArray kk } : Obj)) := by simpa using hp
  subst z
  exact ⟨e, hn, (okx.exf acc (.head _)).1, okx.exfs acc (.head _), fun v q => by cases q⟩
 have I4 : Inv (qAa X N' scope C s3 H2 (acc :: fp) (X.pn ++ pins)) [] (σ ++ jBk k none) H2 { s3 with heap := h₁ } :=
  inv_comp O I3 (by rw [hCe]; exact jAx _) f3 hfp3 ⟨h₁, _, rfl⟩ hk4 hns₁ hce₁ hlen
 have I4' : Inv (qAa X N' scope C s3 H2 (acc :: fp) (X.pn ++ pins)) [(acc, { cls := .type "list", data := .seq ([] : List Value).toArray 0 })] (σ ++ jBk k none) H2 { s3 with heap := h₁ } :=
  I4.pins_of (pinOk facc.1 (hk4 _ _ gacc))
 have loop : codeAny (model X.prog X.w) X.A (.compLoop (.ListComp elt [⟨tg, iter, [], 0⟩] scope pos) 0 (.ref it) (.ref acc) (compEnvC scope (cellsC scope C X.env.cells) C X.env)) (compPost (model X.prog X.w) X.A X.xe use Qf (.ref acc) C) { s3 with heap := h₁ } := by
  have fpx : ∀ {H' : Hp} {ob : Obj}, (∀ b ∈ fp, H' b = none) -> ∀ b ∈ fp, FpOk (qAa X N' scope C s3 H2 (acc :: fp) (X.pn ++ pins)) [(acc, ob)] H' b := fun {H' ob} hn b hb => by
   have hb' : b ∈ acc :: fp := .tail _ hb
   refine ⟨hn b hb, (okx.exf b hb').1, okx.exfs b hb', .inl hb', fun x c h => (okx.exf b hb').2 x c h, fun p hp => ?_⟩
   have hp' : p ∈ (X.pn ++ pins) ++ [(acc, ob)] := hp
   rcases jAp.mp hp' with z | z
   ·exact (f3 b hb').2.2.2.2.2 p z
   ·have e : p = (acc, ob) := by simpa using z
    rw [e]
    exact jAv (hfp2 b hb)
  refine compLoop_any (fun n s' => ∃ i vs its kk σ' H', Inv (qAa X N' scope C s3 H2 (acc :: fp) (X.pn ++ pins)) [(acc, { cls := .type "list", data := .seq its.toArray kk })] σ' H' s' /\ Vals vs its /\ vs.length <= sizeLine /\ tn i s'.heap /\ (∀ b ∈ fp, H' b = none) /\ W i n vs σ' H') ?_ n0 ⟨0, [], [], 0, _, _, I4', .nil, jBg _, st3, fun b hb => (f2 b hb).1, w0⟩
  rintro n s5 ⟨i, vs, its, kk, σ5, H5, I5, rv, hz, st5, fr5, w5⟩
  rcases turn i n vs σ5 H5 w5 with ⟨stop, qn⟩ | ⟨go, hlt, step⟩
  ·refine thn (T.done (qAa X N' scope C s3 H2 (acc :: fp) (X.pn ++ pins)) rfl rfl rfl hcal i _ s5 σ5 H5 _ I5 (fpx fr5) st5 stop) fun r s6 ⟨hr, I6⟩ => ?_
   subst hr
   have back : Inv X pins σ H5 s6 := by
    have e : s6.os = s3.os := I6.os
    refine I3.call' e (ch := acc :: fp) I6.base I6.hok I6.bare fun b hb => ?_
    obtain ⟨a1, a2, a3, a4, a5, a6⟩ := f3 b hb
    exact ⟨a4, a2, a5, a6⟩
   obtain ⟨m6, hn6, _⟩ := I6.loc
   have hn6' : s6.heap.Ns C m6 := hn6
   obtain ⟨e6, n6, _⟩ := I6.pin (acc, { cls := .type "list", data := .seq its.toArray kk }) (jAy _ (.head _))
   have fa : FpOk X pins H5 acc := ⟨n6, facc.2⟩
   have hCa : C ≠ acc := jAv (by rw [hCe]; exact hfp3 acc (.head _))
   refine fin C acc _ s6 m6 (Inv.adopt back fa e6 rv hz) hn6' ?_ (qn acc n6)
   exact I3.fpOk (by rw [hCe]; exact jAx _) (by rw [zO hCa]; exact I6.free)
  ·refine thn (T.item (qAa X N' scope C s3 H2 (acc :: fp) (X.pn ++ pins)) rfl rfl rfl hcal i _ s5 σ5 H5 _ I5 (fpx fr5) st5 go) fun r s6 ⟨u, hr, h6⟩ => ?_
   subst hr
   refine thn h6 fun _ s7 ⟨x, H7, I7, r7, y7, st7, fr7⟩ => ?_
   have I7' := I7.pinned (fpx fr7) (T.obj _ _ st7)
   refine thn (hg _ _ _ _ _ _ s7 σ5 H7 x u _ I7' r7 (step x H7 y7)) fun _ s8 ⟨σ8, H8, I8, q8⟩ => ?_
   refine thn (he _ _ _ _ _ _ s8 σ8 H8 _ I8 q8) fun xv s9 ⟨v, H9, I9, r9, q9⟩ => ?_
   obtain ⟨n', hn', w9⟩ := q9
   obtain ⟨e9, n9, l9, f9, _⟩ := I9.pin (acc, { cls := .type "list", data := .seq its.toArray kk }) (jAy _ (jAq _ (.head _)))
   have hlen9 := rv.length
   refine call_meets F.slot_list_append ⟨_, e9, rfl⟩ F.entry_list_append (F.args_list_append_2 _ _) (PySem.list_append acc its.toArray kk xv (by rw [jBy]; omega)) ⟨e9, ?_⟩
   have q10 := PySem.IsL.update e9 (fun xs => xs.push xv)
   have ea : (its.toArray.push xv) = (its ++ [xv]).toArray := by simp
   rw [ea] at q10
   have I9' := I9.pins_of (pins' := qCb fp s7.heap) fun p hp => I9.pin p (jAy _ (jAy _ hp))
   have I10 : Inv (qAa X N' scope C s3 H2 (acc :: fp) (X.pn ++ pins)) (qCb fp s7.heap) σ8 H9 { s9 with heap := s9.heap.update acc (Obj.mapSeq fun xs => xs.push xv) } :=
    I9'.turned (t' := s9.toks) (it := acc) (fun b o hb e => (jBz s9.heap _ (Ne.symm hb)).trans e) n9 (okx.exf acc (.head _)).1 (.inl (.head _)) (fun x c h => (okx.exf acc (.head _)).2 x c h) fun p hp => by
     have hp' : p ∈ (X.pn ++ pins) ++ qCb fp s7.heap := hp
     rcases jAp.mp hp' with z | z
     ·exact facc.2.2.2.2.2 p z
     ·exact jAf (hfp2 p.1 (qDy z).1)
   refine ⟨n', hn', i + 1, vs ++ [v], its ++ [xv], _, σ8, H9, I10.pins_of (pinOk n9 q10), rv.append (.cons r9 .nil), by rw [jBu, jB3]; omega, T.keep _ _ _ st7 fun b hb o eo => (I10.pin (b, o) (jAy _ (qA6 hb eo))).1, fun b hb => ?_, w9⟩
   obtain ⟨o, eo, d⟩ := T.obj _ _ st7 b hb
   exact (I10.pin (b, o) (jAy _ (qA6 hb eo))).2.1
 have whole := codeAny_compStart_list loop (T.self _ 0 _ _ _ st3 loop)
 subst hCe
 exact whole
end
section
variable {X : Cx} {N' : List Str} {scope : Scope}
theorem pe_comp {elt iter tg : Expr} {pos : Pos} {wi : TI} {g : TG} {te : TE} (k : Nat) (O : qBp X.N X.env.scope N' scope) (hcal : X.calm = true) (hi : PI X tg iter wi)
  (hg : ∀ C s₃ H₃ ex pn, PG (qAa X N' scope C s₃ H₃ ex pn) tg g) (he : ∀ C s₃ H₃ ex pn, PE (qAa X N' scope C s₃ H₃ ex pn) elt te)
  (hlen : X.N.length + k = N'.length := by rfl) (hs : ∀ x, foldedSetIterable iter X.env x = pure x := by intro _; rfl) : PE X (.ListComp elt [⟨tg, iter, [], 0⟩] scope pos) (tComp wi g te k) := by
 intro pins s σ H Q I h
 rw [eval_ListComp]
 exact comp_run (use := none) O hlen hcal hi hg he I h (fun C acc H' s' m J hn f q => ⟨m, hn, fun h' hs' => ⟨.ref acc, H', J.turned (t' := s'.toks) (fun b o hb e => (hs'.2 b hb).trans e) f.1 f.2.1 f.2.2.2.1 f.2.2.2.2.1 f.2.2.2.2.2, rfl, q⟩⟩) hs
theorem ps_setComp {elt iter tg : Expr} {pos spos py : Pos} {y : Str} {j : Nat} {wi : TI} {g : TG} {te : TE} (k : Nat) (O : qBp X.N X.env.scope N' scope) (hcal : X.calm = true) (hi : PI X tg iter wi)
  (hg : ∀ C s₃ H₃ ex pn, PG (qAa X N' scope C s₃ H₃ ex pn) tg g) (he : ∀ C s₃ H₃ ex pn, PE (qAa X N' scope C s₃ H₃ ex pn) elt te)
  (hN : X.N.Nodup) (hj : X.N[j]? = some y) (hy : X.env.scope.names.lookup y = some .local) (hsw : swapsWith (.ListComp elt [⟨tg, iter, [], 0⟩] scope pos) (some (.Name y py)) spos.line X.env = pure true)
  (hlen : X.N.length + k = N'.length := by rfl) (hs : ∀ x, foldedSetIterable iter X.env x = pure x := by intro _; rfl) : PS X (.Assign [.Name y py] (.ListComp elt [⟨tg, iter, [], 0⟩] scope pos) spos) (tAsg (tComp wi g te k) (gName j)) := by
 intro pins s σ H D I h
 rw [exec_Assign_Name_used _ _ _ _ hsw]
 refine wpAny_bind (wpAny_standAt (wpAny_bind ?_))
 show wpAny _ X.A (do let _ <- comprehension (.ListComp elt [⟨tg, iter, [], 0⟩] scope pos) scope X.env _ (newList []) false (eval iter X.env) (some (assign (.Name y py) X.env))) _ _ s
 refine wpAny_bind (wpAny_mono (comp_run (use := some (assign (.Name y py) X.env)) (Qf := fun _ s' => SP X pins D .next s') O hlen hcal hi hg he I h (fun C acc H' s' m J hn f q => ?_) hs) (fun _ s' hq => wpAny_pure (wpAny_pure hq)) fun _ _ e => e)
 show wpAny _ X.A (assign (.Name y py) X.env (.ref acc)) _ _ _
 refine wpAny_assign_Name ?_
 refine qDt J hN hj (.inl hy) (v := .ref acc) rfl (fun s2 J2 ⟨a, hsb, ha⟩ => ?_) (.inr hy)
 have haC : C ≠ a := by
  rcases ha with z | z
  ·rw [z]; exact f.2.1
  ·exact fun e => f.2.2.2.2.1 _ _ z e.symm
 exact ⟨m, hn.sameBut hsb haC, fun h' hs' => ⟨σ.set j (some (.ref acc)), H', J2.turned (t' := s2.toks) (fun b o hb e => (hs'.2 b hb).trans e) f.1 f.2.1 f.2.2.2.1 f.2.2.2.2.1 f.2.2.2.2.2, q⟩⟩
end
end Np
end
section
namespace Np
open PySem PySem.Spec PyProof.Rows L2
theorem RepS.more {G : Gx} {H : Hp} {W : Wd} {δ : DS} {σ : L2.St} (h : RepS G H W δ σ) (k : Nat) : RepS G H W (δ ++ jBk k none) (σ ++ jBk k none) := by
 refine ⟨by simp [h.1], fun i d e => ?_⟩
 by_cases hi : i < δ.length
 ·rw [jBr hi] at e
  obtain ⟨v, e1, r⟩ := h.2 i d e
  exact ⟨v, by rw [jBr (h.1 ▸ hi)]; exact e1, r⟩
 ·rw [jBp (by omega), jBq] at e
  split at e <;> cases e
theorem compD_cases {src : Src} {g : DG} {e : DE} {n i : Nat} {δ : DS} {S : Sto} {r : Rs (List D)} (h : qC4 src g e n i δ S = some r) :
  (src.get S i = some none /\ r = .ok [] S) \/ ∃ x m, n = m + 1 /\ src.get S i = some (some x) /\ bnd (g x δ S) (compK e (qC4 src g e m (i + 1))) = some r := by
 cases n with
 | zero =>
  unfold qC4 at h
  split at h
  ·rename_i e
   exact .inl ⟨e, (Option.some.inj h).symm⟩
  ·cases h
 | succ n =>
  unfold qC4 at h
  split at h
  ·rename_i e
   exact .inl ⟨e, (Option.some.inj h).symm⟩
  ·rename_i x e
   exact .inr ⟨x, n, rfl, e, h⟩
  ·cases h
section
variable {X : Cx} {E : XK} {N' : List Str} {scope : Scope}
theorem tF_comp {gi : DI} {k : Nat} {g : DG} {ge : DE} : ∀ σ H Q, tF (gx X) E (qAj gi k g ge) σ H Q -> tComp (tFI (gx X) E gi) (tFG (gx X) E0 g) (tF (gx X) E0 ge) k σ H Q := by
 intro σ H Q ⟨W, δ, rr, hS, hδ, hg, hA⟩
 refine Go.thn hS hδ hg hA fun src H1 W1 s1 hδ1 hg1 hA1 J hJ => ?_
 have q' : (if src.len W1.S <= 1000000 then bnd (noer (qC4 src g ge (src.len W1.S) 0 (δ ++ jBk k none) W1.S)) lstK else none) = some rr := hg1
 split at q'
 ·rename_i hsz
  rcases qAm q' with ⟨ds, S2, e2, q2⟩ | ⟨c, S2, e2, _⟩
  ·obtain ⟨ds', S2', e3, e4⟩ := qBw e2
   cases e4
   refine ⟨fun i n vs σ2 H2 => i + n = src.len W1.S /\ ∃ W2 δ2 ds1 ds2, Nxt (gx X) H1 W1 H2 W2 /\ RepS (gx X) H2 W2 δ2 σ2 /\ ds = ds1 ++ ds2 /\ ds1.length = i /\ RepL (gx X) H2 W2 ds1 vs /\ qC4 src g ge n i δ2 W2.S = ok ds2 S2,
    ⟨src.len W1.S, by simp, W1, _, [], ds, .rfl s1.ok, hδ1.more k, rfl, rfl, rfl, e3⟩, ?_⟩
   rintro i n vs σ2 H2 ⟨hn, W2, δ2, ds1, ds2, s2, hδ2, hds, hl1, rl, hc⟩
   obtain ⟨w1, w2⟩ := hJ i H2 W2 s2
   rcases compD_cases hc with ⟨hend, hr⟩ | ⟨x, m, rfl, hx, hb⟩
   ·refine .inl ⟨w1 hend, fun p hp => ?_⟩
    cases hr
    rw [jBh] at hds
    subst hds
    exact qBq s2.ok q2 (hA1.nxt s2) rl hp
   ·obtain ⟨wg, wy⟩ := w2 x hx
    refine .inr ⟨wg, ?_, fun v H3 y => ?_⟩
    ·rw [<- rl.length, hl1]
     exact jAd (by omega) (sz hsz)
    ·obtain ⟨W3, e3', s3, rx⟩ := wy v H3 y
     rcases qAm hb with ⟨δ4, S4, e4, q4⟩ | ⟨c, S4, _, q4⟩
     ·refine ⟨W3, δ2, x, .ok δ4 S4, s3.ok, hδ2.mv (s3.mv s2.ok), rx, by rw [e3']; exact e4, fun H4 W4 eS4 s4 σ4 hδ4 => ?_⟩
      rcases qAm (show bnd (ge δ4 S4) (qEj (qC4 src g ge m (i + 1)) δ4) = some (Rs.ok ds2 S2) from q4) with ⟨d, S5, e5, q5⟩ | ⟨c, S5, _, q5⟩
      ·refine ⟨W4, δ4, .ok d S5, s4.ok, hδ4, by rw [eS4]; exact e5, fun H5 W5 eS5 s5 v' rv => ?_⟩
       rcases qAm (show bnd (qC4 src g ge m (i + 1) δ4 S5) (consK d) = some (Rs.ok ds2 S2) from q5) with ⟨ds3, S6, e6, q6⟩ | ⟨c, S6, _, q6⟩
       ·have q6' : Rs.ok (d :: ds3) S6 = Rs.ok ds2 S2 := Option.some.inj q6
        cases q6'
        refine ⟨m, jBf m, by omega, W5, δ4, ds1 ++ [d], ds3, ((s2.trans s3).trans s4).trans s5, hδ4.mv (s5.mv s4.ok), by rw [hds]; simp, by simp [hl1], ?_, by rw [eS5]; exact e6⟩
        exact (rl.mv (((s3.trans s4).trans s5).mv s2.ok)).append (RepL.one rv)
       ·cases q6
      ·cases q5
     ·cases q4
  ·obtain ⟨_, _, _, z⟩ := qBw e2
   cases z
 ·cases q'
theorem pd_comp {elt iter tg : Expr} {pos : Pos} {gi : DI} {g : DG} {ge : DE} (k : Nat) (O : qBp X.N X.env.scope N' scope) (hcal : X.calm = true) (hi : PDI X E tg iter gi)
  (hg : ∀ C s₃ H₃ ex pn, PDG (qAa X N' scope C s₃ H₃ ex pn) E0 tg g) (he : ∀ C s₃ H₃ ex pn, PDE (qAa X N' scope C s₃ H₃ ex pn) E0 elt ge)
  (hlen : X.N.length + k = N'.length := by rfl) (hs : ∀ x, foldedSetIterable iter X.env x = pure x := by intro _; rfl) : PDE X E (.ListComp elt [⟨tg, iter, [], 0⟩] scope pos) (qAj gi k g ge) := by
 first
 | exact (
  PE.imp (pe_comp (g := tFG (gx X) E0 g) (te := tF (gx X) E0 ge) k O hcal hi hg he hlen hs) tF_comp)
 | ((try unfold PDE at *); (try unfold PDG at *); (try unfold PDI at *); exact (
  PE.imp (pe_comp (g := tFG (gx X) E0 g) (te := tF (gx X) E0 ge) k O hcal hi hg he hlen hs) tF_comp))
theorem qEu (j : Nat) {elt iter tg : Expr} {pos spos py : Pos} {y : Str} {gi : DI} {g : DG} {ge : DE} (k : Nat) (O : qBp X.N X.env.scope N' scope) (hcal : X.calm = true) (hi : PDI X E tg iter gi)
  (hg : ∀ C s₃ H₃ ex pn, PDG (qAa X N' scope C s₃ H₃ ex pn) E0 tg g) (he : ∀ C s₃ H₃ ex pn, PDE (qAa X N' scope C s₃ H₃ ex pn) E0 elt ge)
  (hN : X.N.Nodup) (hj : X.N[j]? = some y := by rfl) (hy : X.env.scope.names.lookup y = some .local := by rfl) (hsw : swapsWith (.ListComp elt [⟨tg, iter, [], 0⟩] scope pos) (some (.Name y py)) spos.line X.env = pure true := by rfl)
  (hlen : X.N.length + k = N'.length := by rfl) (hs : ∀ x, foldedSetIterable iter X.env x = pure x := by intro _; rfl) : PDS X E (.Assign [.Name y py] (.ListComp elt [⟨tg, iter, [], 0⟩] scope pos) spos) (setS j (qAj gi k g ge)) := by
 try unfold PDE at *
 try unfold PDS at *
 try unfold PDG at *
 try unfold PDI at *
 refine PS.imp (ps_setComp (g := tFG (gx X) E0 g) (te := tF (gx X) E0 ge) k O hcal hi hg he hN hj hy hsw hlen hs) fun D σ H ⟨W, δ, rr, hS, hδ, hg', hA⟩ => ?_
 refine tF_comp σ H _ (Go.thn hS hδ hg' hA fun d H1 W1 s1 hδ1 hg1 hA1 v rv => ?_)
 obtain rfl : Rs.ok (Fl.nx (δ.set j (some d))) W1.S = rr := Option.some.inj hg1
 exact hA1.now s1.ok _ (hδ1.set j rv)
end
def Itz (K : PySem.W.Frag) (a b : Addr) : It :=
  ⟨fun i H => ∃ xs ys x y, SqL K H a xs /\ SqL K H b ys /\ xs[i]? = some x /\ ys[i]? = some y,
   fun i H v H' => ∃ p x y, v = .ref p /\ H p = none /\ H' = upd H p (.tup [x, y]) /\ (∀ xs, SqL K H a xs -> xs[i]? = some x) /\ ∀ ys, SqL K H b ys -> ys[i]? = some y,
   fun i H => ∃ xs ys, SqL K H a xs /\ SqL K H b ys /\ (xs.length <= i \/ ys.length <= i)⟩
theorem Inv.moved {X : Cx} {pins : List (Addr × Obj)} {σ : L2.St} {H : Hp} {s : Shared} {h' : Heap} {t' : Nat} {ch : List Addr} {p : Addr} {o : HO} (I : Inv X pins σ H s) (hch : ∀ b ∈ ch, FpOk X pins H b) (k : ∀ b u, b ∉ ch -> s.heap.get? b = some u -> h'.get? b = some u) (hp : s.heap.objs.size <= p)
  (new : qBz X.prog X.w (upd H p o) h' p o) : Inv X pins σ (upd H p o) { s with heap := h', toks := t' } := by
 have hn : H p = none := I.hok.fresh hp
 have nch : ∀ b u, H b = some u -> b ∉ ch := fun b u e z => by rw [(hch b z).1] at e; cases e
 have ne : ∀ b u, H b = some u -> b ≠ p := fun b u q => qAl q hn
 refine I.step (g' := s.gens) (d' := s.drawn) (ch := ch) (fun b hb => ⟨(hch b hb).2.2.2.1, (hch b hb).2.1, (hch b hb).2.2.2.2.1, (hch b hb).2.2.2.2.2⟩) (fun b u _ _ hc e _ => k b u hc e) (fun b u _ _ hc e _ => ⟨u.slots, k b u hc e⟩)
  (fun b u hc e n => by rw [zO (jAf (jAd (jAc e) hp))]; exact n) (fun b u hc e => ⟨u, k b u hc e⟩)
  (fun b xs q => by rw [zO (ne b _ q)]; exact q) (fun b u v q => by rw [zO (ne b _ q)]; exact q) (fun b ps q => ⟨#[], by rw [zO (ne b _ q), q]; simp⟩) (fun m hm => ?_) (fun b u q => ?_) I.bare
 ·obtain ⟨ob, es, ep, ho, r⟩ := hm
  refine ⟨ob, es, ep, k _ ob (fun z => (hch _ z).2.1 rfl) ho, r⟩
 ·by_cases hb : b = p
  ·subst hb
   rw [zX] at q
   cases q
   exact new
  ·rw [zO hb] at q
   refine (I.hok b u q).stay (fun c v hc z => k c v ?_ z) (fun c z => by rw [zO (ne c _ z)]; exact z) fun c xs z => by rw [zO (ne c _ z)]; exact z
   rcases hc with rfl | hc
   ·exact nch _ _ q
   ·exact nch _ _ hc
theorem turn_zip {P : Program} {w : World} {K : PySem.W.Frag} {elts : List Expr} {x1 : Nat} {tpos : Pos} {z TI TO i1 i2 l1 l2 : Addr} (D : ZipApart z TI TO i1 i2 l1 l2) :
  Turn P w K (.Tuple elts x1 tpos) (Itz K l1 l2) [z, TI, TO, i1, i2] z (fun i h => IsZip h z TI TO .none /\ IsPair h TI (.ref i1) (.ref i2) /\ (∃ a b, IsPair h TO a b) /\ h.IsListIter i1 l1 i /\ h.IsListIter i2 l2 i) where
 mem := by simp
 obj := fun i h st b hb => by
  obtain ⟨hz, hTI, ⟨u, v, hTO⟩, h1, h2⟩ := st
  simp only [jAo, jCi, or_false] at hb
  rcases hb with rfl | rfl | rfl | rfl | rfl
  ·exact ⟨_, hz, fun v q => by cases q⟩
  ·exact ⟨_, hTI, fun v q => by cases q⟩
  ·exact ⟨_, hTO, fun v q => by cases q⟩
  ·obtain ⟨o, e, c, d⟩ := h1
   exact ⟨o, e, fun v q => by rw [d] at q; cases q⟩
  ·obtain ⟨o, e, c, d⟩ := h2
   exact ⟨o, e, fun v q => by rw [d] at q; cases q⟩
 keep := fun i h h' st k => by
  obtain ⟨hz, hTI, ⟨u, v, hTO⟩, h1, h2⟩ := st
  exact ⟨k z (by simp) _ hz, k TI (by simp) _ hTI, ⟨u, v, k TO (by simp) _ hTO⟩, h1.at fun o e => k i1 (by simp) o e, h2.at fun o e => k i2 (by simp) o e⟩
 item := by
  intro X hP hw hK hc i pins s σ H E I hf st hg
  subst hP hw hK
  obtain ⟨hz, hTI, ⟨u, v, hTO⟩, h1, h2⟩ := st
  obtain ⟨xs, ys, x, y, hqx, hqy, hx, hy⟩ := hg
  obtain ⟨its, rx, px, zx⟩ := I.list hqx
  obtain ⟨jts, ry, py, zy⟩ := I.list hqy
  obtain ⟨ux, hux, rux⟩ := rx.get hx
  obtain ⟨uy, huy, ruy⟩ := ry.get hy
  refine wpAny_pyNext_zip_item D hz hTI hTO h1 h2 px.isList py.isList (x := ux) (y := uy) (by simpa using hux) (by simpa using huy) fun h' a1 a2 a3 a4 a5 a6 hk => ?_
  refine ⟨_, rfl, wpAny_letOwnedTupleGo_zip a1 fun h'' hz' hs' => ?_⟩
  have hTn : s.heap.objs.size ≠ z := jAv (jAc hz)
  have kk : ∀ b o, b ∉ [z, TI, TO, i1, i2] -> s.heap.get? b = some o -> h''.get? b = some o := fun b o hb e => by
   simp only [jAo, jCi, or_false, not_or] at hb
   exact hs'.extBut _ _ hb.1 (hk b o hb.1 hb.2.2.1 hb.2.2.2.1 hb.2.2.2.2 e)
  have hp5 : IsPair h'' s.heap.objs.size ux uy := hs'.extBut _ _ hTn a5
  have new : qBz X.prog X.w (upd H s.heap.objs.size (.tup [x, y])) h'' s.heap.objs.size (.tup [x, y]) := ⟨by show 2 <= sizeLine; decide, [ux, uy], .cons rux (.cons ruy .nil), ⟨_, hp5, rfl, _, rfl⟩⟩
  have I5 := Inv.moved (s := s) (h' := h'') (t' := s.toks) I hf kk (jAx _) new
  refine ⟨.ref s.heap.objs.size, upd H s.heap.objs.size (.tup [x, y]), I5, rfl, ⟨s.heap.objs.size, x, y, rfl, I.hok.fresh (jAx _), rfl, fun ws hws => by rw [I.list_inj hws hqx]; exact hx, fun ws hws => by rw [I.list_inj hws hqy]; exact hy⟩, ?_, fun b hb => ?_⟩
  ·exact ⟨hz', hs'.extBut _ _ D.TIz (hk _ _ D.TIz D.TITO D.TIi1 D.TIi2 hTI), ⟨_, _, hs'.extBut _ _ D.TOz a2⟩, a3.extBut hs'.extBut D.i1z, a4.extBut hs'.extBut D.i2z⟩
  ·have hlt : b < s.heap.objs.size := by
    simp only [jAo, jCi, or_false] at hb
    rcases hb with rfl | rfl | rfl | rfl | rfl
    ·exact jAc hz
    ·exact jAc hTI
    ·exact jAc hTO
    ·obtain ⟨o, e, _⟩ := h1; exact jAc e
    ·obtain ⟨o, e, _⟩ := h2; exact jAc e
   rw [zO (jAf hlt)]
   exact (hf b hb).1
 done := by
  intro X hP hw hK hc i pins s σ H E I hf st hg
  subst hP hw hK
  obtain ⟨hz, hTI, ⟨u, v, hTO⟩, h1, h2⟩ := st
  obtain ⟨xs, ys, hqx, hqy, hend⟩ := hg
  obtain ⟨its, rx, px, zx⟩ := I.list hqx
  obtain ⟨jts, ry, py, zy⟩ := I.list hqy
  have lx := rx.length
  have ly := ry.length
  refine wpAny_pyNext_zip_end (I.ok.hd hc) D hz hTI hTO h1 h2 px.isList py.isList (by
   rcases hend with z | z
   ·exact .inl (by simp; omega)
   ·exact .inr (by simp; omega)) fun h' hk => ⟨rfl, ?_⟩
  have nch : ∀ b u, H b = some u -> b ∉ [z, TI, TO, i1, i2] := fun b u e zz => by rw [(hf b zz).1] at e; cases e
  have kk : ∀ b o, b ∉ [z, TI, TO, i1, i2] -> s.heap.get? b = some o -> h'.get? b = some o := fun b o hb e => by
   simp only [jAo, jCi, or_false, not_or] at hb
   exact hk b o hb.1 hb.2.2.1 hb.2.2.2.1 hb.2.2.2.2 e
  refine I.step (g' := s.gens) (d' := s.drawn) (t' := s.toks) (ch := [z, TI, TO, i1, i2]) (fun b hb => ⟨(hf b hb).2.2.2.1, (hf b hb).2.1, (hf b hb).2.2.2.2.1, (hf b hb).2.2.2.2.2⟩) (fun b u _ _ hc e _ => kk b u hc e) (fun b u _ _ hc e _ => ⟨u.slots, kk b u hc e⟩)
   (fun _ _ _ _ n => n) (fun b u hc e => ⟨u, kk b u hc e⟩) (fun _ _ q => q) (fun _ _ _ q => q) (fun b ps q => ⟨#[], by rw [q]; simp⟩) (fun m hm => ?_) (fun b u q => ?_) I.bare
  ·obtain ⟨ob, es, ep, ho, r⟩ := hm
   exact ⟨ob, es, ep, kk _ ob (fun z => (hf _ z).2.1 rfl) ho, r⟩
  ·refine (I.hok b u q).stay (fun c v hc zz => kk c v ?_ zz) (fun c zz => zz) fun c xs zz => zz
   rcases hc with rfl | hc
   ·exact nch _ _ q
   ·exact nch _ _ hc
 self := fun _ _ _ _ _ st h => wpAny_pyIter_zip st.1 h
section
variable {X : Cx} {E : XK}
def iZip (K : PySem.W.Frag) (ta : TA) : TI := fun σ H R => ta σ H fun vs H1 => ∃ a b, vs = [.ref a, .ref b] /\ (∃ xs, SqL K H1 a xs) /\ (∃ ys, SqL K H1 b ys) /\ R (Itz K a b) H1
theorem boot_zip : bootBuiltins "zip" = some (.type "zip") := by decide +kernel
theorem pi_zip {a b : Expr} {ta : TA} {p pos tpos : Pos} {elts : List Expr} {x1 : Nat} (hg : Gl X "zip") (hm : X.mg "zip" = none) (ha : PA X [a, b] ta) (hs : starEach [a, b] X.env = (false, eval a X.env) :: starEach [b] X.env) (hs2 : (backTo pos (starEach [b] X.env)).any (·.1) = false) :
  PI X (.Tuple elts x1 tpos) (.Call (.Name "zip" p) [a, b] [] pos) (iZip X.K ta) := by
 intro pins s σ H R I h
 refine Call_ (qD7 I hg hm boot_zip (PyProof.Rows.callWith_type1 (thn (ha pos pins s σ H _ I h) fun us s1 ⟨vs, H1, I1, r1, q1⟩ => ?_) hs hs2))
 obtain ⟨l1, l2, e, ⟨xs, hqx⟩, ⟨ys, hqy⟩, q⟩ := q1
 subst e
 obtain ⟨u, v, rfl, ru, rv⟩ := Vals.two r1
 cases ru
 cases rv
 obtain ⟨its, rx, px, zx⟩ := I1.list hqx
 obtain ⟨jts, ry, py, zy⟩ := I1.list hqy
 refine call_zip_2 px.isList py.isList fun h' a1 a2 a3 a4 a5 a6 hk => wpAny_pyIter_zip a1 ?_
 have I2 : Inv X pins σ H1 { s1 with heap := h' } := I1.kept (t' := s1.toks) hk
 have lt1 : l1 < s1.heap.objs.size := by obtain ⟨o, e, _⟩ := px.isList; exact jAc e
 have lt2 : l2 < s1.heap.objs.size := by obtain ⟨o, e, _⟩ := py.isList; exact jAc e
 generalize hn : s1.heap.objs.size = n at *
 have w1 : ∀ m : Nat, n <= m -> l1 ≠ m := fun m h => jAf (jAd lt1 h)
 have w2 : ∀ m : Nat, n <= m -> l2 ≠ m := fun m h => jAf (jAd lt2 h)
 have D : ZipApart (n + 4) (n + 2) (n + 3) n (n + 1) l1 l2 := by
  constructor <;> first
   | exact w1 _ (by show (_ : Nat) <= _; omega)
   | exact w2 _ (by show (_ : Nat) <= _; omega)
   | (show (_ : Nat) ≠ _; omega)
 refine ⟨n + 4, [n + 4, n + 2, n + 3, n, n + 1], _, _, H1, rfl, I2, turn_zip D, ⟨a1, a2, ⟨_, _, a3⟩, a4, a5⟩, fun b hb => ?_, q⟩
 have hb' : n <= b := by
  simp only [jAo, jCi, or_false] at hb
  rcases hb with rfl | rfl | rfl | rfl | rfl <;> (show (_ : Nat) <= _; omega)
 exact I1.fpOk (by rw [hn]; exact hb') (I1.hok.fresh (by rw [hn]; exact hb'))
theorem two_some {a b : Nat} {S : Sto} {i : Nat} {o : Option D} (h : (Src.two a b).get S i = some o) : ∃ ds es, zH S a = some ds /\ zH S b = some es /\ two1 ds[i]? es[i]? = o := by
 have h' : (match zH S a, zH S b with | some xs, some ys => some (two1 xs[i]? ys[i]?) | _, _ => none) = some o := h
 cases q : zH S a with
 | none => rw [q] at h'; cases h'
 | some ds =>
  cases q2 : zH S b with
  | none => rw [q, q2] at h'; cases h'
  | some es => rw [q, q2] at h'; exact ⟨ds, es, rfl, rfl, Option.some.inj h'⟩
theorem two1_some {x y : Option D} {d : D} (h : two1 x y = some d) : ∃ u v, x = some u /\ y = some v /\ d = .tup [u, v] := by
 cases x with
 | none => cases h
 | some u =>
  cases y with
  | none => cases h
  | some v => exact ⟨u, v, rfl, rfl, (Option.some.inj h).symm⟩
theorem two1_none {x y : Option D} (h : two1 x y = none) : x = none \/ y = none := by
 cases x with
 | none => exact .inl rfl
 | some u =>
  cases y with
  | none => exact .inr rfl
  | some v => cases h
theorem walks_zip {G : Gx} {H : Hp} {W : Wd} {a b : Nat} (ha : a < W.S.length) (hb : b < W.S.length) : Walks G (Itz G.K (W.μ a) (W.μ b)) H W (.two a b) := fun i H1 W1 s1 => by
 refine ⟨fun h => ?_, fun d hd => ?_⟩
 ·obtain ⟨ds, es, ea, eb, hn⟩ := two_some h
  obtain ⟨xs, _, qx, rx⟩ := s1.ok.lst (v := .ref (W1.μ a)) ⟨jAd ha s1.len, rfl⟩ ea
  obtain ⟨ys, _, qy, ry⟩ := s1.ok.lst (v := .ref (W1.μ b)) ⟨jAd hb s1.len, rfl⟩ eb
  rw [s1.old a ha] at qx
  rw [s1.old b hb] at qy
  refine ⟨xs, ys, .inl (.inl qx), .inl (.inl qy), ?_⟩
  rcases two1_none hn with h | h
  ·exact .inl (by rw [<- rx.length]; exact jCa.mp h)
  ·exact .inr (by rw [<- ry.length]; exact jCa.mp h)
 ·obtain ⟨ds, es, ea, eb, hn⟩ := two_some hd
  obtain ⟨xs, _, qx, rx⟩ := s1.ok.lst (v := .ref (W1.μ a)) ⟨jAd ha s1.len, rfl⟩ ea
  obtain ⟨ys, _, qy, ry⟩ := s1.ok.lst (v := .ref (W1.μ b)) ⟨jAd hb s1.len, rfl⟩ eb
  rw [s1.old a ha] at qx
  rw [s1.old b hb] at qy
  obtain ⟨u, v, hu, hv, rfl⟩ := two1_some hn
  obtain ⟨vx, ex, rvx⟩ := rx.get hu
  obtain ⟨vy, ey, rvy⟩ := ry.get hv
  refine ⟨⟨xs, ys, vx, vy, .inl (.inl qx), .inl (.inl qy), ex, ey⟩, fun z H3 hz => ?_⟩
  obtain ⟨p, x', y', rfl, hp, rfl, k1, k2⟩ := hz
  have e1 := k1 xs (.inl (.inl qx))
  have e2 := k2 ys (.inl (.inl qy))
  rw [ex] at e1
  rw [ey] at e2
  cases e1
  cases e2
  have sn := Nxt.heap s1.ok hp (HO.tup [vx, vy])
  exact ⟨W1, rfl, sn, p, _, rfl, SqT.of zX, ⟨vx, _, rfl, rvx.mv (sn.mv s1.ok), ⟨vy, _, rfl, rvy.mv (sn.mv s1.ok), rfl⟩⟩⟩
theorem pdi_zip {a b : Expr} {ga gb : DE} {p pos tpos : Pos} {elts : List Expr} {x1 : Nat} (hg : Gl X "zip") (hm : X.mg "zip" = none) (ha : PDE X E a ga) (hb : PDE X E b gb) (hs : starEach [a, b] X.env = (false, eval a X.env) :: starEach [b] X.env := by rfl) (hs2 : (backTo pos (starEach [b] X.env)).any (·.1) = false := by rfl)
  (hst2 : starEach (b :: []) X.env = (false, eval b X.env) :: starEach [] X.env := by rfl) : PDI X E (.Tuple elts x1 tpos) (.Call (.Name "zip" p) [a, b] [] pos) (itA qEo (yH ga (yH gb aNil))) := by
 try unfold PDE
 try unfold PDI at *
 intro pins s σ H R I ⟨W, δ, rr, hS, hδ, hg', hA⟩
 refine pi_zip hg hm (zB ha (zB hb zE hst2) hs).o hs hs2 pins s σ H R I (Go.thn hS hδ hg' hA fun ds H1 W1 s1 hδ1 hg1 hA1 vs rv => ?_)
 unfold qEo at hg1
 split at hg1
 ·rename_i a b
  split at hg1
  ·rename_i xs ys ea eb
   obtain rfl : Rs.ok (Src.two a b) W1.S = rr := Option.some.inj hg1
   obtain ⟨v, r, e, rx, t⟩ := rv
   obtain ⟨v2, r2, e2, ry, t2⟩ := t
   have t2 : r2 = [] := t2
   obtain ⟨us, eu, qu, _⟩ := s1.ok.lst rx ea
   obtain ⟨ws, ew, qw, _⟩ := s1.ok.lst ry eb
   subst e e2 eu ew t2
   exact ⟨_, _, rfl, ⟨us, .inl (.inl qu)⟩, ⟨ws, .inl (.inl qw)⟩, hA1.now s1.ok _ (walks_zip rx.1 ry.1)⟩
  ·cases hg1
 ·cases hg1
end
end Np
end
section
namespace Np
open PySem PySem.Spec PyProof.Rows L2
theorem put_lst {G : Gx} {H : Hp} {W : Wd} {E : XK} {Q : VK} {ds : List D} {vs : List V} {a : Nat} (hS : StOk G H W) (ha : a < W.S.length) (hA : qBm G E H W (.ok D.non (W.S.set a (.lst ds))) (VP G Q)) (rl : RepL G H W ds vs) : Q .non (upd H (W.μ a) (.lst vs)) :=
 hA _ (W.put a (.lst ds)) rfl (Nxt.write hS ha ⟨vs, zX, rl.mv (Mv.put hS ha _ _)⟩) .non rfl
section
variable {X : Cx} {E : XK} {o e e2 : Expr} {go ge ge2 : DE} {apos cpos : Pos}
theorem isL_true {x : D} {S : Sto} (h : isL x S = true) : ∃ a xs, x = .ref a /\ zH S a = some xs := by
 cases x with
 | ref a =>
  have h : (zH S a).isSome = true := h
  obtain ⟨xs, e⟩ := jBm.mp h
  exact ⟨a, xs, rfl, e⟩
 | _ => cases h
theorem tyV_list {K : PySem.W.Frag} {H : Hp} {p : Addr} {xs : List V} (h : H p = some (.lst xs)) : tyV K "list" (.ref p) H := .inl ⟨rfl, xs, .inl (.inl h)⟩
theorem tF_meth {r : V -> List V -> Hp -> VK -> Prop} {f : D -> D -> Sto -> R D} (hf : ∀ (E : XK) (H : Hp) (W : Wd) (x y : V) (dx dy : D) (Q : VK) (rr : Rs D), StOk (gx X) H W -> Rep (gx X) H W dx x -> Rep (gx X) H W dy y -> f dx dy W.S = some rr -> qBm (gx X) E H W rr (VP (gx X) Q) -> r x [y] H Q) :
  ∀ σ H Q, tF (gx X) E (opM f go ge) σ H Q -> tBM X.K "list" r (tF (gx X) E go) (tFA (gx X) E (yH ge aNil)) σ H Q := by
 intro σ H Q ⟨W, δ, rr, hS, hδ, hg, hA⟩
 refine Go.thn hS hδ hg hA fun dx H1 W1 s1 hδ1 hg1 hA1 x rx => ?_
 unfold opMK at hg1
 split at hg1
 ·rename_i hl
  obtain ⟨a, xs, rfl, el⟩ := isL_true hl
  obtain ⟨us, ex, hq, rl⟩ := s1.ok.lst rx el
  subst ex
  refine ⟨tyV_list hq, ?_⟩
  rcases qAm hg1 with ⟨dy, S2, e2, q2⟩ | ⟨c, S2, e2, q2⟩
  ·refine ⟨W1, δ, .ok [dy] S2, s1.ok, hδ1, by show bnd (ge δ W1.S) (aConsK aNil δ) = _; rw [e2]; rfl, fun H2 W2 eS s2 vs rvs => ?_⟩
   obtain ⟨y, r', rfl, ry, t⟩ := rvs
   have t : r' = [] := t
   subst t
   subst eS
   exact hf E H2 W2 _ y (.ref a) dy Q rr s2.ok (Rep.mv (s2.mv s1.ok) rx) ry q2 (hA1.nxt s2)
  ·subst q2
   exact ⟨W1, δ, .er c S2, s1.ok, hδ1, by show bnd (ge δ W1.S) (aConsK aNil δ) = _; rw [e2]; rfl, hA1⟩
 ·cases hg1
theorem md_append (E : XK) (H : Hp) (W : Wd) (x y : V) (dx dy : D) (Q : VK) (rr : Rs D) (hS : StOk (gx X) H W) (rx : Rep (gx X) H W dx x) (ry : Rep (gx X) H W dy y) (e : appD dx dy W.S = some rr) (hA : qBm (gx X) E H W rr (VP (gx X) Q)) : rAppend x [y] H Q := by
 unfold appD at e
 split at e
 ·rename_i a
  split at e
  ·rename_i xs hx
   split at e
   ·rename_i hl
    obtain rfl : Rs.ok D.non (W.S.set a (.lst (xs ++ [dy]))) = rr := Option.some.inj e
    obtain ⟨us, ex, hq, rl⟩ := hS.lst rx hx
    exact ⟨_, us, y, ex, rfl, hq, by rw [<- rl.length]; exact jAd hl (sz (jAx _)), put_lst hS rx.1 hA (rl.append (RepL.one ry))⟩
   ·cases e
  ·cases e
 ·cases e
theorem pd_append (ho : PDE X E o go) (he : PDE X E e ge) (hbase : attributeBase o "append" X.env (eval o X.env) = eval o X.env := by rfl)
  (hfew : ((backTo cpos (starEach (e :: []) X.env)).all (fun x => !x.1) && (backToKw cpos (keywordEach [] X.env)).all (fun x => x.1.isSome) && decide ((e :: []).length + ([] : List Keyword).length + (if ([] : List Keyword).isEmpty then 0 else 1) < 30)) = true := by rfl)
  (hline : (apos.endLine == cpos.line) = true := by rfl) (hs : starEach (e :: []) X.env = (false, eval e X.env) :: starEach [] X.env := by rfl) (hplain : (backTo cpos (starEach [] X.env)).any (·.1) = false := by rfl) :
  PDE X E (.Call (.Attribute o "append" apos) [e] [] cpos) (opM appD go ge) := by
 first
 | exact (
  PE.imp (pe_bm PySem.F.plainAttrs_list PySem.F.slot_list_append PySem.F.type_list_append mt_append ho.o (zB he zE hs).o hbase hfew hline hs hplain) (tF_meth md_append))
 | ((try unfold PDE); exact (
  PE.imp (pe_bm PySem.F.plainAttrs_list PySem.F.slot_list_append PySem.F.type_list_append mt_append ho.o (zB he zE hs).o hbase hfew hline hs hplain) (tF_meth md_append)))
theorem pd_clear (ho : PDE X E o go) (hbase : attributeBase o "clear" X.env (eval o X.env) = eval o X.env := by rfl) (hline : (apos.endLine == cpos.line) = true := by rfl) : PDE X E (.Call (.Attribute o "clear" apos) [] [] cpos) (op1 clearD go) := by
 try unfold PDE at *
 refine PE.imp (pe_bm0 PySem.F.plainAttrs_list PySem.F.slot_list_clear PySem.F.type_list_clear mt_clear ho hbase hline) fun σ H Q ⟨W, δ, rr, hS, hδ, hg, hA⟩ => ?_
 refine Go.thn hS hδ hg hA fun dx H1 W1 s1 hδ1 hg1 hA1 x rx => ?_
 unfold clearD at hg1
 split at hg1
 ·rename_i a
  split at hg1
  ·rename_i xs hx
   obtain rfl : Rs.ok D.non (W1.S.set a (.lst [])) = rr := Option.some.inj hg1
   obtain ⟨us, ex, hq, rl⟩ := s1.ok.lst rx hx
   subst ex
   exact ⟨tyV_list hq, _, us, rfl, rfl, hq, put_lst s1.ok rx.1 hA1 rfl⟩
  ·cases hg1
 ·cases hg1
def tFO (G : Gx) (E : XK) (g : DO) : TO := fun σ H Q => Go G E g (fun i H' _ => Q i H') σ H
@[irreducible] def PDO (X : Cx) (E : XK) (e : Option Expr) (g : DO) : Prop := PO X e (tFO (gx X) E g)
theorem PO.imp {X : Cx} {e : Option Expr} {t t' : TO} (h : PO X e t) (hi : ∀ σ H Q, t' σ H Q -> t σ H Q) : PO X e t' := fun pins s σ H Q I q => h pins s σ H Q I (hi σ H Q q)
theorem pdo_no : PDO X E none noP := by
 first
 | exact (
  PO.imp po_none fun σ H Q ⟨W, δ, rr, hS, hδ, hg, hA⟩ => by
   obtain rfl : Rs.ok none W.S = rr := Option.some.inj hg
   exact hA.now hS)
 | ((try unfold PDO at *); exact (
  PO.imp po_none fun σ H Q ⟨W, δ, rr, hS, hδ, hg, hA⟩ => by
   obtain rfl : Rs.ok none W.S = rr := Option.some.inj hg
   exact hA.now hS))
theorem pdo_at (he : PDE X E e ge) : PDO X E (some e) (atP ge) := by
 first
 | exact (
  PO.imp (po_some he) fun σ H Q ⟨W, δ, rr, hS, hδ, hg, hA⟩ => by
   refine Go.thn hS hδ hg hA fun d H1 W1 s1 hδ1 hg1 hA1 v rv => ?_
   cases d with
   | int i =>
    obtain rfl : Rs.ok (some i) W1.S = rr := Option.some.inj hg1
    exact ⟨i, rv, hA1.now s1.ok⟩
   | _ => cases hg1)
 | ((try unfold PDE at *); (try unfold PDO at *); exact (
  PO.imp (po_some he) fun σ H Q ⟨W, δ, rr, hS, hδ, hg, hA⟩ => by
   refine Go.thn hS hδ hg hA fun d H1 W1 s1 hδ1 hg1 hA1 v rv => ?_
   cases d with
   | int i =>
    obtain rfl : Rs.ok (some i) W1.S = rr := Option.some.inj hg1
    exact ⟨i, rv, hA1.now s1.ok⟩
   | _ => cases hg1))
theorem RepL.cut {G : Gx} {H : Hp} {W : Wd} {ds : List D} {vs : List V} (h : RepL G H W ds vs) (lo hi : Option Int) : RepL G H W (cutD ds lo hi) (cutV vs lo hi) := by
 have e : ∀ (n d : Nat) (o : Option Int), sIxD n d o = HT.sIx n d o := fun n d o => by cases o <;> rfl
 unfold cutD cutV
 rw [e, e, h.length]
 exact (h.drop _).take _
theorem pd_slice {lo hi : Option Expr} {gl gh : DO} {p2 pos : Pos} (he : PDE X E e ge) (hl : PDO X E lo gl) (hh : PDO X E hi gh) : PDE X E (.Subscript e (.Slice lo hi none p2) pos) (slE ge gl gh) := by
 try unfold PDE at *
 try unfold PDO at *
 refine PE.imp (pe_slice (SlR.or sl_list sl_tup) he hl hh) fun σ H Q ⟨W, δ, rr, hS, hδ, hg, hA⟩ => ?_
 refine Go.thn hS hδ hg hA fun dx H1 W1 s1 hδ1 hg1 hA1 x rx => ?_
 refine Go.thn s1.ok hδ1 hg1 hA1 fun l H2 W2 s2 hδ2 hg2 hA2 => ?_
 refine Go.thn s2.ok hδ2 hg2 hA2 fun h H3 W3 s3 hδ3 hg3 hA3 => ?_
 have rx3 := Rep.mv ((s2.trans s3).mv s1.ok) rx
 have hg3 : slD dx l h W3.S = some rr := hg3
 unfold slD at hg3
 split at hg3
 ·split at hg3
  ·rename_i xs hx
   obtain ⟨us, ex, hq, rl⟩ := s3.ok.lst rx3 hx
   exact .inl ⟨_, us, ex, .inl (.inl hq), fun p hp => qBq s3.ok hg3 hA3 (rl.cut l h) hp⟩
  ·cases hg3
 ·rename_i xs
  obtain ⟨a, us, ex, q, rl⟩ := rx3
  exact .inl ⟨a, us, ex, q.sq, fun p hp => qBq s3.ok hg3 hA3 (rl.cut l h) hp⟩
 ·rename_i xs _
  obtain ⟨a, us, ex, q, rl⟩ := rx3
  split at hg3
  ·cases hg3
  ·rename_i hw
   obtain rfl : Rs.ok (D.tup (cutD xs l h)) W3.S = rr := Option.some.inj hg3
   have e : ∀ (n d : Nat) (o : Option Int), sIxD n d o = HT.sIx n d o := fun n d o => by cases o <;> rfl
   rw [e, e, rl.length] at hw
   exact .inr ⟨a, us, ex, q, hw, fun p hp => hA3 _ W3 rfl (Nxt.heap s3.ok hp _) _ ⟨p, _, rfl, SqT.of zX, (rl.cut l h).mv (Mv.heap hp _)⟩⟩
 ·cases hg3
theorem pdg_sub {pos : Pos} (ho : PDE X E o go) (he : PDE X E e ge)
  (ha : ∀ v, assign (.Subscript o e pos) X.env v = (do
   let ov <- holding [v] (eval o X.env)
   let iv <- holding [v, ov] (eval e X.env)
   standAt pos
   holding [v, ov, iv] (setItem ov iv v)
   release [v, ov, iv] []) := by intro _; rfl) : PDG X E (.Subscript o e pos) (qCu go ge) := by
 try unfold PDE at *
 try unfold PDG at *
 intro pins s σ H v u Q I rv h
 obtain ⟨W, δ, d, rr, hS, hδ, hd, hg, hA⟩ := h
 refine pg_sub ho he set_list ha pins s σ H v u Q I rv ?_
 refine Go.thn hS hδ hg hA fun dx H1 W1 s1 hδ1 hg1 hA1 x rx => ?_
 refine Go.thn s1.ok hδ1 hg1 hA1 fun di H2 W2 s2 hδ2 hg2 hA2 i ri => ?_
 have rx2 := Rep.mv (s2.mv s1.ok) rx
 have rd2 := Rep.mv (((s1.trans s2)).mv hS) hd
 unfold setXA at hg2
 split at hg2
 ·rename_i a j
  split at hg2
  ·rename_i xs hx
   split at hg2
   ·rename_i k hk
    obtain rfl : Rs.ok δ (W2.S.set a (.lst (xs.set k d))) = rr := Option.some.inj hg2
    obtain ⟨us, ex, hq, rl⟩ := s2.ok.lst rx2 hx
    refine ⟨_, us, j, k, ex, ri, hq, by rw [<- rl.length]; exact hk, ?_⟩
    have nx : Nxt (gx X) H2 W2 (upd H2 (W2.μ a) (.lst (us.set k v))) (W2.put a (.lst (xs.set k d))) := Nxt.write s2.ok rx2.1 ⟨_, zX, (rl.set rd2 k).mv (Mv.put s2.ok rx2.1 _ _)⟩
    exact hA2 _ _ rfl nx σ (hδ2.mv (nx.mv s2.ok))
   ·cases hg2
  ·cases hg2
 ·cases hg2
variable {a b c : Expr} {ga gb gc : DE} {pos : Pos}
theorem tF_chain {r r' : R2} {f f' : D -> D -> Sto -> R D} (hf : OpD (gx X) r f) (hf' : OpD (gx X) r' f') : ∀ σ H Q, tF (gx X) E (chn f f' ga gb gc) σ H Q -> tChain r r' (tF (gx X) E ga) (tF (gx X) E gb) (tF (gx X) E gc) σ H Q := by
 intro σ H Q ⟨W, δ, rr, hS, hδ, hg, hA⟩
 refine Go.thn hS hδ hg hA fun dx H1 W1 s1 hδ1 hg1 hA1 x rx => ?_
 refine Go.thn s1.ok hδ1 hg1 hA1 fun dy H2 W2 s2 hδ2 hg2 hA2 y ry => ?_
 have rx2 := Rep.mv (s2.mv s1.ok) rx
 rcases qAm (show bnd (f dx dy W2.S) (chnT f' gc δ dy) = some rr from hg2) with ⟨t, S3, e3, q3⟩ | ⟨c, S3, e3, q3⟩
 ·refine hf E H2 W2 x y dx dy _ (.ok t S3) s2.ok rx2 ry e3 fun H3 W3 eS s3 z rz => ?_
  subst eS
  cases t with
  | bl k =>
   refine ⟨k, rz, ?_⟩
   cases k with
   | true =>
    rw [if_pos rfl]
    refine Go.thn s3.ok (hδ2.mv (s3.mv s2.ok)) (show bnd (gc δ W3.S) (f' dy) = some rr from q3) (hA2.nxt s3) fun dw H4 W4 s4 hδ4 hg4 hA4 w rw' => ?_
    exact hf' E H4 W4 y w dy dw Q rr s4.ok (Rep.mv ((s3.trans s4).mv s2.ok) ry) rw' hg4 hA4
   | false =>
    rw [if_neg (by decide)]
    obtain rfl : Rs.ok (D.bl false) W3.S = rr := Option.some.inj q3
    exact (hA2.nxt s3).now s3.ok _ rfl
  | _ => cases q3
 ·subst q3
  exact hf E H2 W2 x y dx dy _ (.er c S3) s2.ok rx2 ry e3 hA2
theorem pd_chain {op op' : CmpOp} {r r' : R2} {f f' : D -> D -> Sto -> R D} (ho : OpR X (compareOp op) r) (hf : OpD (gx X) r f) (ho' : OpR X (compareOp op') r') (hf' : OpD (gx X) r' f') (ha : PDE X E a ga) (hb : PDE X E b gb) (hc : PDE X E c gc)
  (hm : lastMarks [op, op'] [b, c] = false := by with_unfolding_all rfl) : PDE X E (.Compare a [op, op'] [b, c] pos) (chn f f' ga gb gc) := by
 first
 | exact (
  PE.imp (pe_chain ho ho' ha hb hc hm) (tF_chain hf hf'))
 | ((try unfold PDE at *); exact (
  PE.imp (pe_chain ho ho' ha hb hc hm) (tF_chain hf hf')))
theorem cd_lof {G : Gx} : CallD G (fun xs H Q => ∃ p ys, xs = [.ref p] /\ (SqL G.K H p ys \/ SqT G.K H p ys) /\ ∀ l, H l = none -> Q (.ref l) (upd H l (.lst ys))) lofD := by
 intro E H W vs ds Q rr hS rl e hA
 unfold lofD at e
 split at e
 ·rename_i a
  split at e
  ·rename_i xs hx
   obtain ⟨v, r, rfl, rx, t⟩ := rl
   have t : r = [] := t
   subst t
   obtain ⟨us, ex, hq, rl⟩ := hS.lst rx hx
   subst ex
   exact ⟨_, us, rfl, .inl (.inl (.inl hq)), fun p hp => qBq hS e hA rl hp⟩
  ·cases e
 ·rename_i xs
  obtain ⟨v, r, rfl, ⟨a, us, rfl, q, rl⟩, t⟩ := rl
  have t : r = [] := t
  subst t
  exact ⟨a, us, rfl, .inl q.sq, fun p hp => qBq hS e hA rl hp⟩
 ·rename_i xs
  obtain ⟨v, r, rfl, ⟨a, us, rfl, q, rl⟩, t⟩ := rl
  have t : r = [] := t
  subst t
  exact ⟨a, us, rfl, .inr q, fun p hp => qBq hS e hA rl hp⟩
 ·cases e
theorem vals_bl : ∀ {bs : List Bool} {its : List Value}, Vals (bs.map V.bl) its -> its = bs.map Value.bool
 | [], _, h => by cases h; rfl
 | b :: bs, _, h => by
  cases h with
  | cons h1 h2 =>
   cases h1
   rw [vals_bl h2]
   rfl
theorem call_allX (hc : X.calm = true) : qCq X (.builtin "all") (fun xs H Q => ∃ (l : Addr) (bs : List Bool), xs = [.ref l] /\ SqL X.K H l (bs.map V.bl) /\ Q (.bl (bs.all id)) H) := by
 intro pins s σ H xs us Q I r h
 obtain ⟨l, bs, rfl, hq, q⟩ := h
 obtain ⟨u, rfl, rx⟩ := vals1 r
 cases rx
 obtain ⟨its, rv, pl, hz⟩ := I.list hq
 have hl := pl.isList
 obtain rfl := vals_bl rv
 have hlt : l < s.heap.objs.size := by obtain ⟨_, e, _⟩ := hl; exact jAc e
 refine call_all_walk (wpAny_pyIter_list hl ?_)
 refine ⟨s.heap.objs.size, [s.heap.objs.size, l], [s.heap.objs.size], (bs.map Value.bool).toArray.size, _, _, fun i => (bs[i]?).getD true, rfl, Walks.list (A := X.A.in1) (I.ok.hd hc) _ l (jAf hlt) (bs.map Value.bool).toArray,
  ⟨⟨_, jAw _ rfl, rfl, rfl⟩, hl.push _⟩, fun i v s' Q' E' hP hQ => ?_, fun h' tk hk => ?_⟩
 ·have hP : (bs.map Value.bool)[i]? = some v := by simpa using hP
  rw [jBs] at hP
  cases e : bs[i]? with
  | none => rw [e] at hP; cases hP
  | some b =>
   rw [e] at hP
   cases hP
   simp only [e, Option.getD_some] at hQ
   exact wpAny_truthy_bool hQ
 ·have e : ((jAg (bs.map Value.bool).toArray.size).all fun i => (bs[i]?).getD true) = bs.all id := by
   rw [jBy, jBd]; exact LSm.range_all bs
  rw [e]
  exact ⟨.bl _, H, I.kept fun b x eb => hk b x (fun hm => by rw [jCj.mp hm] at eb; exact jAe _ (jAc eb)) (jAu _ eb), rfl, q⟩
theorem allB_some : ∀ {ds : List D} {b : Bool}, allB ds = some b -> ∃ bs : List Bool, ds = bs.map D.bl /\ b = bs.all id
 | [], _, h => by cases h; exact ⟨[], rfl, rfl⟩
 | .bl c :: ds, b, h => by
  have h : (match allB ds with | some e => some (c && e) | none => none) = some b := h
  cases q : allB ds with
  | none => rw [q] at h; cases h
  | some e =>
   rw [q] at h
   cases h
   obtain ⟨bs, rfl, rfl⟩ := allB_some q
   exact ⟨c :: bs, rfl, rfl⟩
 | .non :: _, _, h => by cases h
 | .int _ :: _, _, h => by cases h
 | .str _ :: _, _, h => by cases h
 | .tup _ :: _, _, h => by cases h
 | .ref _ :: _, _, h => by cases h
 | .exc _ :: _, _, h => by cases h
 | .scr _ :: _, _, h => by cases h
theorem repL_bl {G : Gx} {H : Hp} {W : Wd} : ∀ {bs : List Bool} {vs : List V}, RepL G H W (bs.map D.bl) vs -> vs = bs.map V.bl
 | [], _, h => h
 | b :: bs, _, h => by
  obtain ⟨v, r, rfl, q, t⟩ := h
  have q : v = .bl b := q
  rw [q, repL_bl t]
  rfl
theorem cd_all {G : Gx} : CallD G (fun xs H Q => ∃ (l : Addr) (bs : List Bool), xs = [.ref l] /\ SqL G.K H l (bs.map V.bl) /\ Q (.bl (bs.all id)) H) allD := by
 intro E H W vs ds Q rr hS rl e hA
 unfold allD at e
 split at e
 ·rename_i a
  split at e
  ·rename_i xs hx
   split at e
   ·rename_i b hb
    obtain rfl : Rs.ok (D.bl b) W.S = rr := Option.some.inj e
    obtain ⟨v, r, rfl, rx, t⟩ := rl
    have t : r = [] := t
    subst t
    obtain ⟨us, ex, hq, rl⟩ := hS.lst rx hx
    subst ex
    obtain ⟨bs, rfl, rfl⟩ := allB_some hb
    obtain rfl := repL_bl rl
    exact ⟨_, bs, rfl, .inl (.inl hq), hA.now hS _ rfl⟩
   ·cases e
  ·cases e
 ·cases e
end
end Np
end
section
namespace Np
open PySem PySem.Spec PyProof.Rows L2
def Ite (K : PySem.W.Frag) (a : Addr) : It :=
  ⟨fun i H => ∃ xs x, SqL K H a xs /\ xs[i]? = some x,
   fun i H v H' => ∃ p x, v = .ref p /\ H p = none /\ H' = upd H p (.tup [.int i, x]) /\ ∀ xs, SqL K H a xs -> xs[i]? = some x,
   fun i H => ∃ xs, SqL K H a xs /\ xs.length <= i⟩
theorem turn_enum {P : Program} {w : World} {K : PySem.W.Frag} {elts : List Expr} {x1 : Nat} {tpos : Pos} {e it l : Addr} (hei : e ≠ it) (hle : l ≠ e) (hli : l ≠ it) :
  Turn P w K (.Tuple elts x1 tpos) (Ite K l) [e, it] e (fun i h => (∃ old, IsEnum h e it i old) /\ h.IsListIter it l i) where
 mem := by simp
 obj := fun i h st b hb => by
  obtain ⟨⟨old, he⟩, h1⟩ := st
  simp only [jAo, jCi, or_false] at hb
  rcases hb with rfl | rfl
  ·exact ⟨_, he, fun v q => by cases q⟩
  ·obtain ⟨o, e, c, d⟩ := h1
   exact ⟨o, e, fun v q => by rw [d] at q; cases q⟩
 keep := fun i h h' st k => by
  obtain ⟨⟨old, he⟩, h1⟩ := st
  exact ⟨⟨old, k e (by simp) _ he⟩, h1.at fun o q => k it (by simp) o q⟩
 item := by
  intro X hP hw hK hc i pins s σ H E I hf st hg
  subst hP hw hK
  obtain ⟨⟨old, he⟩, h1⟩ := st
  obtain ⟨xs, x, hqx, hx⟩ := hg
  obtain ⟨its, rx, px, zx⟩ := I.list hqx
  obtain ⟨ux, hux, rux⟩ := rx.get hx
  refine wpAny_pyNext_enum_item he h1 px.isList (x := ux) (by simpa using hux) hei fun h' ho hit' hT hsz hk => ?_
  refine ⟨_, rfl, wpAny_letOwnedTupleGo_enum ho fun h'' he' hs' => ?_⟩
  have hTn : s.heap.objs.size ≠ e := jAv (jAc he)
  have kk : ∀ b o, b ∉ [e, it] -> s.heap.get? b = some o -> h''.get? b = some o := fun b o hb q => by
   simp only [jAo, jCi, or_false, not_or] at hb
   exact (hs'.2 b hb.1).trans (hk b o hb.1 hb.2 q)
  have hp5 := (hs'.2 s.heap.objs.size hTn).trans hT
  have new : qBz X.prog X.w (upd H s.heap.objs.size (.tup [.int i, x])) h'' s.heap.objs.size (.tup [.int i, x]) := ⟨by show 2 <= sizeLine; decide, [.int i s.toks, ux], .cons ⟨_, rfl⟩ (.cons rux .nil), ⟨_, hp5, rfl, _, rfl⟩⟩
  have I5 := Inv.moved (s := s) (h' := h'') (t' := s.toks + 1) I hf kk (jAx _) new
  refine ⟨.ref s.heap.objs.size, upd H s.heap.objs.size (.tup [.int i, x]), I5, rfl, ⟨s.heap.objs.size, x, rfl, I.hok.fresh (jAx _), rfl, fun ws hws => by rw [I.list_inj hws hqx]; exact hx⟩, ?_, fun b hb => ?_⟩
  ·exact ⟨⟨_, by simpa using he'⟩, hit'.at fun o y => (hs'.2 it hei.symm).trans y⟩
  ·have hlt : b < s.heap.objs.size := by
    simp only [jAo, jCi, or_false] at hb
    rcases hb with rfl | rfl
    ·exact jAc he
    ·obtain ⟨o, e, _⟩ := h1; exact jAc e
   rw [zO (jAf hlt)]
   exact (hf b hb).1
 done := by
  intro X hP hw hK hc i pins s σ H E I hf st hg
  subst hP hw hK
  obtain ⟨⟨old, he⟩, h1⟩ := st
  obtain ⟨xs, hqx, hend⟩ := hg
  obtain ⟨its, rx, px, zx⟩ := I.list hqx
  have lx := rx.length
  refine wpAny_pyNext_enum_end (I.ok.hd hc) he h1 px.isList (Array.getElem?_eq_none (by simp; omega)) fun h' hk => ⟨rfl, ?_⟩
  have nch : ∀ b u, H b = some u -> b ∉ [e, it] := fun b u q zz => by rw [(hf b zz).1] at q; cases q
  have kk : ∀ b o, b ∉ [e, it] -> s.heap.get? b = some o -> h'.get? b = some o := fun b o hb q => by
   simp only [jAo, jCi, or_false, not_or] at hb
   exact hk b o hb.2 q
  refine I.step (g' := s.gens) (d' := s.drawn) (t' := s.toks) (ch := [e, it]) (fun b hb => ⟨(hf b hb).2.2.2.1, (hf b hb).2.1, (hf b hb).2.2.2.2.1, (hf b hb).2.2.2.2.2⟩) (fun b u _ _ hc e _ => kk b u hc e) (fun b u _ _ hc e _ => ⟨u.slots, kk b u hc e⟩)
   (fun _ _ _ _ n => n) (fun b u hc e => ⟨u, kk b u hc e⟩) (fun _ _ q => q) (fun _ _ _ q => q) (fun b ps q => ⟨#[], by rw [q]; simp⟩) (fun m hm => ?_) (fun b u q => ?_) I.bare
  ·obtain ⟨ob, es, ep, ho, r⟩ := hm
   exact ⟨ob, es, ep, kk _ ob (fun z => (hf _ z).2.1 rfl) ho, r⟩
  ·refine (I.hok b u q).stay (fun c v hc zz => kk c v ?_ zz) (fun c zz => zz) fun c xs zz => zz
   rcases hc with rfl | hc
   ·exact nch _ _ q
   ·exact nch _ _ hc
 self := fun _ _ _ _ _ st h => by
  obtain ⟨⟨old, he⟩, h1⟩ := st
  exact wpAny_pyIter_enum he h
section
variable {X : Cx} {E : XK}
def iEnum (K : PySem.W.Frag) (ta : TA) : TI := fun σ H R => ta σ H fun vs H1 => ∃ a xs, vs = [.ref a] /\ SqL K H1 a xs /\ R (Ite K a) H1
theorem qEp : bootBuiltins "enumerate" = some (.type "enumerate") := by decide +kernel
theorem pi_enum {a : Expr} {ta : TA} {p pos tpos : Pos} {elts : List Expr} {x1 : Nat} (hg : Gl X "enumerate") (hm : X.mg "enumerate" = none) (ha : PA X [a] ta) (hs : starEach [a] X.env = (false, eval a X.env) :: starEach [] X.env) (hs2 : (backTo pos (starEach [] X.env)).any (·.1) = false) :
  PI X (.Tuple elts x1 tpos) (.Call (.Name "enumerate" p) [a] [] pos) (iEnum X.K ta) := by
 intro pins s σ H R I h
 refine Call_ (qD7 I hg hm qEp (PyProof.Rows.callWith_type1 (thn (ha pos pins s σ H _ I h) fun us s1 ⟨vs, H1, I1, r1, q1⟩ => ?_) hs hs2))
 obtain ⟨l1, xs, e, hqx, q⟩ := q1
 subst e
 obtain ⟨u, rfl, ru⟩ := vals1 r1
 cases ru
 obtain ⟨its, rx, px, zx⟩ := I1.list hqx
 have lt1 : l1 < s1.heap.objs.size := by obtain ⟨o, e, _⟩ := px.isList; exact jAc e
 refine call_enumerate_list px.isList fun h' a1 a2 a3 hk => wpAny_pyIter_enum a1 ?_
 have I2 : Inv X pins σ H1 { s1 with heap := h' } := I1.kept (t' := s1.toks) hk
 refine ⟨s1.heap.objs.size + 1, [s1.heap.objs.size + 1, s1.heap.objs.size], _, Ite X.K l1, H1, rfl, I2, turn_enum (e := s1.heap.objs.size + 1) (it := s1.heap.objs.size) (l := l1) (Nat.succ_ne_self _) (jAf (jCf lt1)) (jAf lt1), ⟨⟨_, a1⟩, a2⟩, fun b hb => ?_, q⟩
 have hb' : s1.heap.objs.size <= b := by
  simp only [jAo, jCi, or_false] at hb
  rcases hb with rfl | rfl
  ·exact Nat.le_succ _
  ·exact jAx _
 exact I1.fpOk hb' (I1.hok.fresh hb')
theorem enm_some {a : Nat} {S : Sto} {i : Nat} {o : Option D} (h : (Src.enm a).get S i = some o) : ∃ ds, zH S a = some ds /\ enm1 i ds[i]? = o := by
 have h' : (match zH S a with | some xs => some (enm1 i xs[i]?) | none => none) = some o := h
 cases q : zH S a with
 | none => rw [q] at h'; cases h'
 | some ds => rw [q] at h'; exact ⟨ds, rfl, Option.some.inj h'⟩
theorem walks_enum {G : Gx} {H : Hp} {W : Wd} {a : Nat} (ha : a < W.S.length) : Walks G (Ite G.K (W.μ a)) H W (.enm a) := fun i H1 W1 s1 => by
 refine ⟨fun h => ?_, fun d hd => ?_⟩
 ·obtain ⟨ds, e, hn⟩ := enm_some h
  obtain ⟨xs, ex, q, rl⟩ := s1.ok.lst (v := .ref (W1.μ a)) ⟨jAd ha s1.len, rfl⟩ e
  rw [s1.old a ha] at q
  refine ⟨xs, .inl (.inl q), ?_⟩
  cases z : ds[i]? with
  | some x => rw [z] at hn; cases hn
  | none => rw [<- rl.length]; exact jCa.mp z
 ·obtain ⟨ds, e, hn⟩ := enm_some hd
  obtain ⟨xs, ex, q, rl⟩ := s1.ok.lst (v := .ref (W1.μ a)) ⟨jAd ha s1.len, rfl⟩ e
  rw [s1.old a ha] at q
  cases z : ds[i]? with
  | none => rw [z] at hn; cases hn
  | some x' =>
   rw [z] at hn
   obtain rfl : D.tup [.int (i : Int), x'] = d := Option.some.inj hn
   obtain ⟨x, hx, rx⟩ := rl.get z
   refine ⟨⟨xs, x, .inl (.inl q), hx⟩, fun y H3 hy => ?_⟩
   obtain ⟨p, x'', rfl, hp, rfl, k1⟩ := hy
   have := k1 xs (.inl (.inl q))
   rw [hx] at this
   cases this
   have sn := Nxt.heap s1.ok hp (HO.tup [.int i, x])
   exact ⟨W1, rfl, sn, p, _, rfl, SqT.of zX, ⟨_, _, rfl, rfl, ⟨x, _, rfl, rx.mv (sn.mv s1.ok), rfl⟩⟩⟩
theorem pdi_enum {a : Expr} {ga : DE} {p pos tpos : Pos} {elts : List Expr} {x1 : Nat} (hg : Gl X "enumerate") (hm : X.mg "enumerate" = none) (ha : PDE X E a ga) (hs : starEach [a] X.env = (false, eval a X.env) :: starEach [] X.env := by rfl) (hs2 : (backTo pos (starEach [] X.env)).any (·.1) = false := by rfl) :
  PDI X E (.Tuple elts x1 tpos) (.Call (.Name "enumerate" p) [a] [] pos) (itA enumD (yH ga aNil)) := by
 try unfold PDE
 try unfold PDI at *
 intro pins s σ H R I ⟨W, δ, rr, hS, hδ, hg', hA⟩
 refine pi_enum hg hm (zB ha zE hs).o hs hs2 pins s σ H R I (Go.thn hS hδ hg' hA fun ds H1 W1 s1 hδ1 hg1 hA1 vs rv => ?_)
 unfold enumD at hg1
 split at hg1
 ·rename_i a
  split at hg1
  ·rename_i xs ea
   obtain rfl : Rs.ok (Src.enm a) W1.S = rr := Option.some.inj hg1
   obtain ⟨v, r, e, rx, t⟩ := rv
   have t : r = [] := t
   obtain ⟨us, eu, qu, ru⟩ := s1.ok.lst rx ea
   subst e eu t
   exact ⟨_, us, rfl, .inl (.inl qu), hA1.now s1.ok _ (walks_enum rx.1)⟩
  ·cases hg1
 ·cases hg1
end
end Np
end
section
namespace Np
open PySem PySem.Spec PyProof.Rows L2
section
variable {prog : Program} {w : World} {A : Around} {R : Result -> Shared -> Prop} {s : Shared}
theorem qFz {elt target iter ce : Expr} {scope : Scope} {pos : Pos} {it acc : Value} {env : Env} (I : Nat -> Shared -> Prop)
  (turn : ∀ n s, I n s -> wpAny (model prog w) A (pyNext it) (fun r s₁ => match r with
   | none => R (.ok .next) s₁
   | some v => wpAny (model prog w) A (letOwnedTupleGo target it v) (fun _ s₂ => wpAny (model prog w) A (assign target env v) (fun _ s₃ =>
     wpAny (model prog w) A (isTrue ce env (eval ce env)) (fun b s₃ => match b with
      | false => ∃ m, m < n /\ I m s₃
      | true => wpAny (model prog w) A (eval elt env) (fun x s₄ =>
     wpAny (model prog w) A (call (.builtin "list.append") [acc, x]) (fun _ s₅ => ∃ m, m < n /\ I m s₅) (fun _ _ => False) s₄) (fun _ _ => False) s₃) (fun _ _ => False) s₃) (fun _ _ => False) s₂) (fun _ _ => False) s₁) (fun _ _ => False) s)
  (n : Nat) (h : I n s) :
  codeAny (model prog w) A (.compLoop (.ListComp elt [⟨target, iter, [ce], 0⟩] scope pos) 0 it acc env) R s := by
 refine codeAny_loop rfl I (fun n s hI => ?_) n h
 show wpAny _ _ ((compTurn (.ListComp elt [⟨target, iter, [ce], 0⟩] scope pos) 0 it acc env).onRaise (fun x => do noteFrame x env; theTreesLotGoes x)) _ _ s
 refine wpAny_noted ?_
 rw [compTurn_list]
 refine wpAny_bind (wpAny_standAt (wpAny_bind (wpAny_mono (turn n s hI) (fun r s₁ h₁ => ?_) fun _ _ h' => h'.elim)))
 cases r with
 | none => exact wpAny_pure h₁
 | some v =>
  refine wpAny_bind (wpAny_mono h₁ (fun _ s₂ h₂ => ?_) fun _ _ h' => h'.elim)
  refine wpAny_bind (wpAny_mono h₂ (fun _ s₂ h₂ => wpAny_bind (wpAny_mono (wpAny_tests_one h₂) (fun ok s₃ h₃ => ?_) fun _ _ h' => h'.elim)) fun _ _ h' => h'.elim)
  cases ok with
  | false => exact wpAny_pure ⟨rfl, h₃⟩
  | true => exact wpAny_bind (wpAny_bind (wpAny_mono h₃ (fun x s₄ h₄ => wpAny_bind (wpAny_mono h₄ (fun _ s₅ h₅ => wpAny_pure (wpAny_pure ⟨rfl, h₅⟩)) fun _ _ h' => h'.elim)) fun _ _ h' => h'.elim))
end
def tCompI (wi : TI) (g : TG) (tt : TT) (te : TE) (k : Nat) : TE := fun σ H Q => wi σ H fun J H1 => ∃ W : Nat -> Nat -> List V -> L2.St -> Hp -> Prop, (∃ n, W 0 n [] (σ ++ jBk k none) H1) /\ ∀ i n vs σ H, W i n vs σ H ->
 (J.stop i H /\ ∀ p, H p = none -> Q (.ref p) (upd H p (.lst vs))) \/ (J.go i H /\ vs.length < sizeLine /\ ∀ x H', J.yld i H x H' -> g x σ H' fun σ2 H2 => tt σ2 H2 fun b H3 => match b with
  | false => ∃ n', n' < n /\ W (i + 1) n' vs σ2 H3
  | true => te σ2 H3 fun v H4 => ∃ n', n' < n /\ W (i + 1) n' (vs ++ [v]) σ2 H4)
section
variable {X : Cx} {N' : List Str} {scope : Scope}
theorem comp_runI {elt iter tg ce : Expr} {pos : Pos} {wi : TI} {g : TG} {tt : TT} {te : TE} {k : Nat} (O : qBp X.N X.env.scope N' scope) (hlen : X.N.length + k = N'.length) (hcal : X.calm = true) (hi : PI X tg iter wi)
  (hg : ∀ C s₃ H₃ ex pn, PG (qAa X N' scope C s₃ H₃ ex pn) tg g) (hc : ∀ C s₃ H₃ ex pn, PT (qAa X N' scope C s₃ H₃ ex pn) ce tt) (he : ∀ C s₃ H₃ ex pn, PE (qAa X N' scope C s₃ H₃ ex pn) elt te)
  {use : Option (Value -> Sem Unit)} {Qf : Value -> Shared -> Prop} {pins : List (Addr × Obj)} {s : Shared} {σ : L2.St} {H : Hp} {Q : VK} (I : Inv X pins σ H s) (h : tCompI wi g tt te k σ H Q)
  (fin : ∀ (C acc : Addr) (H' : Hp) (s' : Shared) (m : Str -> Option Value), Inv X pins σ H' s' -> s'.heap.Ns C m -> FpOk X pins H' C -> Q (.ref acc) H' -> compPost (model X.prog X.w) X.A X.xe use Qf (.ref acc) C (.ok .next) s')
  (hs : ∀ x, foldedSetIterable iter X.env x = pure x := by intro _; rfl) :
  wpAny (model X.prog X.w) X.A (comprehension (.ListComp elt [⟨tg, iter, [ce], 0⟩] scope pos) scope X.env (firstIterPos [⟨tg, iter, [ce], 0⟩] pos) (newList []) false (eval iter X.env) use) Qf X.xe s := by
 have hclos : closureFor scope X.env = pure (clOf scope.names X.env.cells []) := qC5 fun y hy hf => I.ok.has y.1 (O.free y hy hf).2
 refine wpAny_comprehension_free (use := use) rfl hs hclos O.kind O.names (thn (hi pins s σ H _ I h) fun xv s1 h1 => thn h1 fun itv s2 h2 => ?_)
 obtain ⟨it, fp, tn, J, H2, rfl, I2, T, st2, f2, hW⟩ := h2
 refine wpAny_newObj_type (qDz fun h₁ hns₁ hk₁ hce₁ => ?_)
 have hfp2 : ∀ b ∈ fp, b < s2.heap.objs.size := fun b hb => by
  obtain ⟨o, e, _⟩ := T.obj 0 _ st2 b hb
  exact jAc e
 have hpn : H2 s2.heap.objs.size = none := I2.hok.fresh (jAx _)
 have I3 : Inv X pins σ H2 { s2 with heap := s2.heap.push { cls := .type "list", data := .seq ([] : List Value).toArray } } := I2.kept (t' := s2.toks) fun b o e => jAu _ e
 have facc : FpOk X pins H2 s2.heap.objs.size := I2.fpOk (jAx _) hpn
 have gacc : (s2.heap.push { cls := .type "list", data := .seq ([] : List Value).toArray }).get? s2.heap.objs.size = some { cls := .type "list", data := .seq ([] : List Value).toArray } := jAw _ rfl
 obtain ⟨W, ⟨n0, w0⟩, turn⟩ := hW
 generalize hs3 : ({ s2 with heap := s2.heap.push { cls := .type "list", data := .seq ([] : List Value).toArray } } : Shared) = s3 at I3
 have hh3 : s3.heap = s2.heap.push { cls := .type "list", data := .seq ([] : List Value).toArray } := by rw [<- hs3]
 rw [<- hh3] at gacc
 have z3 : s3.heap.objs.size = s2.heap.objs.size + 1 := by rw [hh3, jBe]
 generalize hacc : s2.heap.objs.size = acc at *
 have f3 : ∀ b ∈ acc :: fp, FpOk X pins H2 b := fun b hb => by
  rcases jAo.mp hb with e | hb
  ·rw [e]; exact facc
  ·exact f2 b hb
 have hfp3 : ∀ b ∈ acc :: fp, b < s3.heap.objs.size := fun b hb => by
  rw [z3]
  rcases jAo.mp hb with e | hb
  ·rw [e]; exact jBf _
  ·exact jCf (hfp2 b hb)
 have hk4 : ∀ b o, s3.heap.get? b = some o -> h₁.get? b = some o := fun b o e => hk₁ b o (by rw [hh3] at e; exact e)
 have hCe : (s2.heap.push { cls := .type "list", dict := none, data := .seq ([] : List Value).toArray }).objs.size = s3.heap.objs.size := by rw [hh3]
 generalize hC : (s2.heap.push { cls := .type "list", dict := none, data := .seq ([] : List Value).toArray }).objs.size = C at *
 have st3 : tn 0 h₁ := T.keep 0 _ _ st2 fun b hb o e => hk4 b o (by rw [hh3]; exact jAu _ e)
 have okx := comp_ok (fp := acc :: fp) O I3 (show s3.heap.objs.size <= C by rw [hCe]; exact jAx _) f3 hfp3
 have pinOk : ∀ {H' : Hp} {its : List Value} {kk : Nat} {h' : Heap}, H' acc = none -> h'.get? acc = some { cls := .type "list", data := .seq its.toArray kk } -> ∀ p ∈ [(acc, ({ cls := .type "list", data := .seq its.toArray kk } : Obj))], h'.get? p.1 = some p.2 /\ H' p.1 = none /\ p.1 ≠ (qAa X N' scope C s3 H2 (acc :: fp) (X.pn ++ pins)).env.locals /\ p.1 ∉ (qAa X N' scope C s3 H2 (acc :: fp) (X.pn ++ pins)).fs /\ ∀ v, p.2.data ≠ .cell v := fun {H' its kk h'} hn e p hp => by
  have z : p = (acc, ({ cls := .type "list", data := .seq its.toArray kk } : Obj)) := by simpa using hp
  subst z
  exact ⟨e, hn, (okx.exf acc (.head _)).1, okx.exfs acc (.head _), fun v q => by cases q⟩
 have I4 : Inv (qAa X N' scope C s3 H2 (acc :: fp) (X.pn ++ pins)) [] (σ ++ jBk k none) H2 { s3 with heap := h₁ } :=
  inv_comp O I3 (by rw [hCe]; exact jAx _) f3 hfp3 ⟨h₁, _, rfl⟩ hk4 hns₁ hce₁ hlen
 have I4' : Inv (qAa X N' scope C s3 H2 (acc :: fp) (X.pn ++ pins)) [(acc, { cls := .type "list", data := .seq ([] : List Value).toArray 0 })] (σ ++ jBk k none) H2 { s3 with heap := h₁ } :=
  I4.pins_of (pinOk facc.1 (hk4 _ _ gacc))
 have loop : codeAny (model X.prog X.w) X.A (.compLoop (.ListComp elt [⟨tg, iter, [ce], 0⟩] scope pos) 0 (.ref it) (.ref acc) (compEnvC scope (cellsC scope C X.env.cells) C X.env)) (compPost (model X.prog X.w) X.A X.xe use Qf (.ref acc) C) { s3 with heap := h₁ } := by
  have fpx : ∀ {H' : Hp} {ob : Obj}, (∀ b ∈ fp, H' b = none) -> ∀ b ∈ fp, FpOk (qAa X N' scope C s3 H2 (acc :: fp) (X.pn ++ pins)) [(acc, ob)] H' b := fun {H' ob} hn b hb => by
   have hb' : b ∈ acc :: fp := .tail _ hb
   refine ⟨hn b hb, (okx.exf b hb').1, okx.exfs b hb', .inl hb', fun x c h => (okx.exf b hb').2 x c h, fun p hp => ?_⟩
   have hp' : p ∈ (X.pn ++ pins) ++ [(acc, ob)] := hp
   rcases jAp.mp hp' with z | z
   ·exact (f3 b hb').2.2.2.2.2 p z
   ·have e : p = (acc, ob) := by simpa using z
    rw [e]
    exact jAv (hfp2 b hb)
  refine qFz (fun n s' => ∃ i vs its kk σ' H', Inv (qAa X N' scope C s3 H2 (acc :: fp) (X.pn ++ pins)) [(acc, { cls := .type "list", data := .seq its.toArray kk })] σ' H' s' /\ Vals vs its /\ vs.length <= sizeLine /\ tn i s'.heap /\ (∀ b ∈ fp, H' b = none) /\ W i n vs σ' H') ?_ n0 ⟨0, [], [], 0, _, _, I4', .nil, jBg _, st3, fun b hb => (f2 b hb).1, w0⟩
  rintro n s5 ⟨i, vs, its, kk, σ5, H5, I5, rv, hz, st5, fr5, w5⟩
  rcases turn i n vs σ5 H5 w5 with ⟨stop, qn⟩ | ⟨go, hlt, step⟩
  ·refine thn (T.done (qAa X N' scope C s3 H2 (acc :: fp) (X.pn ++ pins)) rfl rfl rfl hcal i _ s5 σ5 H5 _ I5 (fpx fr5) st5 stop) fun r s6 ⟨hr, I6⟩ => ?_
   subst hr
   have back : Inv X pins σ H5 s6 := by
    have e : s6.os = s3.os := I6.os
    refine I3.call' e (ch := acc :: fp) I6.base I6.hok I6.bare fun b hb => ?_
    obtain ⟨a1, a2, a3, a4, a5, a6⟩ := f3 b hb
    exact ⟨a4, a2, a5, a6⟩
   obtain ⟨m6, hn6, _⟩ := I6.loc
   have hn6' : s6.heap.Ns C m6 := hn6
   obtain ⟨e6, n6, _⟩ := I6.pin (acc, { cls := .type "list", data := .seq its.toArray kk }) (jAy _ (.head _))
   have fa : FpOk X pins H5 acc := ⟨n6, facc.2⟩
   have hCa : C ≠ acc := jAv (by rw [hCe]; exact hfp3 acc (.head _))
   refine fin C acc _ s6 m6 (Inv.adopt back fa e6 rv hz) hn6' ?_ (qn acc n6)
   exact I3.fpOk (by rw [hCe]; exact jAx _) (by rw [zO hCa]; exact I6.free)
  ·refine thn (T.item (qAa X N' scope C s3 H2 (acc :: fp) (X.pn ++ pins)) rfl rfl rfl hcal i _ s5 σ5 H5 _ I5 (fpx fr5) st5 go) fun r s6 ⟨u, hr, h6⟩ => ?_
   subst hr
   refine thn h6 fun _ s7 ⟨x, H7, I7, r7, y7, st7, fr7⟩ => ?_
   have I7' := I7.pinned (fpx fr7) (T.obj _ _ st7)
   refine thn (hg _ _ _ _ _ _ s7 σ5 H7 x u _ I7' r7 (step x H7 y7)) fun _ s8 ⟨σ8, H8, I8, q8⟩ => ?_
   refine thn (hc _ _ _ _ _ _ s8 σ8 H8 _ I8 q8) fun b s8' ⟨H8', I8', q8'⟩ => ?_
   cases b with
   | false =>
    obtain ⟨n', hn', w9⟩ := q8'
    obtain ⟨e9, n9, l9, f9, _⟩ := I8'.pin (acc, { cls := .type "list", data := .seq its.toArray kk }) (jAy _ (jAq _ (.head _)))
    have I9' := I8'.pins_of (pins' := qCb fp s7.heap) fun p hp => I8'.pin p (jAy _ (jAy _ hp))
    refine ⟨n', hn', i + 1, vs, its, _, σ8, H8', I9'.pins_of (pinOk n9 e9), rv, hz, T.keep _ _ _ st7 fun b hb o eo => (I9'.pin (b, o) (jAy _ (qA6 hb eo))).1, fun b hb => ?_, w9⟩
    obtain ⟨o, eo, d⟩ := T.obj _ _ st7 b hb
    exact (I9'.pin (b, o) (jAy _ (qA6 hb eo))).2.1
   | true =>
   refine thn (he _ _ _ _ _ _ s8' σ8 H8' _ I8' q8') fun xv s9 ⟨v, H9, I9, r9, q9⟩ => ?_
   obtain ⟨n', hn', w9⟩ := q9
   obtain ⟨e9, n9, l9, f9, _⟩ := I9.pin (acc, { cls := .type "list", data := .seq its.toArray kk }) (jAy _ (jAq _ (.head _)))
   have hlen9 := rv.length
   refine call_meets F.slot_list_append ⟨_, e9, rfl⟩ F.entry_list_append (F.args_list_append_2 _ _) (PySem.list_append acc its.toArray kk xv (by rw [jBy]; omega)) ⟨e9, ?_⟩
   have q10 := PySem.IsL.update e9 (fun xs => xs.push xv)
   have ea : (its.toArray.push xv) = (its ++ [xv]).toArray := by simp
   rw [ea] at q10
   have I9' := I9.pins_of (pins' := qCb fp s7.heap) fun p hp => I9.pin p (jAy _ (jAy _ hp))
   have I10 : Inv (qAa X N' scope C s3 H2 (acc :: fp) (X.pn ++ pins)) (qCb fp s7.heap) σ8 H9 { s9 with heap := s9.heap.update acc (Obj.mapSeq fun xs => xs.push xv) } :=
    I9'.turned (t' := s9.toks) (it := acc) (fun b o hb e => (jBz s9.heap _ (Ne.symm hb)).trans e) n9 (okx.exf acc (.head _)).1 (.inl (.head _)) (fun x c h => (okx.exf acc (.head _)).2 x c h) fun p hp => by
     have hp' : p ∈ (X.pn ++ pins) ++ qCb fp s7.heap := hp
     rcases jAp.mp hp' with z | z
     ·exact facc.2.2.2.2.2 p z
     ·exact jAf (hfp2 p.1 (qDy z).1)
   refine ⟨n', hn', i + 1, vs ++ [v], its ++ [xv], _, σ8, H9, I10.pins_of (pinOk n9 q10), rv.append (.cons r9 .nil), by rw [jBu, jB3]; omega, T.keep _ _ _ st7 fun b hb o eo => (I10.pin (b, o) (jAy _ (qA6 hb eo))).1, fun b hb => ?_, w9⟩
   obtain ⟨o, eo, d⟩ := T.obj _ _ st7 b hb
   exact (I10.pin (b, o) (jAy _ (qA6 hb eo))).2.1
 have whole := codeAny_compStart_list loop (T.self _ 0 _ _ _ st3 loop)
 subst hCe
 exact whole
end
section
variable {X : Cx} {N' : List Str} {scope : Scope}
theorem pe_compI {elt iter tg ce : Expr} {pos : Pos} {wi : TI} {g : TG} {tt : TT} {te : TE} (k : Nat) (O : qBp X.N X.env.scope N' scope) (hcal : X.calm = true) (hi : PI X tg iter wi)
  (hg : ∀ C s₃ H₃ ex pn, PG (qAa X N' scope C s₃ H₃ ex pn) tg g) (hc : ∀ C s₃ H₃ ex pn, PT (qAa X N' scope C s₃ H₃ ex pn) ce tt) (he : ∀ C s₃ H₃ ex pn, PE (qAa X N' scope C s₃ H₃ ex pn) elt te)
  (hlen : X.N.length + k = N'.length := by rfl) (hs : ∀ x, foldedSetIterable iter X.env x = pure x := by intro _; rfl) : PE X (.ListComp elt [⟨tg, iter, [ce], 0⟩] scope pos) (tCompI wi g tt te k) := by
 intro pins s σ H Q I h
 rw [eval_ListComp]
 exact comp_runI (use := none) O hlen hcal hi hg hc he I h (fun C acc H' s' m J hn f q => ⟨m, hn, fun h' hs' => ⟨.ref acc, H', J.turned (t' := s'.toks) (fun b o hb e => (hs'.2 b hb).trans e) f.1 f.2.1 f.2.2.2.1 f.2.2.2.2.1 f.2.2.2.2.2, rfl, q⟩⟩) hs
theorem ps_setCompI {elt iter tg ce : Expr} {pos spos py : Pos} {y : Str} {j : Nat} {wi : TI} {g : TG} {tt : TT} {te : TE} (k : Nat) (O : qBp X.N X.env.scope N' scope) (hcal : X.calm = true) (hi : PI X tg iter wi)
  (hg : ∀ C s₃ H₃ ex pn, PG (qAa X N' scope C s₃ H₃ ex pn) tg g) (hc : ∀ C s₃ H₃ ex pn, PT (qAa X N' scope C s₃ H₃ ex pn) ce tt) (he : ∀ C s₃ H₃ ex pn, PE (qAa X N' scope C s₃ H₃ ex pn) elt te)
  (hN : X.N.Nodup) (hj : X.N[j]? = some y) (hy : X.env.scope.names.lookup y = some .local) (hsw : swapsWith (.ListComp elt [⟨tg, iter, [ce], 0⟩] scope pos) (some (.Name y py)) spos.line X.env = pure true)
  (hlen : X.N.length + k = N'.length := by rfl) (hs : ∀ x, foldedSetIterable iter X.env x = pure x := by intro _; rfl) : PS X (.Assign [.Name y py] (.ListComp elt [⟨tg, iter, [ce], 0⟩] scope pos) spos) (tAsg (tCompI wi g tt te k) (gName j)) := by
 intro pins s σ H D I h
 rw [exec_Assign_Name_used _ _ _ _ hsw]
 refine wpAny_bind (wpAny_standAt (wpAny_bind ?_))
 show wpAny _ X.A (do let _ <- comprehension (.ListComp elt [⟨tg, iter, [ce], 0⟩] scope pos) scope X.env _ (newList []) false (eval iter X.env) (some (assign (.Name y py) X.env))) _ _ s
 refine wpAny_bind (wpAny_mono (comp_runI (use := some (assign (.Name y py) X.env)) (Qf := fun _ s' => SP X pins D .next s') O hlen hcal hi hg hc he I h (fun C acc H' s' m J hn f q => ?_) hs) (fun _ s' hq => wpAny_pure (wpAny_pure hq)) fun _ _ e => e)
 show wpAny _ X.A (assign (.Name y py) X.env (.ref acc)) _ _ _
 refine wpAny_assign_Name ?_
 refine qDt J hN hj (.inl hy) (v := .ref acc) rfl (fun s2 J2 ⟨a, hsb, ha⟩ => ?_) (.inr hy)
 have haC : C ≠ a := by
  rcases ha with z | z
  ·rw [z]; exact f.2.1
  ·exact fun e => f.2.2.2.2.1 _ _ z e.symm
 exact ⟨m, hn.sameBut hsb haC, fun h' hs' => ⟨σ.set j (some (.ref acc)), H', J2.turned (t' := s2.toks) (fun b o hb e => (hs'.2 b hb).trans e) f.1 f.2.1 f.2.2.2.1 f.2.2.2.2.1 f.2.2.2.2.2, q⟩⟩
end
theorem compID_cases {src : Src} {g : DG} {t : DT} {e : DE} {n i : Nat} {δ : DS} {S : Sto} {r : Rs (List D)} (h : qBd src g t e n i δ S = some r) :
  (src.get S i = some none /\ r = .ok [] S) \/ ∃ x m, n = m + 1 /\ src.get S i = some (some x) /\ bnd (g x δ S) (compIK t e (qBd src g t e m (i + 1))) = some r := by
 cases n with
 | zero =>
  unfold qBd at h
  split at h
  ·rename_i e
   exact .inl ⟨e, (Option.some.inj h).symm⟩
  ·cases h
 | succ n =>
  unfold qBd at h
  split at h
  ·rename_i e
   exact .inl ⟨e, (Option.some.inj h).symm⟩
  ·rename_i x e
   exact .inr ⟨x, n, rfl, e, h⟩
  ·cases h
section
variable {X : Cx} {E : XK} {N' : List Str} {scope : Scope}
theorem qE3 {gi : DI} {k : Nat} {g : DG} {gc : DT} {ge : DE} : ∀ σ H Q, tF (gx X) E (qEk gi k g gc ge) σ H Q -> tCompI (tFI (gx X) E gi) (tFG (gx X) E0 g) (tFT (gx X) E0 gc) (tF (gx X) E0 ge) k σ H Q := by
 intro σ H Q ⟨W, δ, rr, hS, hδ, hg, hA⟩
 refine Go.thn hS hδ hg hA fun src H1 W1 s1 hδ1 hg1 hA1 J hJ => ?_
 have q' : (if src.len W1.S <= 1000000 then bnd (noer (qBd src g gc ge (src.len W1.S) 0 (δ ++ jBk k none) W1.S)) lstK else none) = some rr := hg1
 split at q'
 ·rename_i hsz
  rcases qAm q' with ⟨ds, S2, e2, q2⟩ | ⟨c, S2, e2, _⟩
  ·obtain ⟨ds', S2', e3, e4⟩ := qBw e2
   cases e4
   refine ⟨fun i n vs σ2 H2 => i + n = src.len W1.S /\ ∃ W2 δ2 ds1 ds2, Nxt (gx X) H1 W1 H2 W2 /\ RepS (gx X) H2 W2 δ2 σ2 /\ ds = ds1 ++ ds2 /\ ds1.length <= i /\ RepL (gx X) H2 W2 ds1 vs /\ qBd src g gc ge n i δ2 W2.S = ok ds2 S2,
    ⟨src.len W1.S, by simp, W1, _, [], ds, .rfl s1.ok, hδ1.more k, rfl, jAx _, rfl, e3⟩, ?_⟩
   rintro i n vs σ2 H2 ⟨hn, W2, δ2, ds1, ds2, s2, hδ2, hds, hl1, rl, hc⟩
   obtain ⟨w1, w2⟩ := hJ i H2 W2 s2
   rcases compID_cases hc with ⟨hend, hr⟩ | ⟨x, m, rfl, hx, hb⟩
   ·refine .inl ⟨w1 hend, fun p hp => ?_⟩
    cases hr
    rw [jBh] at hds
    subst hds
    exact qBq s2.ok q2 (hA1.nxt s2) rl hp
   ·obtain ⟨wg, wy⟩ := w2 x hx
    refine .inr ⟨wg, ?_, fun v H3 y => ?_⟩
    ·rw [<- rl.length]
     exact jAd (by omega) (sz hsz)
    ·obtain ⟨W3, e3', s3, rx⟩ := wy v H3 y
     rcases qAm hb with ⟨δ4, S4, e4, q4⟩ | ⟨c, S4, _, q4⟩
     ·refine ⟨W3, δ2, x, .ok δ4 S4, s3.ok, hδ2.mv (s3.mv s2.ok), rx, by rw [e3']; exact e4, fun H4 W4 eS4 s4 σ4 hδ4 => ?_⟩
      rcases qAm (show bnd (gc δ4 S4) (compIB ge (qBd src g gc ge m (i + 1)) δ4) = some (Rs.ok ds2 S2) from q4) with ⟨b, S5, e5, q5⟩ | ⟨c, S5, _, q5⟩
      ·refine ⟨W4, δ4, .ok b S5, s4.ok, hδ4, by rw [eS4]; exact e5, fun H5 W5 eS5 s5 => ?_⟩
       cases b with
       | false =>
        refine ⟨m, jBf m, by omega, W5, δ4, ds1, ds2, ((s2.trans s3).trans s4).trans s5, hδ4.mv (s5.mv s4.ok), hds, by omega, rl.mv (((s3.trans s4).trans s5).mv s2.ok), by rw [eS5]; exact q5⟩
       | true =>
        rcases qAm (show bnd (ge δ4 S5) (qEj (qBd src g gc ge m (i + 1)) δ4) = some (Rs.ok ds2 S2) from q5) with ⟨d, S6, e6, q6⟩ | ⟨c, S6, _, q6⟩
        ·refine ⟨W5, δ4, .ok d S6, s5.ok, hδ4.mv (s5.mv s4.ok), by rw [eS5]; exact e6, fun H6 W6 eS6 s6 v' rv => ?_⟩
         rcases qAm (show bnd (qBd src g gc ge m (i + 1) δ4 S6) (consK d) = some (Rs.ok ds2 S2) from q6) with ⟨ds3, S7, e7, q7⟩ | ⟨c, S7, _, q7⟩
         ·have q7' : Rs.ok (d :: ds3) S7 = Rs.ok ds2 S2 := Option.some.inj q7
          cases q7'
          refine ⟨m, jBf m, by omega, W6, δ4, ds1 ++ [d], ds3, (((s2.trans s3).trans s4).trans s5).trans s6, (hδ4.mv (s5.mv s4.ok)).mv (s6.mv s5.ok), by rw [hds]; simp, by simp; omega, ?_, by rw [eS6]; exact e7⟩
          exact (rl.mv ((((s3.trans s4).trans s5).trans s6).mv s2.ok)).append (RepL.one rv)
         ·cases q7
        ·cases q6
      ·cases q5
     ·cases q4
  ·obtain ⟨_, _, _, z⟩ := qBw e2
   cases z
 ·cases q'
theorem pd_compI {elt iter tg ce : Expr} {pos : Pos} {gi : DI} {g : DG} {gc : DT} {ge : DE} (k : Nat) (O : qBp X.N X.env.scope N' scope) (hcal : X.calm = true) (hi : PDI X E tg iter gi)
  (hg : ∀ C s₃ H₃ ex pn, PDG (qAa X N' scope C s₃ H₃ ex pn) E0 tg g) (hc : ∀ C s₃ H₃ ex pn, PDT (qAa X N' scope C s₃ H₃ ex pn) E0 ce gc) (he : ∀ C s₃ H₃ ex pn, PDE (qAa X N' scope C s₃ H₃ ex pn) E0 elt ge)
  (hlen : X.N.length + k = N'.length := by rfl) (hs : ∀ x, foldedSetIterable iter X.env x = pure x := by intro _; rfl) : PDE X E (.ListComp elt [⟨tg, iter, [ce], 0⟩] scope pos) (qEk gi k g gc ge) := by
 first
 | exact (
  PE.imp (pe_compI (g := tFG (gx X) E0 g) (tt := tFT (gx X) E0 gc) (te := tF (gx X) E0 ge) k O hcal hi hg hc he hlen hs) qE3)
 | ((try unfold PDE at *); (try unfold PDT at *); (try unfold PDG at *); (try unfold PDI at *); exact (
  PE.imp (pe_compI (g := tFG (gx X) E0 g) (tt := tFT (gx X) E0 gc) (te := tF (gx X) E0 ge) k O hcal hi hg hc he hlen hs) qE3))
theorem pd_setCompI (j : Nat) {elt iter tg ce : Expr} {pos spos py : Pos} {y : Str} {gi : DI} {g : DG} {gc : DT} {ge : DE} (k : Nat) (O : qBp X.N X.env.scope N' scope) (hcal : X.calm = true) (hi : PDI X E tg iter gi)
  (hg : ∀ C s₃ H₃ ex pn, PDG (qAa X N' scope C s₃ H₃ ex pn) E0 tg g) (hc : ∀ C s₃ H₃ ex pn, PDT (qAa X N' scope C s₃ H₃ ex pn) E0 ce gc) (he : ∀ C s₃ H₃ ex pn, PDE (qAa X N' scope C s₃ H₃ ex pn) E0 elt ge)
  (hN : X.N.Nodup) (hj : X.N[j]? = some y := by rfl) (hy : X.env.scope.names.lookup y = some .local := by rfl) (hsw : swapsWith (.ListComp elt [⟨tg, iter, [ce], 0⟩] scope pos) (some (.Name y py)) spos.line X.env = pure true := by rfl)
  (hlen : X.N.length + k = N'.length := by rfl) (hs : ∀ x, foldedSetIterable iter X.env x = pure x := by intro _; rfl) : PDS X E (.Assign [.Name y py] (.ListComp elt [⟨tg, iter, [ce], 0⟩] scope pos) spos) (setS j (qEk gi k g gc ge)) := by
 try unfold PDE at *
 try unfold PDT at *
 try unfold PDS at *
 try unfold PDG at *
 try unfold PDI at *
 refine PS.imp (ps_setCompI (g := tFG (gx X) E0 g) (tt := tFT (gx X) E0 gc) (te := tF (gx X) E0 ge) k O hcal hi hg hc he hN hj hy hsw hlen hs) fun D σ H ⟨W, δ, rr, hS, hδ, hg', hA⟩ => ?_
 refine qE3 σ H _ (Go.thn hS hδ hg' hA fun d H1 W1 s1 hδ1 hg1 hA1 v rv => ?_)
 obtain rfl : Rs.ok (Fl.nx (δ.set j (some d))) W1.S = rr := Option.some.inj hg1
 exact hA1.now s1.ok _ (hδ1.set j rv)
end
end Np
end
section
namespace Np
open PySem PySem.Spec PyProof.Rows L2
mutual
theorem eqT_comm : ∀ (d e : T), eqT d e = eqT e d
 | .non, e => by cases e <;> simp [eqT]
 | .bl a, e => by cases e <;> simp only [eqT] <;> exact BEq.comm
 | .int a, e => by cases e <;> simp only [eqT] <;> exact BEq.comm
 | .str a, e => by cases e <;> simp only [eqT] <;> exact BEq.comm
 | .tup ds, e => by
  cases e with
  | tup es => simp only [eqT]; exact qEd ds es
  | _ => simp [eqT]
 | .lst ds, e => by
  cases e with
  | lst es => simp only [eqT]; exact qEd ds es
  | _ => simp [eqT]
theorem qEd : ∀ (ds es : List T), eqTs ds es = eqTs es ds
 | [], es => by cases es <;> simp [eqTs]
 | d :: ds, es => by
  cases es with
  | nil => simp [eqTs]
  | cons e es => simp only [eqTs]; rw [eqT_comm d e, qEd ds es]
end
theorem memT_py (t : T) : ∀ ts : List T, ((qBt ts).any fun y => PyData.eqv y (toPy t)) = memT t ts
 | [] => rfl
 | u :: us => by simp only [qBt, List.any_cons, memT, memT_py t us, eqT_py, eqT_comm u t]
section
variable {X : Cx} {G : Gx}
def rInD (G : Gx) (neg : Bool) : R2 := fun x y H Q => ∃ W d a ys t ts, StOk G H W /\ Rep G H W d x /\ Rep G H W (.ref a) y /\ zH W.S a = some ys /\ rd 8 W.S d = some t /\ rdl (rd 8 W.S) ys = some ts /\ Q (.bl (if neg = true then !memT t ts else memT t ts)) H
theorem in_seen {pins : List (Addr × Obj)} {s : Shared} {σ : L2.St} {H : Hp} {W : Wd} {a : Nat} {ys : List D} {ts : List T} {y : V} {u : Value} (I : Inv X pins σ H s) (hS : StOk (gx X) H W) (r : Rep (gx X) H W (.ref a) y) (q : RelV y u) (hl : zH W.S a = some ys) (h : rdl (rd 8 W.S) ys = some ts) : Seen s 9 (.lst ts) u :=
 seen I hS (n := 9) (d := .ref a) (by simp only [rd, hl, h]; rfl) r q
theorem op_inX {k : Nat} (hr : Room k X.A) : OpR X (compareOp .In) (rInD (gx X) false) := by
 intro pins s σ H x y v u Q I rx ry h
 obtain ⟨W, d, a, ys, t, ts, hS, rd1, re, hl, pd, pe, q⟩ := h
 have sa := seen I hS pd rd1 rx
 obtain ⟨c1, c2, bs, rb⟩ := in_seen I hS re ry hl pe
 obtain ⟨as, ra⟩ := sa.2.2
 have c1' : PyData.canLayAll0 (qBt ts) = true := by simpa only [toPy, PyData.canLay0] using c1
 refine SeqAt.in_list_reads (xs := qBt ts) rb ra c1' sa.1 ?_ ?_
 ·have := hr.units
  have := sa.2.1
  omega
 ·rw [memT_py]
  exact ⟨.bl _, H, I, rfl, q⟩
theorem od_inK (neg : Bool) : OpD G (rInD G neg) (inA neg) := by
 intro E H W x y dx dy Q rr hS rx ry e hA
 cases dy with
 | ref a =>
  simp only [inA] at e
  split at e
  ·rename_i ys hl
   split at e
   ·rename_i t ts h1 h2
    obtain rfl := Option.some.inj e
    exact ⟨W, dx, a, ys, t, ts, hS, rx, ry, hl, h1, h2, hA.now hS _ rfl⟩
   ·cases e
  ·cases e
 | _ => cases e
theorem od_in : OpD G (rInD G false) inD := od_inK false
end
end Np
end
section
namespace Np
open PySem PySem.Spec PyProof.Rows L2
theorem qBz.at' {P : Program} {w : World} {H : Hp} {h : Heap} {a : Addr} {o : HO} (x : qBz P w H h a o) : ∃ ob, h.get? a = some ob := by
 cases o with
 | lst xs => obtain ⟨_, _, _, _, e⟩ := x; exact ⟨_, e⟩
 | tup xs => obtain ⟨_, _, _, o, e, _⟩ := x; exact ⟨_, e⟩
 | dK kvs => obtain ⟨_, _, _, _, o, _, _, e, _⟩ := x; exact ⟨_, e⟩
 | dT kvs => obtain ⟨_, _, _, _, o, _, _, e, _⟩ := x; exact ⟨_, e⟩
 | set S n => obtain ⟨o, _, _, _, e, _⟩ := x; exact ⟨_, e⟩
 | ins C dx fs => obtain ⟨_, _, _, e, _⟩ := x; exact ⟨_, e⟩
 | own y => obtain ⟨_, e⟩ := x; exact ⟨_, e⟩
 | xd fs => obtain ⟨_, ⟨_, _, _, e, _⟩, _⟩ := x; exact ⟨_, e⟩
 | rng lo hi => obtain ⟨_, _, _, e⟩ := x; exact ⟨_, e⟩
 | frz ob u => obtain ⟨e, _⟩ := x; exact ⟨_, e⟩
 | tbl ps => exact ⟨_, (show h.get? a = some _ from x)⟩
 | met f y => exact ⟨_, (show h.get? a = some _ from x)⟩
 | ext φ => obtain ⟨_, ⟨_, e⟩, _⟩ := x; exact ⟨_, e⟩
structure Fly (P : Program) (w : World) (l : List Env) (H H' : Hp) (s : Shared) (ea : Addr) (B h : Heap) : Prop where
 un : Un (frs l) [] H H' s.heap h
 hok : HOk P w H' h
 newe : s.heap.get? ea = none
 free : H' ea = none
 frf : ∀ b ∈ frs l, H' b = none
 ff : h.FunFrames B l
 keep : ∀ b o, h.get? b = some o -> ((∃ o0, s.heap.get? b = some o0) \/ H' b ≠ none) -> b ∉ frs l -> B.get? b = some o
 st : B.StaysIn h
theorem Un.less {L : Addr} {fs : List Addr} {H H' : Hp} {h h' : Heap} (u : Un (L :: fs) [] H H' h h') (n : h.get? L = none) : Un fs [] H H' h h' := by
 have ne : ∀ b o, h.get? b = some o -> b ≠ L := fun b o e z => by rw [z, n] at e; cases e
 refine ⟨fun b o e hn hb hx => u.keep b o e hn (fun z => ?_) hx, fun b o e hn hb hx => u.slot b o e hn (.tail _ hb) hx, u.free, u.there, u.tups, u.frzs, u.tbls⟩
 rcases jAo.mp z with z | z
 ·exact ne b o e z
 ·exact hb z
section
variable {X : Cx} {pins : List (Addr × Obj)} {σ : L2.St} {H : Hp} {s : Shared} {ea : Addr}
theorem Inv.names {h' : Heap} {m : Str -> Option Value} {v : Option Value} {j : Nat} {n : Str} {t : Nat} (I : Inv X pins σ H s) (hN : X.N.Nodup) (hj : X.N[j]? = some n) (hm : ∀ (i : Nat) (x : Str) (v : V), X.N[i]? = some x -> σ[i]? = some (some v) -> Vis X.env.scope x -> ∃ u, RelV v u /\ Look X.env s.heap m x u)
  (hn : h'.Ns X.env.locals (fun x => if x = n then v else m x)) (hs : Heap.SameBut X.env.locals s.heap h') : Inv X pins (σ.set j none) H { s with heap := h', toks := t } := by
 have cne := I.cne
 refine ⟨I.ok, I.os, I.bare, ⟨fun b o e nn hb hx => ?_, fun b o e nn hb hx => ?_, I.base.free, fun b o e hx => ?_, I.base.tups, I.base.frzs, I.base.tbls⟩, ⟨_, hn, fun i y v' e1 e2 e3 => ?_⟩, fun y c e => ?_, I.free, I.freeC, fun p hp => ?_, fun b ob e => ?_, by simpa using I.len⟩
 ·exact (hs.2 b (jAf (jAd (jAc e) I.ok.above))).trans (I.base.keep b o e nn hb hx)
 ·obtain ⟨sl, e1⟩ := I.base.slot b o e nn hb hx
  exact ⟨sl, (hs.2 b (jAf (jAd (jAc e) I.ok.above))).trans e1⟩
 ·obtain ⟨o', e1⟩ := I.base.there b o e hx
  exact ⟨o', (hs.2 b (jAf (jAd (jAc e) I.ok.above))).trans e1⟩
 ·by_cases hi : i = j
  ·subst hi
   exfalso
   rw [List.getElem?_set] at e2
   split at e2
   ·split at e2 <;> cases e2
   ·rename_i z; exact z rfl
  ·rw [jAt (Ne.symm hi)] at e2
   obtain ⟨u, r, l⟩ := hm i y v' e1 e2 e3
   refine ⟨u, r, ?_⟩
   rcases l with ⟨k, e⟩ | ⟨k, c, e, z⟩
   ·refine .inl ⟨k, ?_⟩
    have : y ≠ n := fun e => hi (qFf hN e1 (e ▸ hj))
    simp [this, e]
   ·exact .inr ⟨k, c, e, z.sameBut hs (cne y c e)⟩
 ·obtain ⟨w', z⟩ := I.cell y c e
  exact ⟨w', z.sameBut hs (cne y c e)⟩
 ·obtain ⟨e, nn, ne, nf, d⟩ := I.pin p hp
  exact ⟨(hs.2 p.1 ne).trans e, nn, ne, nf, d⟩
 ·refine (I.hok b ob e).stay (fun c w' hc q => (hs.2 c ?_).trans q) (fun _ q => q) fun _ _ q => q
  rintro rfl
  have fr := I.free
  rcases hc with rfl | hc
  ·rw [fr] at e; cases e
  ·rw [fr] at hc; cases hc
end
end Np
end
section
namespace Np
open PySem PySem.Spec PyProof.Rows L2
def excGet (K : PySem.W.Frag) (C : Addr) : Bool := (PySem.W.clsIn K C).isSome && jA2 K (.ref C) "__getattribute__" == some (some (.builtin "BaseException.__getattribute__")) && jA2 K (.ref C) "__getattr__" == some none && jA2 K (.ref C) "__class__" == some (some (.builtin "object.__class__"))
 && jCk K (.ref C) (.type "BaseException") == some true && jCk K (.ref C) (.type "object") == some true
structure ExcGet (K : PySem.W.Frag) (C : Addr) : Prop where
 cls : (PySem.W.clsIn K C).isSome = true
 ga : jA2 K (.ref C) "__getattribute__" = some (some (.builtin "BaseException.__getattribute__"))
 nga : jA2 K (.ref C) "__getattr__" = some none
 cl : jA2 K (.ref C) "__class__" = some (some (.builtin "object.__class__"))
 be : jCk K (.ref C) (.type "BaseException") = some true
 ob : jCk K (.ref C) (.type "object") = some true
theorem ExcGet.of {K : PySem.W.Frag} {C : Addr} (h : excGet K C = true) : ExcGet K C := by
 unfold excGet at h
 simp only [Bool.and_eq_true, beq_iff_eq] at h
 exact ⟨h.1.1.1.1.1, h.1.1.1.1.2, h.1.1.1.2, h.1.1.2, h.1.2, h.2⟩
theorem qEv {G : Gx} {H : Hp} {W : Wd} {f : Str} {d : D} : ∀ {fs : List (Str × D)} {ps : List (Str × V)}, ps.map (·.1) = fs.map (·.1) -> RepL G H W (fs.map (·.2)) (ps.map (·.2)) -> fs.lookup f = some d -> ∃ v, ps.lookup f = some v /\ Rep G H W d v
 | [], _, _, _, h => by cases h
 | (g, x) :: fs, ps, e, r, h => by
  cases ps with
  | nil => cases e
  | cons p ps =>
   obtain ⟨k, v⟩ := p
   obtain ⟨e1, e2⟩ := List.cons.inj e
   have e1 : k = g := e1
   subst e1
   obtain ⟨v', r', ev, r1, r2⟩ := r
   obtain ⟨rfl, rfl⟩ := List.cons.inj ev
   rw [jCd] at h ⊢
   split at h
   ·rename_i hb
    cases h
    exact ⟨v, rfl, r1⟩
   ·exact qEv e2 r2 h
theorem qD4 {f : Str} : ∀ {fs : List (Str × D)} {ps : List (Str × V)}, ps.map (·.1) = fs.map (·.1) -> fs.lookup f = none -> ps.lookup f = none
 | [], ps, e, _ => by
  cases ps with
  | nil => rfl
  | cons p ps => cases e
 | (g, x) :: fs, ps, e, h => by
  cases ps with
  | nil => cases e
  | cons p ps =>
   obtain ⟨k, v⟩ := p
   obtain ⟨e1, e2⟩ := List.cons.inj e
   have e1 : k = g := e1
   subst e1
   rw [jCd] at h ⊢
   split at h
   ·cases h
   ·exact qD4 e2 h
theorem put_rep {G : Gx} {H : Hp} {W : Wd} {f : Str} {d : D} {v : V} (q : Rep G H W d v) : ∀ {fs : List (Str × D)} {ps : List (Str × V)}, ps.map (·.1) = fs.map (·.1) -> RepL G H W (fs.map (·.2)) (ps.map (·.2)) -> (putF f v ps).map (·.1) = (putD f d fs).map (·.1) /\ RepL G H W ((putD f d fs).map (·.2)) ((putF f v ps).map (·.2))
 | [], ps, e, _ => by
  cases ps with
  | nil => exact ⟨rfl, ⟨v, [], rfl, q, rfl⟩⟩
  | cons p ps => cases e
 | (g, x) :: fs, ps, e, r => by
  cases ps with
  | nil => cases e
  | cons p ps =>
   obtain ⟨k, y⟩ := p
   obtain ⟨e1, e2⟩ := List.cons.inj e
   have e1 : k = g := e1
   subst e1
   obtain ⟨v', r', ev, r1, r2⟩ := r
   obtain ⟨rfl, rfl⟩ := List.cons.inj ev
   rw [show putF f v ((k, y) :: ps) = (if k = f then (k, v) :: ps else (k, y) :: putF f v ps) from rfl, show putD f d ((k, x) :: fs) = (if k = f then (k, d) :: fs else (k, x) :: putD f d fs) from rfl]
   by_cases hk : k = f
   ·rw [if_pos hk, if_pos hk]
    exact ⟨congrArg (k :: ·) e2, ⟨v, _, rfl, q, r2⟩⟩
   ·rw [if_neg hk, if_neg hk]
    obtain ⟨i1, i2⟩ := put_rep q e2 r2
    exact ⟨congrArg (k :: ·) i1, ⟨y, _, rfl, r1, i2⟩⟩
section
variable {X : Cx} {E : XK} {c f m : Str} {C : Addr} {e o : Expr} {ge go : DE} {pos pos' : Pos}
theorem StOk.inst {H : Hp} {W : Wd} {a : Nat} {fs : List (Str × D)} (h : StOk (gx X) H W) (hm : X.mg c = some (.ref C)) (e : qAu W.S a = some (c, fs)) : ∃ dx ps, H (W.μ a) = some (.ins C dx ps) /\ ps.map (·.1) = fs.map (·.1) /\ RepL (gx X) H W (fs.map (·.2)) (ps.map (·.2)) := by
 obtain ⟨C', dx, ps, m', q, n, r⟩ := h.get a _ (qC9 e)
 have m' : X.mg c = some (.ref C') := m'
 rw [hm] at m'
 cases m'
 exact ⟨dx, ps, q, n, r⟩
theorem pd_fld (hc : Cls X.K C) (hn : qC6 X.K C f) (hm : X.mg c = some (.ref C)) (he : PDE X E e ge) (hb : attributeBase e f X.env (eval e X.env) = eval e X.env := by rfl) : PDE X E (.Attribute e f pos) (op1 (fldD c f) ge) := by
 try unfold PDE at *
 refine PE.imp (pe_fld he hb) fun σ H Q ⟨W, δ, rr, hS, hδ, hg, hA⟩ => ?_
 refine Go.thn hS hδ hg hA fun d H1 W1 s1 hδ1 hg1 hA1 v rv => ?_
 unfold fldD at hg1
 split at hg1
 ·rename_i a
  split at hg1
  ·rename_i c' fs hi
   split at hg1
   ·rename_i ec
    subst ec
    split at hg1
    ·rename_i d hl
     obtain rfl : Rs.ok d W1.S = rr := Option.some.inj hg1
     obtain ⟨dx, ps, q, n, r⟩ := s1.ok.inst hm hi
     obtain ⟨u, hu, ru⟩ := qEv n r hl
     exact ⟨_, C, dx, ps, u, rv.2, q, hc, hn, hu, hA1.now s1.ok _ ru⟩
    ·cases hg1
   ·cases hg1
  ·cases hg1
 ·cases hg1
theorem pd_setf {value : Expr} {gv : DE} (hc : Cls X.K C) (hn : qC6 X.K C f) (hm : X.mg c = some (.ref C)) (ho : PDE X E o go) (hv : PDE X E value gv) (hs : swapsWith value (some (.Attribute o f pos')) pos.line X.env = pure false := by rfl) :
  PDS X E (.Assign [.Attribute o f pos'] value pos) (qCt c f go gv) := by
 try unfold PDE at *
 try unfold PDS at *
 refine PS.imp (ps_fld ho hv hs) fun D σ H ⟨W, δ, rr, hS, hδ, hg, hA⟩ => ?_
 refine Go.thn hS hδ hg hA fun d H1 W1 s1 hδ1 hg1 hA1 v rv => ?_
 refine Go.thn s1.ok hδ1 hg1 hA1 fun x H2 W2 s2 hδ2 hg2 hA2 y ry => ?_
 have rv2 := rv.mv (s2.mv s1.ok)
 unfold setfA at hg2
 split at hg2
 ·rename_i a
  split at hg2
  ·rename_i c' fs hi
   split at hg2
   ·rename_i ec
    obtain ⟨ec, hl⟩ := ec
    subst ec
    obtain rfl : Rs.ok (Fl.nx δ) (W2.S.set a (.ins c' (putD f d fs))) = rr := Option.some.inj hg2
    obtain ⟨dx, ps, q, n, r⟩ := s2.ok.inst hm hi
    refine ⟨_, C, dx, ps, ry.2, q, hc, hn, ?_, ?_⟩
    ·have := congrArg jBn n
     simp at this
     omega
    ·have mp := Mv.put (G := gx X) (W := W2) s2.ok ry.1 (.ins C dx (putF f v ps)) (.ins c' (putD f d fs))
     obtain ⟨k1, k2⟩ := put_rep (f := f) rv2 n r
     have nx : Nxt (gx X) H2 W2 (upd H2 (W2.μ a) (.ins C dx (putF f v ps))) (W2.put a (.ins c' (putD f d fs))) := Nxt.write s2.ok ry.1 ⟨C, dx, putF f v ps, hm, zX, k1, k2.mv mp⟩
     exact hA2 _ (W2.put a (.ins c' (putD f d fs))) rfl nx σ (hδ2.mv mp)
   ·cases hg2
  ·cases hg2
 ·cases hg2
theorem pd_meth0 {CX : CXT} {k : Nat} {fa : Addr} {fd : FuncData} {ps : List Str} {F : List D -> Sto -> R D} {apos : Pos} {pl : Sem Bool} (hc : Cls X.K C) (hM : Meth X.K C m fa) (hm : X.mg c = some (.ref C)) (O : FnOk X.prog X.w X.K X.mg X.base CX k fa fd ps (spF (gx X) F)) (hr : Room k X.A) (hb : zV X.K fd ps []) (hx : qB6 CX X E) (ho : PDE X E o go)
  (ht : eval (.Call (.Attribute o m apos) [] [] pos) X.env = (do
   let ov <- eval o X.env
   standAt apos.atName
   let (f, first) <- holding [ov] (getMethod ov m pl)
   callWith pos f first (backTo pos (starEach [] X.env)) (backToKw pos (keywordEach [] X.env))) := by rfl) : PDE X E (.Call (.Attribute o m apos) [] [] pos) (qAp c m F go aNil) := by
 try unfold PDE at *
 refine PE.imp (pe_meth0 ho hc hM O hr hb .nil hx ht) fun σ H Q ⟨W, δ, rr, hS, hδ, hg, hA⟩ => ?_
 refine Go.thn hS hδ hg hA fun d H1 W1 s1 hδ1 hg1 hA1 v rv => ?_
 unfold methK at hg1
 split at hg1
 ·rename_i a
  split at hg1
  ·rename_i c' fs hi
   split at hg1
   ·rename_i ec
    obtain ⟨ec, hl⟩ := ec
    subst ec
    obtain ⟨dx, qs, q, n, r⟩ := s1.ok.inst hm hi
    refine ⟨_, dx, qs, rv.2, q, qD4 n hl, ?_⟩
    rw [rv.2]
    exact ⟨W1, [.ref a], rr, s1.ok, ⟨_, _, rfl, by rw [<- rv.2]; exact rv, rfl⟩, hg1, hA1⟩
   ·cases hg1
  ·cases hg1
 ·cases hg1
theorem pd_make {CX : CXT} {k : Nat} {fa : Addr} {fd : FuncData} {ps : List Str} {F : List D -> Sto -> R D} {es : List Expr} {gs : DA} {p : Pos} (hM : Mk X.K C fa) (hm : X.mg c = some (.ref C)) (O : FnOk X.prog X.w X.K X.mg X.base CX k fa fd ps (spF (gx X) F)) (hr : Room (k + 1) X.A) (hg : Gl X c) (hb : zV X.K fd ps []) (hx : qB6 CX X E) (ha : PDA X E (e :: es) gs)
  (hdb : (c == ("__debug__" : Str)) = false := by decide +kernel) (he : starEach (e :: es) X.env = (false, eval e X.env) :: starEach es X.env := by rfl) (hpl : (backTo pos (starEach es X.env)).any (·.1) = false := by rfl) :
  PDE X E (.Call (.Name c p) (e :: es) [] pos) (mkE c F gs) := by
 try unfold PDE at *
 try unfold PDA at *
 refine PE.imp (pe_make hM O hr hg hm hb .nil hx ha hdb he hpl) fun σ H Q ⟨W, δ, rr, hS, hδ, hg, hA⟩ => ?_
 refine Go.thn hS hδ hg hA fun as H1 W1 s1 hδ1 hg1 hA1 vs rvs x dx nx ndx ne => ?_
 have n1 := Nxt.heap s1.ok ndx (.own x)
 have nx' : upd H1 dx (.own x) x = none := by rw [zO (Ne.symm ne)]; exact nx
 have n2 : Nxt (gx X) (upd H1 dx (.own x)) W1 (upd (upd H1 dx (.own x)) x (.ins C dx [])) (W1.push x (.ins c [])) := Nxt.alloc n1.ok nx' ⟨C, dx, [], hm, zX, rfl, rfl⟩
 have n12 := n1.trans n2
 have hμ : (W1.push x (.ins c [])).μ W1.S.length = x := if_pos rfl
 have hl : W1.S.length < (W1.push x (.ins c [])).S.length := by simp [Wd.push]
 unfold mkA at hg1
 cases hF : F (.ref W1.S.length :: as) (W1.S ++ [.ins c []]) with
 | none => rw [hF] at hg1; cases hg1
 | some r =>
  rw [hF] at hg1
  refine ⟨W1.push x (.ins c []), .ref W1.S.length :: as, r, n12.ok, ?_, hF, ?_⟩
  ·rw [jBh]
   exact ⟨_, _, rfl, ⟨hl, by rw [hμ]⟩, rvs.mv (n12.mv s1.ok)⟩
  ·cases r with
   | ok d S' =>
    cases d with
    | non =>
     obtain rfl : Rs.ok (D.ref W1.S.length) S' = rr := Option.some.inj hg1
     intro H' W' eS n3 v rv
     refine ⟨rv, hA1 H' W' eS (n12.trans n3) _ ⟨jAd hl n3.len, ?_⟩⟩
     rw [n3.old _ hl, hμ]
    | _ => cases hg1
   | er c' S' =>
    obtain rfl : Rs.er c' S' = rr := Option.some.inj hg1
    obtain ⟨C', hC', h⟩ := hA1
    exact ⟨C', hC', fun H' W' eS n3 => h H' W' eS (n12.trans n3)⟩
end
end Np
end
section
namespace Np
open PySem PySem.Spec PyProof.Rows L2
section
variable (P : Program) (w : World) (K : PySem.W.Frag) (mg : Str -> Option Value) (base : Heap)
structure Fk (k : Nat) (x : Str) (F : List D -> Sto -> R D) : Prop where
 ex : ∃ (ps : List Str) (f : Addr) (d : FuncData), FnOk P w K mg base CX0 k f d ps (spF ⟨K, mg⟩ F) /\ zV K d ps [] /\ jBc K (.ref f) = true /\ mg x = some (.ref f)
structure Ff (c f : Str) : Prop where
 ex : ∃ C : Addr, mg c = some (.ref C) /\ Cls K C /\ qC6 K C f
structure Fme (k : Nat) (c m : Str) (ds : List Value) (F : List D -> Sto -> R D) : Prop where
 ex : ∃ (C : Addr) (ps : List Str) (f : Addr) (d : FuncData), mg c = some (.ref C) /\ Cls K C /\ Meth K C m f /\ FnOk P w K mg base CX0 k f d ps (spF ⟨K, mg⟩ F) /\ zV K d ps ds
structure Fn (k : Nat) (c : Str) (F : List D -> Sto -> R D) : Prop where
 ex : ∃ (C : Addr) (ps : List Str) (f : Addr) (d : FuncData), mg c = some (.ref C) /\ Mk K C f /\ FnOk P w K mg base CX0 k f d ps (spF ⟨K, mg⟩ F) /\ zV K d ps []
end
section
variable {X : Cx} {E : XK} {e e2 ek o value : Expr} {es : List Expr} {go ge gv g1 g2 gk : DE} {gs : DA} {pos pos' apos p kpos : Pos} {j k : Nat} {x c m fl kw : Str} {f : List D -> Sto -> R D}
theorem pd_fB (B : Fk X.prog X.w X.K X.mg X.base j x f) (hr : Room k X.A) (hg : Gl X x) (hx : qB6 CX0 X E) (ha : PDA X E (e :: es) gs) (hj : j <= k := by first | decide | omega) (hdb : (x == ("__debug__" : Str)) = false := by decide +kernel) (he : starEach (e :: es) X.env = (false, eval e X.env) :: starEach es X.env := by rfl)
  (hpl : (backTo pos (starEach es X.env)).any (·.1) = false := by rfl) : PDE X E (.Call (.Name x p) (e :: es) [] pos) (fnE f gs) := by
 obtain ⟨ps, fa, fd, O, hb, hk, hm⟩ := B.ex
 exact pd_fn (O.mono hj) hr hg hm hk hb hx ha hdb he hpl
theorem pd_ff (B : Ff X.K X.mg c fl) (he : PDE X E e ge) (hb : attributeBase e fl X.env (eval e X.env) = eval e X.env := by rfl) : PDE X E (.Attribute e fl pos) (op1 (fldD c fl) ge) := by
 obtain ⟨C, hm, hc, hn⟩ := B.ex
 exact pd_fld hc hn hm he hb
theorem pd_fs (B : Ff X.K X.mg c fl) (ho : PDE X E o go) (hv : PDE X E value gv) (hs : swapsWith value (some (.Attribute o fl pos')) pos.line X.env = pure false := by rfl) : PDS X E (.Assign [.Attribute o fl pos'] value pos) (qCt c fl go gv) := by
 obtain ⟨C, hm, hc, hn⟩ := B.ex
 exact pd_setf hc hn hm ho hv hs
theorem pd_fm0 {pl : Sem Bool} (B : Fme X.prog X.w X.K X.mg X.base j c m [] f) (hr : Room k X.A) (hx : qB6 CX0 X E) (ho : PDE X E o go) (hj : j <= k := by decide)
  (ht : eval (.Call (.Attribute o m apos) [] [] pos) X.env = (do
   let ov <- eval o X.env
   standAt apos.atName
   let (f, first) <- holding [ov] (getMethod ov m pl)
   callWith pos f first (backTo pos (starEach [] X.env)) (backToKw pos (keywordEach [] X.env))) := by rfl) : PDE X E (.Call (.Attribute o m apos) [] [] pos) (qAp c m f go aNil) := by
 obtain ⟨C, ps, fa, fd, hm, hc, hM, O, hb⟩ := B.ex
 exact pd_meth0 hc hM hm (O.mono hj) hr hb hx ho ht
theorem pd_fn' (B : Fn X.prog X.w X.K X.mg X.base j c f) (hr : Room k X.A) (hg : Gl X c) (hx : qB6 CX0 X E) (ha : PDA X E (e :: es) gs) (hj : j + 1 <= k := by decide)
  (hdb : (c == ("__debug__" : Str)) = false := by decide +kernel) (he : starEach (e :: es) X.env = (false, eval e X.env) :: starEach es X.env := by rfl) (hpl : (backTo pos (starEach es X.env)).any (·.1) = false := by rfl) :
  PDE X E (.Call (.Name c p) (e :: es) [] pos) (mkE c f gs) := by
 obtain ⟨C, ps, fa, fd, hm, hM, O, hb⟩ := B.ex
 obtain ⟨i, rfl⟩ : ∃ i, k = i + 1 := ⟨k - 1, by omega⟩
 exact pd_make hM hm (O.mono (Nat.le_of_succ_le_succ hj)) hr hg hb hx ha hdb he hpl
end
def ownN : Expr -> List Str
 | .Name x _ => [x]
 | .Tuple es _ _ => es.filterMap fun e => match e with
  | .Name x _ => some x
  | _ => none
 | _ => []
def CokP (N : List Str) (fsc : Scope) (N' : List Str) (scope : Scope) : Prop :=
 (∀ x ∈ scope.names, x.2 = .local -> scope.names.lookup x.1 = some .local) /\ (∀ x ∈ scope.names, x.2 = .cell -> scope.names.lookup x.1 = some .cell) /\
 (∀ x ∈ scope.names, x.2 = .free -> scope.names.lookup x.1 = some .free /\ (fsc.names.lookup x.1 = some .cell \/ fsc.names.lookup x.1 = some .free)) /\
 ((jAg N.length).all fun i => match N'[i]? with
  | some x => (match scope.names.lookup x with
   | some .local => false
   | some .cell => false
   | some .free => N[i]? == some x
   | _ => true)
  | none => true) = true /\ N'.Nodup
instance {N N' : List Str} {fsc scope : Scope} : Decidable (CokP N fsc N' scope) := by unfold CokP; infer_instance
theorem cok {N own : List Str} {fsc scope : Scope} (hk : scope.kind = .function) (h : decide (CokP N fsc (N ++ own) scope) = true) : qBp N fsc (N ++ own) scope := by
 obtain ⟨a, b, c, d, e⟩ := of_decide_eq_true h
 exact ⟨hk, a, b, c, d, by rw [jBu]; exact Nat.le_add_right .., e⟩
def renN (N own : List Str) : List Str := N.map (fun x => if own.contains x then x ++ ("~" : Str) else x) ++ own
theorem cok' {N N' : List Str} {fsc scope : Scope} (hk : scope.kind = .function) (h : decide (CokP N fsc N' scope) = true) (hl : N.length <= N'.length) : qBp N fsc N' scope := by
 obtain ⟨a, b, c, d, e⟩ := of_decide_eq_true h
 exact ⟨hk, a, b, c, d, hl, e⟩
section
variable {X : Cx} {E : XK} {elt iter tg ce : Expr} {scope : Scope} {pos spos py : Pos} {y : Str} {gi : DI} {g : DG} {gc : DT} {ge : DE} {k : Nat}
theorem pd_cR (hcal : X.calm = true) (hi : PDI X E tg iter gi) (hg : (renN X.N (ownN tg)).Nodup -> ∀ C s₃ H₃ ex pn, PDG (qAa X (renN X.N (ownN tg)) scope C s₃ H₃ ex pn) E0 tg g) (he : ∀ C s₃ H₃ ex pn, PDE (qAa X (renN X.N (ownN tg)) scope C s₃ H₃ ex pn) E0 elt ge) (hin : (ownN tg).all (fun x => X.N.contains x) = true := by rfl)
  (hk : scope.kind = .function := by rfl) (h : decide (CokP X.N X.env.scope (renN X.N (ownN tg)) scope) = true := by kernel_rfl) (hlen : X.N.length + k = (renN X.N (ownN tg)).length := by rfl) (hs : ∀ x, foldedSetIterable iter X.env x = pure x := by intro _; rfl) : PDE X E (.ListComp elt [⟨tg, iter, [], 0⟩] scope pos) (qAj gi k g ge) :=
 pd_comp k (cok' hk h (by omega)) hcal hi (hg (cok' hk h (by omega)).nd) he hlen hs
theorem pd_cB (hcal : X.calm = true) (hi : PDI X E tg iter gi) (hg : (X.N ++ ownN tg).Nodup -> ∀ C s₃ H₃ ex pn, PDG (qAa X (X.N ++ ownN tg) scope C s₃ H₃ ex pn) E0 tg g) (he : ∀ C s₃ H₃ ex pn, PDE (qAa X (X.N ++ ownN tg) scope C s₃ H₃ ex pn) E0 elt ge)
  (hk : scope.kind = .function := by rfl) (h : decide (CokP X.N X.env.scope (X.N ++ ownN tg) scope) = true := by kernel_rfl) (hlen : X.N.length + k = (X.N ++ ownN tg).length := by rfl) (hs : ∀ x, foldedSetIterable iter X.env x = pure x := by intro _; rfl) : PDE X E (.ListComp elt [⟨tg, iter, [], 0⟩] scope pos) (qAj gi k g ge) :=
 pd_comp k (cok hk h) hcal hi (hg (cok hk h).nd) he hlen hs
theorem pd_cI (hcal : X.calm = true) (hi : PDI X E tg iter gi) (hg : (X.N ++ ownN tg).Nodup -> ∀ C s₃ H₃ ex pn, PDG (qAa X (X.N ++ ownN tg) scope C s₃ H₃ ex pn) E0 tg g) (hc : ∀ C s₃ H₃ ex pn, PDT (qAa X (X.N ++ ownN tg) scope C s₃ H₃ ex pn) E0 ce gc) (he : ∀ C s₃ H₃ ex pn, PDE (qAa X (X.N ++ ownN tg) scope C s₃ H₃ ex pn) E0 elt ge)
  (hk : scope.kind = .function := by rfl) (h : decide (CokP X.N X.env.scope (X.N ++ ownN tg) scope) = true := by kernel_rfl) (hlen : X.N.length + k = (X.N ++ ownN tg).length := by rfl) (hs : ∀ x, foldedSetIterable iter X.env x = pure x := by intro _; rfl) : PDE X E (.ListComp elt [⟨tg, iter, [ce], 0⟩] scope pos) (qEk gi k g gc ge) :=
 pd_compI k (cok hk h) hcal hi (hg (cok hk h).nd) hc he hlen hs
theorem pd_sB {j : Nat} (hcal : X.calm = true) (hi : PDI X E tg iter gi) (hg : (X.N ++ ownN tg).Nodup -> ∀ C s₃ H₃ ex pn, PDG (qAa X (X.N ++ ownN tg) scope C s₃ H₃ ex pn) E0 tg g) (he : ∀ C s₃ H₃ ex pn, PDE (qAa X (X.N ++ ownN tg) scope C s₃ H₃ ex pn) E0 elt ge)
  (hN : X.N.Nodup) (hk : scope.kind = .function := by rfl) (h : decide (CokP X.N X.env.scope (X.N ++ ownN tg) scope) = true := by kernel_rfl) (hj : X.N[j]? = some y := by rfl) (hy : X.env.scope.names.lookup y = some .local := by rfl) (hsw : swapsWith (.ListComp elt [⟨tg, iter, [], 0⟩] scope pos) (some (.Name y py)) spos.line X.env = pure true := by rfl)
  (hlen : X.N.length + k = (X.N ++ ownN tg).length := by rfl) (hs : ∀ x, foldedSetIterable iter X.env x = pure x := by intro _; rfl) : PDS X E (.Assign [.Name y py] (.ListComp elt [⟨tg, iter, [], 0⟩] scope pos) spos) (setS j (qAj gi k g ge)) :=
 qEu j k (cok hk h) hcal hi (hg (cok hk h).nd) he hN hj hy hsw hlen hs
theorem pd_sI {j : Nat} (hcal : X.calm = true) (hi : PDI X E tg iter gi) (hg : (X.N ++ ownN tg).Nodup -> ∀ C s₃ H₃ ex pn, PDG (qAa X (X.N ++ ownN tg) scope C s₃ H₃ ex pn) E0 tg g) (hc : ∀ C s₃ H₃ ex pn, PDT (qAa X (X.N ++ ownN tg) scope C s₃ H₃ ex pn) E0 ce gc) (he : ∀ C s₃ H₃ ex pn, PDE (qAa X (X.N ++ ownN tg) scope C s₃ H₃ ex pn) E0 elt ge)
  (hN : X.N.Nodup) (hk : scope.kind = .function := by rfl) (h : decide (CokP X.N X.env.scope (X.N ++ ownN tg) scope) = true := by kernel_rfl) (hj : X.N[j]? = some y := by rfl) (hy : X.env.scope.names.lookup y = some .local := by rfl) (hsw : swapsWith (.ListComp elt [⟨tg, iter, [ce], 0⟩] scope pos) (some (.Name y py)) spos.line X.env = pure true := by rfl)
  (hlen : X.N.length + k = (X.N ++ ownN tg).length := by rfl) (hs : ∀ x, foldedSetIterable iter X.env x = pure x := by intro _; rfl) : PDS X E (.Assign [.Name y py] (.ListComp elt [⟨tg, iter, [ce], 0⟩] scope pos) spos) (setS j (qEk gi k g gc ge)) :=
 pd_setCompI j k (cok hk h) hcal hi (hg (cok hk h).nd) hc he hN hj hy hsw hlen hs
end
def Fd (K : PySem.W.Frag) (x q : Str) (st : Stmt) (f : Addr) (dV : Value) : Prop := ∃ (oc : Value) (od : Option Addr) (kV dc pm : Value) (an : Option Addr) (cd ct : Value) (sl : Array (Option Value)), K.lookup f = some ⟨oc, od, .func (jBw x q (zI st) (zG st) (zC st) dV kV dc pm an cd ct), sl⟩ /\ jBx K cd q = true /\ jBc K (.ref f) = true
def Ga (K : PySem.W.Frag) (x : Str) (st : Stmt) : Prop := ∃ f, jCl K mainGlobals x = some (some (.ref f)) /\ Fd K x x st f .none
def Ge (K : PySem.W.Frag) (x : Str) (st : Stmt) : Prop := ∃ (f T : Addr) (dT : Option Addr) (nT : Nat) (sT : Array (Option Value)), jCl K mainGlobals x = some (some (.ref f)) /\ Fd K x x st f (.ref T) /\ K.lookup T = some ⟨.type "tuple", dT, .seq #[.none] nT, sT⟩
def Gc (K : PySem.W.Frag) (c : Str) : Prop := ∃ C : Addr, jCl K mainGlobals c = some (some (.ref C)) /\ jA0 K C Str.empty = true /\ jA1 K C = true /\ jA5 K C = true /\ jA2 K (.ref C) "__setattr__" = some (some (.builtin "object.__setattr__"))
def Gn (K : PySem.W.Frag) (c : Str) : Prop := ∃ C : Addr, jCl K mainGlobals c = some (some (.ref C)) /\ jA8 K C = true /\ jBc K (.ref C) = true
def Gf (K : PySem.W.Frag) (c f : Str) : Prop := ∃ C : Addr, jCl K mainGlobals c = some (some (.ref C)) /\ jA2 K (.ref C) f = some none
def Gm (K : PySem.W.Frag) (c m q : Str) (st : Stmt) : Prop := ∃ C f : Addr, jCl K mainGlobals c = some (some (.ref C)) /\ jA2 K (.ref C) m = some (some (.ref f)) /\ jA4 K (.ref f) = true /\ Fd K m q st f .none
def Gd (K : PySem.W.Frag) (c m q : Str) (st : Stmt) : Prop := ∃ (C f T : Addr) (dT : Option Addr) (nT : Nat) (sT : Array (Option Value)), jCl K mainGlobals c = some (some (.ref C)) /\ jA2 K (.ref C) m = some (some (.ref f)) /\ jA4 K (.ref f) = true /\ Fd K m q st f (.ref T) /\ K.lookup T = some ⟨.type "tuple", dT, .seq #[.none] nT, sT⟩
def allU : Nat -> (List Value -> Prop) -> Prop
 | 0, p => p []
 | n + 1, p => ∀ v, allU n fun us => p (v :: us)
theorem qEm : ∀ {n : Nat} {p : List Value -> Prop}, allU n p -> ∀ us, us.length = n -> p us
 | 0, p, h, [], _ => h
 | n + 1, p, h, v :: us, e => qEm (h v) us (Nat.succ.inj e)
section
variable {P : Program} {w : World} {K : PySem.W.Frag} {mg : Str -> Option Value} {base h : Heap} {x c m q : Str} {st : Stmt} {k : Nat} {F : List D -> Sto -> R D} {g : DSt} {f : Addr}
def Bo (P : Program) (w : World) (K : PySem.W.Frag) (mg : Str -> Option Value) (base : Heap) (q : Str) (st : Stmt) (N : List Str) (k : Nat) (g : DSt) : Prop := ∀ (f : Addr) (cdv : Value) (A : Around) (outer : List Env) (s : Shared) (H : Hp), Room k (A.deeper (envOfC q (zC st) s.heap.objs.size f cdv)) -> N.Nodup -> PDSs (cxOf CX0 P w K mg base N q (zC st) f cdv A outer s H E0).nox E0 (zG st) g
theorem Bo.ok {N : List Str} {i : Nat} {fd : FuncData} (B : Bo P w K mg base q st N k g) (G : FunG K x q st f fd) (S : zN N (N.take i) (zC st)) (hi : (N.take i).length = i) (hF : F = fnF N.length i g) : FnOk P w K mg base CX0 (k + 1) f fd (N.take i) (spF ⟨K, mg⟩ F) := by
 cases FunG.ex G with
 | intro dV r => 
  have hq : ∀ (cdv : Value) (A : Around) (outer : List Env) (s : Shared) (H : Hp), Room k (A.deeper (envOfC q (zC st) s.heap.objs.size f cdv)) -> PDSs (cxOf CX0 P w K mg base N q (zC st) f cdv A outer s H E0).nox E0 (zG st) g := fun cdv A outer s H hr => B f cdv A outer s H hr S.nd
  exact fn_N N.length i g hF G S rfl hi hq
theorem Ga.fk {N : List Str} {i : Nat} (P : Program) (w : World) (base : Heap) (G : Ga K x st) (hX : K.In h) (hG : h.Ns mainGlobals mg) (B : Bo P w K mg base x st N k g) (hF : F = fnF N.length i g := by rfl) (S : zN N (N.take i) (zC st) := by exact ⟨rfl, rfl, rfl, by decide +kernel, rfl, by decide +kernel, by decide +kernel⟩) (hi : (N.take i).length = i := by rfl)
  (hb : ∀ (kV doc pm : Value) (an : Option Addr) (cdv ct : Value), allU i fun us => bindArgs (jBw x x (zI st) (zG st) (zC st) .none kV doc pm an cdv ct) ⟨us, []⟩ = pure ((N.take i).zip us) := by intros; (repeat intro _); rfl) : Fk P w K mg base (k + 1) x F := by
 obtain ⟨f, a, oc, od, kV, dc, pm, an, cd, ct, sl, l, c, kp⟩ := G
 have R := yE (st := st) l c kp
 exact ⟨⟨_, f, _, B.ok R.g S hi hF, R.binds fun kV doc pm an cdv ct us hl => qEm (hb kV doc pm an cdv ct) us (hl.trans hi), kp, jCm hX hG a⟩⟩
theorem Gm.fm {N : List Str} {i : Nat} (P : Program) (w : World) (base : Heap) (G : Gm K c m q st) (hc : Gc K c) (hX : K.In h) (hG : h.Ns mainGlobals mg) (B : Bo P w K mg base q st N k g) (hF : F = fnF N.length i g := by rfl) (S : zN N (N.take i) (zC st) := by exact ⟨rfl, rfl, rfl, by decide +kernel, rfl, by decide +kernel, by decide +kernel⟩) (hi : (N.take i).length = i := by rfl)
  (hb : ∀ (kV doc pm : Value) (an : Option Addr) (cdv ct : Value), allU i fun us => bindArgs (jBw m q (zI st) (zG st) (zC st) .none kV doc pm an cdv ct) ⟨us, []⟩ = pure ((N.take i).zip us) := by intros; (repeat intro _); rfl) : Fme P w K mg base (k + 1) c m [] F := by
 obtain ⟨C, f, aC, a, fn, oc, od, kV, dc, pm, an, cd, ct, sl, l, c', kp⟩ := G
 obtain ⟨C', aC', pg, hd, po, sa⟩ := hc
 rw [aC] at aC'
 cases aC'
 have R := yE (st := st) l c' kp
 exact ⟨⟨C, _, f, _, jCm hX hG aC, ⟨pg, hd, po, sa⟩, ⟨a, fn, kp⟩, B.ok R.g S hi hF, R.binds fun kV doc pm an cdv ct us hl => qEm (hb kV doc pm an cdv ct) us (hl.trans hi)⟩⟩
theorem Gm.fn {N : List Str} {i : Nat} (P : Program) (w : World) (base : Heap) (G : Gm K c "__init__" q st) (hn : Gn K c) (hX : K.In h) (hG : h.Ns mainGlobals mg) (B : Bo P w K mg base q st N k g) (hF : F = fnF N.length i g := by rfl) (S : zN N (N.take i) (zC st) := by exact ⟨rfl, rfl, rfl, by decide +kernel, rfl, by decide +kernel, by decide +kernel⟩) (hi : (N.take i).length = i := by rfl)
  (hb : ∀ (kV doc pm : Value) (an : Option Addr) (cdv ct : Value), allU i fun us => bindArgs (jBw "__init__" q (zI st) (zG st) (zC st) .none kV doc pm an cdv ct) ⟨us, []⟩ = pure ((N.take i).zip us) := by intros; (repeat intro _); rfl) : Fn P w K mg base (k + 1) c F := by
 obtain ⟨C, f, aC, a, fn, oc, od, kV, dc, pm, an, cd, ct, sl, l, c', kp⟩ := G
 obtain ⟨C', aC', mk, kC⟩ := hn
 rw [aC] at aC'
 cases aC'
 have R := yE (st := st) l c' kp
 exact ⟨⟨C, _, f, _, jCm hX hG aC, ⟨mk, a, fn, kC⟩, B.ok R.g S hi hF, R.binds fun kV doc pm an cdv ct us hl => qEm (hb kV doc pm an cdv ct) us (hl.trans hi)⟩⟩
theorem Gf.ff {fl : Str} (G : Gf K c fl) (hc : Gc K c) (hX : K.In h) (hG : h.Ns mainGlobals mg) : Ff K mg c fl := by
 obtain ⟨C, aC, n⟩ := G
 obtain ⟨C', aC', pg, hd, po, sa⟩ := hc
 rw [aC] at aC'
 cases aC'
 exact ⟨⟨C, jCm hX hG aC, ⟨pg, hd, po, sa⟩, n⟩⟩
theorem FunD.b0 {ps : List Str} {fd : FuncData} {T : Addr} {items : Array Value} {i : Nat} {ds : List Value} (R : FunD K x q st f fd T items) (hi : ps.length = i + ds.length)
  (hb : ∀ (kV doc pm : Value) (an : Option Addr) (cdv ct : Value), allU i fun us => ∃ k' : Option (Array Value) -> Sem (List (Str × Value)), bindArgs (jBw x q (zI st) (zG st) (zC st) (.ref T) kV doc pm an cdv ct) ⟨us, []⟩ = seqItems? (.ref T) >>= k' /\ k' (some items) = pure (ps.zip (us ++ ds))) : zV K fd ps ds := fun s us KX hl =>
 R.bindsTo KX fun kV doc pm an cdv ct => qEm (hb kV doc pm an cdv ct) us (by rw [jBu, hi] at hl; exact Nat.add_right_cancel hl)
theorem Ge.fk {N : List Str} {i : Nat} (P : Program) (w : World) (base : Heap) (G : Ge K x st) (hX : K.In h) (hG : h.Ns mainGlobals mg) (B : Bo P w K mg base x st N k g) (hF : F = fnF N.length i g := by rfl) (S : zN N (N.take i) (zC st) := by exact ⟨rfl, rfl, rfl, by decide +kernel, rfl, by decide +kernel, by decide +kernel⟩) (hi : (N.take i).length = i := by rfl)
  (hb : ∀ (T : Addr) (kV doc pm : Value) (an : Option Addr) (cdv ct : Value), allU i fun us => ∃ k' : Option (Array Value) -> Sem (List (Str × Value)), bindArgs (jBw x x (zI st) (zG st) (zC st) (.ref T) kV doc pm an cdv ct) ⟨us, []⟩ = seqItems? (.ref T) >>= k' /\ k' (some #[.none]) = pure ((N.take i).zip (us ++ [])) := by intros; (repeat intro _); exact ⟨_, rfl, rfl⟩) : Fk P w K mg base (k + 1) x F := by
 obtain ⟨f, T, dT, nT, sT, a, ⟨oc, od, kV, dc, pm, an, cd, ct, sl, l, c, kp⟩, lT⟩ := G
 have R := funD_mk (st := st) l c lT rfl
 exact ⟨⟨_, f, _, B.ok R.g S hi hF, R.b0 (i := i) hi (hb T), kp, jCm hX hG a⟩⟩
end
section
variable {K : PySem.W.Frag} {x c m q fl : Str} {st : Stmt} {f C T : Addr} {dV oc : Value} {od : Option Addr} {kV dc pm : Value} {an : Option Addr} {cd ct : Value} {sl : Array (Option Value)} {dT : Option Addr} {nT : Nat} {sT : Array (Option Value)}
theorem Ga.of (a : jCl K mainGlobals x = some (some (.ref f))) (l : K.lookup f = some ⟨oc, od, .func (jBw x x (zI st) (zG st) (zC st) .none kV dc pm an cd ct), sl⟩) (c : jBx K cd x = true) (k : jBc K (.ref f) = true) : Ga K x st := ⟨f, a, oc, od, kV, dc, pm, an, cd, ct, sl, l, c, k⟩
theorem Ge.of (a : jCl K mainGlobals x = some (some (.ref f))) (l : K.lookup f = some ⟨oc, od, .func (jBw x x (zI st) (zG st) (zC st) (.ref T) kV dc pm an cd ct), sl⟩) (c : jBx K cd x = true) (k : jBc K (.ref f) = true) (t : K.lookup T = some ⟨.type "tuple", dT, .seq #[.none] nT, sT⟩) : Ge K x st := ⟨f, T, dT, nT, sT, a, ⟨oc, od, kV, dc, pm, an, cd, ct, sl, l, c, k⟩, t⟩
theorem Gm.of (a : jCl K mainGlobals c = some (some (.ref C))) (b : jA2 K (.ref C) m = some (some (.ref f))) (i : jA4 K (.ref f) = true) (l : K.lookup f = some ⟨oc, od, .func (jBw m q (zI st) (zG st) (zC st) .none kV dc pm an cd ct), sl⟩) (c' : jBx K cd q = true) (k : jBc K (.ref f) = true) : Gm K c m q st := ⟨C, f, a, b, i, oc, od, kV, dc, pm, an, cd, ct, sl, l, c', k⟩
theorem Gd.of (a : jCl K mainGlobals c = some (some (.ref C))) (b : jA2 K (.ref C) m = some (some (.ref f))) (i : jA4 K (.ref f) = true) (l : K.lookup f = some ⟨oc, od, .func (jBw m q (zI st) (zG st) (zC st) (.ref T) kV dc pm an cd ct), sl⟩) (c' : jBx K cd q = true) (k : jBc K (.ref f) = true) (t : K.lookup T = some ⟨.type "tuple", dT, .seq #[.none] nT, sT⟩) : Gd K c m q st := ⟨C, f, T, dT, nT, sT, a, b, i, ⟨oc, od, kV, dc, pm, an, cd, ct, sl, l, c', k⟩, t⟩
theorem Gc.of (a : jCl K mainGlobals c = some (some (.ref C))) (b : jA0 K C Str.empty = true) (d : jA1 K C = true) (e : jA5 K C = true) (g : jA2 K (.ref C) "__setattr__" = some (some (.builtin "object.__setattr__"))) : Gc K c := ⟨C, a, b, d, e, g⟩
theorem Gn.of (a : jCl K mainGlobals c = some (some (.ref C))) (b : jA8 K C = true) (d : jBc K (.ref C) = true) : Gn K c := ⟨C, a, b, d⟩
theorem Gf.of (a : jCl K mainGlobals c = some (some (.ref C))) (b : jA2 K (.ref C) fl = some none) : Gf K c fl := ⟨C, a, b⟩
end
abbrev kh (P : Params) (x : Str) (n : Nat) (v : Value) : DictEntry := ⟨PySem.PyData.keyHash P x, .str x n, v⟩
abbrev cb (x q : Str) (n l i r1 r2 : Nat) (v3 v4 : Value) (r5 u : Nat) : Obj :=
 ⟨.type "code", none, .fields [.str x n, .str q (n + 1), .str "/claim/cut.py" (n + 2), .int l 0, .int i 0, .int 0 0, .int 0 0, .int 3 0, .ref r1, .bool true, .int 181 0, .ref r2, .none, v3, v4, .ref r5, .int u 0, .int l 0, .str "/claim/cut.py" (u + 1)].toArray, [].toArray⟩
abbrev fo (x q : Str) (st : Stmt) (dV pm : Value) (a : Nat) : Obj := ⟨.type "function", none, .func (jBw x q (zI st) (zG st) (zC st) dV .none .none pm none (.ref a) .none), [].toArray⟩
end Np
end
section
namespace Np
open PySem PySem.Spec PyProof.Rows L2
section
variable {X : Cx} {E : XK} {pos : Pos}
def gLst (K : PySem.W.Frag) (n : Nat) (t : TGs) : TG := fun v σ H Q => ∃ a xs, v = .ref a /\ SqL K H a xs /\ xs.length = n /\ t xs σ H Q
theorem pg_lst {es : List Expr} {k : Nat} {t : TGs} {n : Nat} (hc : X.calm = true) (h : PGs X es t)
  (hn : (assignEach es X.env).length = n := by rfl) (hst : (assignEach es X.env).findIdx? (·.1) = none := by rfl) : PG X (.Tuple es k pos) (gLst X.K n t) := by
 intro pins s σ H v u Q I r hw
 obtain ⟨a, xs, e1, hq, hl, hw⟩ := hw
 subst e1
 cases r
 obtain ⟨its, rv, ht, hz⟩ := I.list hq
 have hi : s.heap.IsList a its.toArray := by
  obtain ⟨o, n, e, c, _, d⟩ := ht
  exact ⟨o, e, c, n, d⟩
 have hsz : (assignEach es X.env).length = its.toArray.size := by simp [hn, <- hl, rv.length]
 rw [assign_Tuple]
 refine wpAny_bind (wpAny_standAt ?_)
 unfold unpack
 rw [hsz, hst]
 refine wpAny_bind (wpAny_holding (PySem.W.kun_itemsOf (I.ok.hd hc) hi fun h' hx => ?_))
 have I1 : Inv X pins σ H { s with heap := h' } := I.kept (t' := s.toks) fun b o e => hx b o (jAf (jAc e)) e
 exact h pins _ σ H xs _ Q I1 (by simpa using rv) hw
theorem pdg_lst {ts : List Expr} {k : Nat} {gs : List DG} (hc : X.calm = true) (h : PDGs X E ts gs) (hn : (assignEach ts X.env).length = gs.length := by rfl) (hst : (assignEach ts X.env).findIdx? (·.1) = none := by rfl) : PDG X E (.Tuple ts k pos) (lstG gs) := by
 unfold PDGs at *
 unfold PDG at *
 intro pins s σ H v u Q I rv h'
 obtain ⟨W, δ, d, rr, hS, hδ, hd, hg, hA⟩ := h'
 unfold lstG at hg
 split at hg
 ·rename_i i
  split at hg
  ·rename_i ds hi
   split at hg
   ·rename_i l
    obtain ⟨xs, e, q, r⟩ := hS.lst hd hi
    exact pg_lst (n := gs.length) hc h hn hst pins s σ H v u Q I rv ⟨_, xs, e, .inl (.inl q), by rw [<- r.length]; exact l, W, δ, ds, rr, hS, hδ, r, hg, hA⟩
   ·cases hg
  ·cases hg
 ·cases hg
end
section
variable {X : Cx} {E : XK} {elt iter tg ce : Expr} {scope : Scope} {pos spos py : Pos} {y : Str} {gi : DI} {g : DG} {gc : DT} {ge : DE} {k : Nat}
theorem pd_sR {j : Nat} (hcal : X.calm = true) (hi : PDI X E tg iter gi) (hg : (renN X.N (ownN tg)).Nodup -> ∀ C s₃ H₃ ex pn, PDG (qAa X (renN X.N (ownN tg)) scope C s₃ H₃ ex pn) E0 tg g) (he : ∀ C s₃ H₃ ex pn, PDE (qAa X (renN X.N (ownN tg)) scope C s₃ H₃ ex pn) E0 elt ge)
  (hN : X.N.Nodup) (hin : (ownN tg).all (fun x => X.N.contains x) = true := by rfl) (hk : scope.kind = .function := by rfl) (h : decide (CokP X.N X.env.scope (renN X.N (ownN tg)) scope) = true := by kernel_rfl) (hj : X.N[j]? = some y := by rfl) (hy : X.env.scope.names.lookup y = some .local := by rfl) (hsw : swapsWith (.ListComp elt [⟨tg, iter, [], 0⟩] scope pos) (some (.Name y py)) spos.line X.env = pure true := by rfl)
  (hlen : X.N.length + k = (renN X.N (ownN tg)).length := by rfl) (hs : ∀ x, foldedSetIterable iter X.env x = pure x := by intro _; rfl) : PDS X E (.Assign [.Name y py] (.ListComp elt [⟨tg, iter, [], 0⟩] scope pos) spos) (setS j (qAj gi k g ge)) :=
 qEu j k (cok' hk h (by omega)) hcal hi (hg (cok' hk h (by omega)).nd) he hN hj hy hsw hlen hs
end
end Np
end
section
namespace Np
open PySem PySem.Spec PyProof.Rows L2
theorem op_fdivC {X : Cx} {N' : List Str} {scope : Scope} {C : Addr} {s₃ : Shared} {H₃ : Hp} {ex : List Addr} {pn : List (Addr × Obj)} {k : Nat} (hr : Room k X.A) (ht : X.prog.given.tree = none) (hst : X.stack = X.env :: X.outer) (hgen : X.env.scope.isGenerator = false) (hco : X.env.scope.isCoroutine = false) :
  OpR (qAa X N' scope C s₃ H₃ ex pn) (binaryOp .FloorDiv) (rI (fun _ j => j ≠ 0) fun i j => .int (i.fdiv j)) := by
 intro pins s σ H x y v u Q I rx ry h
 obtain ⟨i, j, rfl, rfl, hc, q⟩ := h
 obtain ⟨t, rfl⟩ := rx
 obtain ⟨t', rfl⟩ := ry
 refine floordiv_int hc ⟨.int _, H, I.tok _, ⟨_, rfl⟩, q⟩ (.inr ?_)
 refine PySem.PylongRoom.of (I.mod.nolimit.keeps I.bk) ?_ (PySem.SeerAt.of (I.mod.seer.keeps I.bk) ht (I.ok.frames.trans (congrArg some hst)) hgen hco I.ok.blt I.ok.glob)
 have := hr.dp
 show X.A.depth + 100 < recursionLimit
 omega
end Np
end
section
namespace Np
open PySem
@[irreducible] def W {α : Type} (m : R α) (Q : α -> Sto -> Prop) : Prop := match m with
 | some (.ok a S) => Q a S
 | some (.er _ _) => False
 | none => False
theorem W_ok {α : Type} (a : α) (S : Sto) (Q : α -> Sto -> Prop) : W (some (.ok a S)) Q = Q a S := by with_unfolding_all exact rfl
theorem W.out {α : Type} {m : R α} {Q : α -> Sto -> Prop} (h : W m Q) : ∃ a S, m = some (.ok a S) /\ Q a S := by
 unfold W at h
 cases m with
 | none => exact h.elim
 | some r =>
  cases r with
  | ok a S => exact ⟨a, S, rfl, h⟩
  | er c S => exact h.elim
theorem W_bnd {α β : Type} (m : R α) (k : α -> Sto -> R β) (Q : β -> Sto -> Prop) : W (bnd m k) Q = W m (fun a S => W (k a S) Q) := by
 unfold W
 cases m with
 | none => rfl
 | some r => cases r <;> rfl
theorem W.mono {α : Type} {m : R α} {Q Q' : α -> Sto -> Prop} (h : W m Q) (hi : ∀ a S, Q a S -> Q' a S) : W m Q' := by
 unfold W at h ⊢
 cases m with
 | none => exact h
 | some r =>
  cases r with
  | ok a S => exact hi a S h
  | er c S => exact h
theorem W.intro {α : Type} {m : R α} {Q : α -> Sto -> Prop} {a : α} {S : Sto} (e : m = some (.ok a S)) (q : Q a S) : W m Q := by
 subst e
 rw [W_ok]
 exact q
theorem ifEK_t (a b : DE) (δ : DS) (S : Sto) : ifEK a b δ true S = a δ S := rfl
theorem ifEK_f (a b : DE) (δ : DS) (S : Sto) : ifEK a b δ false S = b δ S := rfl
theorem andTK_t (b : DT) (δ : DS) (S : Sto) : andTK b δ true S = b δ S := rfl
theorem andTK_f (b : DT) (δ : DS) (S : Sto) : andTK b δ false S = ok false S := rfl
theorem orTK_t (b : DT) (δ : DS) (S : Sto) : orTK b δ true S = ok true S := rfl
theorem orTK_f (b : DT) (δ : DS) (S : Sto) : orTK b δ false S = b δ S := rfl
theorem andVB_t (b : DE) (δ : DS) (S : Sto) : andVB b δ true S = b δ S := rfl
theorem andVB_f (b : DE) (δ : DS) (S : Sto) : andVB b δ false S = ok (.bl false) S := rfl
theorem orVB_t (b : DE) (δ : DS) (S : Sto) : orVB b δ true S = ok (.bl true) S := rfl
theorem orVB_f (b : DE) (δ : DS) (S : Sto) : orVB b δ false S = b δ S := rfl
theorem chnB_t (g : D -> D -> Sto -> R D) (b : DE) (δ : DS) (y : D) (S : Sto) : chnB g b δ y true S = bnd (b δ S) (g y) := rfl
theorem chnB_f (g : D -> D -> Sto -> R D) (b : DE) (δ : DS) (y : D) (S : Sto) : chnB g b δ y false S = ok (.bl false) S := rfl
def outQ (Q : D -> Sto -> Prop) : Fl -> Sto -> Prop
 | .nx _, S => Q .non S
 | .rt d, S => Q d S
 | .bk _, _ => False
 | .ct _, _ => False
theorem W_outF (m : R Fl) (Q : D -> Sto -> Prop) : W (outF m) Q = W m (outQ Q) := by
 unfold W
 cases m with
 | none => rfl
 | some r =>
  cases r with
  | er c S => rfl
  | ok f S => cases f <;> rfl
def SLe (S S' : Sto) : Prop := ∃ X, S' = S ++ X
theorem SLe.rfl {S : Sto} : SLe S S := ⟨[], by simp⟩
theorem SLe.trans {S S' S'' : Sto} (h : SLe S S') (k : SLe S' S'') : SLe S S'' := by
 obtain ⟨X, rfl⟩ := h
 obtain ⟨Y, rfl⟩ := k
 exact ⟨X ++ Y, by simp⟩
theorem SLe.push {S S' : Sto} (o : O) (h : SLe S S') : SLe S (S' ++ [o]) := h.trans ⟨[o], by rfl⟩
theorem SLe.app {S : Sto} (X : Sto) : SLe S (S ++ X) := ⟨X, by rfl⟩
theorem SLe.len {S S' : Sto} (h : SLe S S') : S.length <= S'.length := by
 obtain ⟨X, rfl⟩ := h
 simp
theorem SLe.get {S S' : Sto} (h : SLe S S') {a : Nat} (ha : a < S.length) : S'[a]? = S[a]? := by
 obtain ⟨X, rfl⟩ := h
 exact jBr ha
theorem SLe.set {S S' : Sto} (h : SLe S S') {a : Nat} (ha : S.length <= a) (o : O) : SLe S (S'.set a o) := by
 obtain ⟨X, rfl⟩ := h
 exact ⟨X.set (a - S.length) o, by rw [jCn _ _ ha]⟩
theorem qAe {S : Sto} {a : Nat} {xs : List D} (h : zH S a = some xs) : a < S.length := by
 unfold zH at h
 split at h
 ·rename_i e
  exact (jAr.mp e).1
 ·cases h
theorem qDo {S S' : Sto} {a : Nat} (h : S'[a]? = S[a]?) : zH S' a = zH S a := by unfold zH; rw [h]
theorem SLe.lst {S S' : Sto} (h : SLe S S') {a : Nat} {xs : List D} (e : zH S a = some xs) : zH S' a = some xs := by
 rw [qDo (h.get (qAe e))]
 exact e
@[simp] theorem qAd (S : Sto) (xs : List D) : zH (S ++ [.lst xs]) S.length = some xs := by simp [zH]
theorem qD2 {S : Sto} {a : Nat} {xs ys : List D} (h : zH S a = some xs) : zH (S.set a (.lst ys)) a = some ys := by
 unfold zH
 rw [jAs (qAe h)]
theorem qBn {S : Sto} {a b : Nat} {o : O} (h : a ≠ b) : zH (S.set a o) b = zH S b := qDo (jAt h)
def loopQ (Q : Fl -> Sto -> Prop) (J : DS -> Sto -> Prop) : Fl -> Sto -> Prop
 | .nx δ, S => J δ S
 | .ct δ, S => J δ S
 | .bk δ, S => Q (.nx δ) S
 | .rt d, S => Q (.rt d) S
theorem W_for {src : Src} {g : DG} {b : DSt} {Q : Fl -> Sto -> Prop} (xs : List D) (I : Nat -> DS -> Sto -> Prop)
  (hs : ∀ i δ S, I i δ S -> src.get S i = some xs[i]?)
  (step : ∀ i x δ S, xs[i]? = some x -> I i δ S -> W (g x δ S) fun δ' S' => W (b δ' S') (loopQ Q (I (i + 1))))
  (fin : ∀ δ S, I xs.length δ S -> Q (.nx δ) S) : ∀ n i δ S, i <= xs.length -> xs.length <= i + n -> I i δ S -> W (forD src g b n i δ S) Q
 | 0, i, δ, S, hi, hn, h => by
  have e : i = xs.length := by omega
  have hg := hs i δ S h
  rw [jCo (by omega)] at hg
  unfold forD
  rw [hg, W_ok]
  subst e
  exact fin δ S h
 | n + 1, i, δ, S, hi, hn, h => by
  have hg := hs i δ S h
  unfold forD
  rw [hg]
  cases q : xs[i]? with
  | none =>
   have e : i = xs.length := by have := jCa.mp q; omega
   subst e
   show W (some (.ok (Fl.nx δ) S)) Q
   rw [W_ok]
   exact fin δ S h
  | some x =>
   have hlt : i < xs.length := (jAr.mp q).1
   show W (bnd (g x δ S) (turnK b (forD src g b n (i + 1)))) Q
   rw [W_bnd]
   refine (step i x δ S q h).mono fun δ' S' h' => ?_
   unfold turnK
   rw [W_bnd]
   refine h'.mono fun f S'' h'' => ?_
   cases f with
   | nx δ2 => exact W_for xs I hs step fin n (i + 1) δ2 S'' hlt (by omega) h''
   | ct δ2 => exact W_for xs I hs step fin n (i + 1) δ2 S'' hlt (by omega) h''
   | bk δ2 => exact W.intro rfl h''
   | rt d => exact W.intro rfl h''
theorem qBl {src : Src} {g : DG} {b : DSt} {Q : Fl -> Sto -> Prop} {δ : DS} {S : Sto} (xs : List D) (I : Nat -> DS -> Sto -> Prop) (hl : xs.length <= src.len S) (h0 : I 0 δ S)
  (hs : ∀ i δ S, I i δ S -> src.get S i = some xs[i]?)
  (step : ∀ i x δ S, xs[i]? = some x -> I i δ S -> W (g x δ S) fun δ' S' => W (b δ' S') (loopQ Q (I (i + 1))))
  (fin : ∀ δ S, I xs.length δ S -> Q (.nx δ) S) : W (forK g b δ src S) Q :=
 W_for xs I hs step fin _ 0 δ S (jBg _) (by omega) h0
theorem W_while {t : DT} {b : DSt} {Q : Fl -> Sto -> Prop} (I : DS -> Sto -> Prop) (μ : DS -> Sto -> Nat)
  (step : ∀ δ S, I δ S -> W (t δ S) fun c S' => if c = true then W (b δ S') (loopQ Q fun δ2 S2 => I δ2 S2 /\ μ δ2 S2 < μ δ S) else Q (.nx δ) S') : ∀ n δ S, μ δ S < n -> I δ S -> W (qA7 t b n δ S) Q
 | 0, _, _, h, _ => by omega
 | n + 1, δ, S, h, hI => by
  unfold qA7
  rw [W_bnd]
  refine (step δ S hI).mono fun c S' h' => ?_
  cases c with
  | false => exact W.intro rfl (by simpa using h')
  | true =>
   rw [if_pos rfl] at h'
   show W (bnd (b δ S') (loopK (qA7 t b n))) Q
   rw [W_bnd]
   refine h'.mono fun f S2 h2 => ?_
   cases f with
   | nx δ2 => exact W_while I μ step n δ2 S2 (jAd h2.2 (by omega)) h2.1
   | ct δ2 => exact W_while I μ step n δ2 S2 (jAd h2.2 (by omega)) h2.1
   | bk δ2 => exact W.intro rfl h2
   | rt d => exact W.intro rfl h2
theorem W_whileS {t : DT} {b : DSt} {Q : Fl -> Sto -> Prop} {δ : DS} {S : Sto} (I : DS -> Sto -> Prop) (μ : DS -> Sto -> Nat) (h0 : I δ S)
  (step : ∀ δ S, I δ S -> W (t δ S) fun c S' => if c = true then W (b δ S') (loopQ Q fun δ2 S2 => I δ2 S2 /\ μ δ2 S2 < μ δ S) else Q (.nx δ) S') : W (qCx t b δ S) Q := by
 obtain ⟨f, S', e, q⟩ := (W_while I μ step (μ δ S + 1) δ S (jBf _) h0).out
 exact W.intro (whileS_of e) q
def Tg (g : DG) (k : Nat) (vals : D -> List (Option D)) (base : DS) (P : D -> Prop) : Prop := ∀ x os S, os.length = k -> P x -> g x (base ++ os) S = ok (base ++ vals x) S /\ (vals x).length = k
theorem W_compD {src : Src} {g : DG} {e : DE} {base : DS} {k : Nat} {vals : D -> List (Option D)} {Q : List D -> Sto -> Prop} (xs : List D) (I : Nat -> List D -> Sto -> Prop) (P : D -> Prop) (hP : ∀ x ∈ xs, P x) (hg : Tg g k vals base P)
  (hs : ∀ i acc S, I i acc S -> src.get S i = some xs[i]?)
  (step : ∀ i x acc S, xs[i]? = some x -> acc.length = i -> I i acc S -> W (e (base ++ vals x) S) fun d S' => I (i + 1) (acc ++ [d]) S')
  (fin : ∀ acc S, I xs.length acc S -> acc.length = xs.length -> Q acc S) : ∀ n i acc os S, os.length = k -> acc.length = i -> i <= xs.length -> xs.length <= i + n -> I i acc S -> W (qC4 src g e n i (base ++ os) S) fun ds S' => Q (acc ++ ds) S'
 | 0, i, acc, os, S, ho, ha, hi, hn, h => by
  have e : i = xs.length := by omega
  have hg := hs i acc S h
  rw [jCo (by omega)] at hg
  unfold qC4
  rw [hg, W_ok, jBh]
  subst e
  exact fin acc S h ha
 | n + 1, i, acc, os, S, ho, ha, hi, hn, h => by
  have hgt := hs i acc S h
  unfold qC4
  rw [hgt]
  cases q : xs[i]? with
  | none =>
   have e : i = xs.length := by have := jCa.mp q; omega
   subst e
   show W (some (.ok [] S)) _
   rw [W_ok, jBh]
   exact fin acc S h ha
  | some x =>
   have hlt : i < xs.length := (jAr.mp q).1
   show W (bnd (g x (base ++ os) S) (compK e (qC4 src g e n (i + 1)))) _
   obtain ⟨e1, e2⟩ := hg x os S ho (hP x (jBt q))
   rw [e1, bnd_ok]
   unfold compK
   rw [W_bnd]
   refine (step i x acc S q ha h).mono fun d S' h' => ?_
   unfold qEj
   rw [W_bnd]
   refine (W_compD xs I P hP hg hs step fin n (i + 1) (acc ++ [d]) (vals x) S' e2 (by simp [ha]) hlt (by omega) h').mono fun ds S2 h2 => ?_
   unfold consK
   rw [W_ok]
   simpa using h2
theorem W_noer {α : Type} (m : R α) (Q : α -> Sto -> Prop) : W (noer m) Q = W m Q := by
 unfold W
 cases m with
 | none => rfl
 | some r => cases r <;> rfl
theorem qDd {it : DI} {g : DG} {e : DE} {base : DS} {k : Nat} {S : Sto} {Q : D -> Sto -> Prop} (vals : D -> List (Option D)) (xs : List D) (I : Nat -> List D -> Sto -> Prop) (P : D -> Prop) (hP : ∀ x ∈ xs, P x) (hg : Tg g k vals base P)
  (hit : W (it base S) fun src S' => xs.length <= src.len S' /\ src.len S' <= 1000000 /\ I 0 [] S' /\ ∀ i acc S, I i acc S -> src.get S i = some xs[i]?)
  (step : ∀ i x acc S, xs[i]? = some x -> acc.length = i -> I i acc S -> W (e (base ++ vals x) S) fun d S' => I (i + 1) (acc ++ [d]) S')
  (fin : ∀ acc S, I xs.length acc S -> acc.length = xs.length -> Q (.ref S.length) (S ++ [.lst acc])) : W (qAj it k g e base S) Q := by
 unfold qAj
 rw [W_bnd]
 refine hit.mono fun src S' ⟨h1, h2, h3, h4⟩ => ?_
 unfold compL
 rw [if_pos h2, W_bnd, W_noer]
 refine (W_compD (Q := fun ds S => Q (.ref S.length) (S ++ [.lst ds])) xs I P hP hg h4 step fin _ 0 [] (jBk k none) S' (by simp) rfl (jBg _) (by omega) h3).mono fun ds S2 h => ?_
 exact W.intro rfl (by simpa using h)
theorem qA4 (base : DS) : Tg (setG base.length) 1 (fun x => [some x]) base fun _ => True := fun x os S ho _ => by
 match os, ho with
 | [o], _ => exact ⟨by show ok ((base ++ [o]).set base.length (some x)) S = _; simp, rfl⟩
def pr1 : D -> Option D
 | .tup (x :: _) => some x
 | _ => none
def pr2 : D -> Option D
 | .tup (_ :: y :: _) => some y
 | _ => none
theorem tg_two (base : DS) : Tg (tupG [setG base.length, setG (base.length + 1)]) 2 (fun x => [pr1 x, pr2 x]) base fun x => ∃ p q, x = .tup [p, q] := fun x os S ho hp => by
 obtain ⟨p, q, rfl⟩ := hp
 match os, ho with
 | [o, o'], _ => exact ⟨by simp [tupG, tupGs, setG, pr1, pr2, jCn], rfl⟩
end Np
end
section
open Np PySem
noncomputable section
def Den.greatest_common : DSt :=
 (seqS (setS 2 (vr 0)) (seqS (setS 3 (vr 1)) (seqS (qCx (tv (op2 neD (vr 3) (cst (.int 0)))) (seqS (setS 4 (op2 modD (vr 2) (vr 3))) (seqS (setS 2 (vr 3)) (setS 3 (vr 4))))) (retS (vr 2)))))
def F.greatest_common : List D -> Sto -> R D := fnF 5 2 Den.greatest_common
def Den.ratio : DSt :=
 (seqS (ifS (tv (op2 eqD (vr 1) (cst (.int 0)))) nevS nxS) (seqS (setS 2 (fnE F.greatest_common (yH (fnE absD (yH (vr 0) aNil)) (yH (fnE absD (yH (vr 1) aNil)) aNil)))) (seqS (ifS (tv (op2 ltD (vr 1) (cst (.int 0)))) (setS 2 (op1 negD (vr 2))) nxS) (retS (fnE tupD (yH (op2 qBc (vr 0) (vr 2)) (yH (op2 qBc (vr 1) (vr 2)) aNil)))))))
def F.ratio : List D -> Sto -> R D := fnF 3 2 Den.ratio
def Den.plus : DSt :=
 (retS (fnE F.ratio (yH (op2 addD (op2 mulD (op2 ixD (vr 0) (cst (.int 0))) (op2 ixD (vr 1) (cst (.int 1)))) (op2 mulD (op2 ixD (vr 1) (cst (.int 0))) (op2 ixD (vr 0) (cst (.int 1))))) (yH (op2 mulD (op2 ixD (vr 0) (cst (.int 1))) (op2 ixD (vr 1) (cst (.int 1)))) aNil))))
def F.plus : List D -> Sto -> R D := fnF 2 2 Den.plus
def Den.minus : DSt :=
 (retS (fnE F.ratio (yH (op2 subD (op2 mulD (op2 ixD (vr 0) (cst (.int 0))) (op2 ixD (vr 1) (cst (.int 1)))) (op2 mulD (op2 ixD (vr 1) (cst (.int 0))) (op2 ixD (vr 0) (cst (.int 1))))) (yH (op2 mulD (op2 ixD (vr 0) (cst (.int 1))) (op2 ixD (vr 1) (cst (.int 1)))) aNil))))
def F.minus : List D -> Sto -> R D := fnF 2 2 Den.minus
def Den.times : DSt :=
 (retS (fnE F.ratio (yH (op2 mulD (op2 ixD (vr 0) (cst (.int 0))) (op2 ixD (vr 1) (cst (.int 0)))) (yH (op2 mulD (op2 ixD (vr 0) (cst (.int 1))) (op2 ixD (vr 1) (cst (.int 1)))) aNil))))
def F.times : List D -> Sto -> R D := fnF 2 2 Den.times
def Den.k02_whole : DSt :=
 (retS (andV (op1 (isiD .int) (vr 0)) (notV (op1 (isiD .bool) (vr 0)))))
def F.k02_whole : List D -> Sto -> R D := fnF 1 1 Den.k02_whole
end
end
section
open Np PySem
noncomputable section
def Den.added : DSt :=
 (retS (qAj (itA qEo (yH (vr 0) (yH (vr 1) aNil))) 2 (tupG [(setG 2), (setG 3)]) (fnE F.plus (yH (vr 2) (yH (vr 3) aNil)))))
def F.added : List D -> Sto -> R D := fnF 2 2 Den.added
def Den.taken : DSt :=
 (retS (qAj (itA qEo (yH (vr 0) (yH (vr 1) aNil))) 2 (tupG [(setG 2), (setG 3)]) (fnE F.minus (yH (vr 2) (yH (vr 3) aNil)))))
def F.taken : List D -> Sto -> R D := fnF 2 2 Den.taken
def Den.scaled : DSt :=
 (retS (qAj (itE itL (vr 0)) 1 (setG 2) (fnE F.times (yH (vr 2) (yH (vr 1) aNil)))))
def F.scaled : List D -> Sto -> R D := fnF 2 2 Den.scaled
def Den.is_still : DSt :=
 (retS (fnE allD (yH (qAj (itE itL (vr 0)) 1 (setG 1) (op2 eqD (vr 1) (cst (.tup [(.int 0), (.int 1)])))) aNil)))
def F.is_still : List D -> Sto -> R D := fnF 1 1 Den.is_still
def Den.k11_cell_at : DSt :=
 (seqS (ifS (tv (op2 ltD (vr 1) (fnE lenD (yH (vr 0) aNil)))) (retS (op2 ixD (vr 0) (vr 1))) nxS) (retS (cst (.int 0))))
def F.k11_cell_at : List D -> Sto -> R D := fnF 2 2 Den.k11_cell_at
end
end
section
open Np PySem
noncomputable section
def Den.multiplied : DSt :=
 (retS (qAj (itA qEo (yH (vr 0) (yH (vr 1) aNil))) 2 (tupG [(setG 2), (setG 3)]) (fnE F.times (yH (vr 2) (yH (vr 3) aNil)))))
def F.multiplied : List D -> Sto -> R D := fnF 2 2 Den.multiplied
def Den.dot : DSt :=
 (seqS (setS 3 (fnE F.multiplied (yH (vr 0) (yH (vr 1) aNil)))) (seqS (ifS (tv (op2 isNND (vr 2) (cst .non))) (setS 3 (fnE F.multiplied (yH (vr 3) (yH (vr 2) aNil)))) nxS) (seqS (setS 4 (cst (.tup [(.int 0), (.int 1)]))) (seqS (forS (itE itL (vr 3)) (setG 5) (setS 4 (fnE F.plus (yH (vr 4) (yH (vr 5) aNil))))) (retS (vr 4))))))
def F.dot : List D -> Sto -> R D := fnF 6 3 Den.dot
end
end
section
open Np PySem
noncomputable section
def Den.mixed : DSt :=
 (seqS (setS 3 (op2 mulD (fnE lstD (yH (cst (.tup [(.int 0), (.int 1)])) aNil)) (vr 2))) (seqS (forS (itA qEo (yH (vr 0) (yH (vr 1) aNil))) (tupG [(setG 4), (setG 5)]) (setS 3 (fnE F.added (yH (vr 3) (yH (fnE F.scaled (yH (vr 4) (yH (vr 5) aNil))) aNil))))) (retS (vr 3))))
def F.mixed : List D -> Sto -> R D := fnF 6 3 Den.mixed
end
end
section
open Np PySem
noncomputable section
def Den.column_of : DSt :=
 (retS (qAj (itE itL (vr 0)) 1 (setG 2) (op2 ixD (vr 2) (vr 1))))
def F.column_of : List D -> Sto -> R D := fnF 2 2 Den.column_of
def Den.turned : DSt :=
 (retS (qAj (itA qBv (yH (vr 1) aNil)) 1 (setG 2) (fnE F.column_of (yH (vr 0) (yH (vr 2) aNil)))))
def F.turned : List D -> Sto -> R D := fnF 2 2 Den.turned
def Den.unit_row : DSt :=
 (retS (qAj (itA qBv (yH (vr 0) aNil)) 1 (setG 2) (ifE (tv (op2 eqD (vr 2) (vr 1))) (cst (.tup [(.int 1), (.int 1)])) (cst (.tup [(.int 0), (.int 1)])))))
def F.unit_row : List D -> Sto -> R D := fnF 2 2 Den.unit_row
end
end
section
open Np PySem
noncomputable section
def Den.is_ratio : DSt :=
 (seqS (ifS (orT (notT (tv (op1 (isiD .tup) (vr 0)))) (tv (op2 neD (fnE lenD (yH (vr 0) aNil)) (cst (.int 2))))) (retS (cst (.bl false))) nxS) (seqS (ifS (orT (notT (tv (fnE F.k02_whole (yH (op2 ixD (vr 0) (cst (.int 0))) aNil)))) (notT (tv (fnE F.k02_whole (yH (op2 ixD (vr 0) (cst (.int 1))) aNil))))) (retS (cst (.bl false))) nxS) (retS (andV (op2 geD (op2 ixD (vr 0) (cst (.int 1))) (cst (.int 1))) (op2 eqD (fnE F.greatest_common (yH (fnE absD (yH (op2 ixD (vr 0) (cst (.int 0))) aNil)) (yH (op2 ixD (vr 0) (cst (.int 1))) aNil))) (cst (.int 1)))))))
def F.is_ratio : List D -> Sto -> R D := fnF 1 1 Den.is_ratio
def Den.k21_low : DSt :=
 (seqS (setS 2 (fnE absD (yH (vr 0) aNil))) (seqS (setS 3 (vr 1)) (seqS (qCx (tv (op2 gtD (vr 3) (cst (.int 0)))) (parS 2 3 (vr 3) (op2 modD (vr 2) (vr 3)))) (retS (fnE tupD (yH (op2 qBc (vr 0) (vr 2)) (yH (op2 qBc (vr 1) (vr 2)) aNil)))))))
def F.k21_low : List D -> Sto -> R D := fnF 4 2 Den.k21_low
def Den.k21_plus : DSt :=
 (retS (fnE F.k21_low (yH (op2 addD (op2 mulD (op2 ixD (vr 0) (cst (.int 0))) (op2 ixD (vr 1) (cst (.int 1)))) (op2 mulD (op2 ixD (vr 1) (cst (.int 0))) (op2 ixD (vr 0) (cst (.int 1))))) (yH (op2 mulD (op2 ixD (vr 0) (cst (.int 1))) (op2 ixD (vr 1) (cst (.int 1)))) aNil))))
def F.k21_plus : List D -> Sto -> R D := fnF 2 2 Den.k21_plus
def Den.k21_times : DSt :=
 (retS (fnE F.k21_low (yH (op2 mulD (op2 ixD (vr 0) (cst (.int 0))) (op2 ixD (vr 1) (cst (.int 0)))) (yH (op2 mulD (op2 ixD (vr 0) (cst (.int 1))) (op2 ixD (vr 1) (cst (.int 1)))) aNil))))
def F.k21_times : List D -> Sto -> R D := fnF 2 2 Den.k21_times
end
end
section
open Np PySem
noncomputable section
def Den.over : DSt :=
 (retS (fnE F.ratio (yH (op2 mulD (op2 ixD (vr 0) (cst (.int 0))) (op2 ixD (vr 1) (cst (.int 1)))) (yH (op2 mulD (op2 ixD (vr 0) (cst (.int 1))) (op2 ixD (vr 1) (cst (.int 0)))) aNil))))
def F.over : List D -> Sto -> R D := fnF 2 2 Den.over
end
end
section
open Np PySem
noncomputable section
def Den.square : DSt :=
 (retS (fnE F.dot (yH (vr 0) (yH (vr 0) (yH (vr 1) aNil)))))
def F.square : List D -> Sto -> R D := fnF 2 2 Den.square
end
end
section
open Np PySem
noncomputable section
def Den.amount : DSt :=
 (seqS (ifS (tv (fnE F.is_still (yH (vr 1) aNil))) (retS (cst (.tup [(.int 0), (.int 1)]))) nxS) (retS (fnE F.over (yH (fnE F.dot (yH (vr 0) (yH (vr 1) (yH (vr 2) aNil)))) (yH (fnE F.square (yH (vr 1) (yH (vr 2) aNil))) aNil)))))
def F.amount : List D -> Sto -> R D := fnF 3 3 Den.amount
def Den.mix_of_left : DSt :=
 (retS (fnE F.taken (yH (fnE F.unit_row (yH (vr 1) (yH (fnE lenD (yH (vr 0) aNil)) aNil))) (yH (op2 addD (vr 0) (op2 mulD (fnE lstD (yH (cst (.tup [(.int 0), (.int 1)])) aNil)) (op2 subD (vr 1) (fnE lenD (yH (vr 0) aNil))))) aNil))))
def F.mix_of_left : List D -> Sto -> R D := fnF 2 2 Den.mix_of_left
def Den.parted : DSt :=
 (seqS (setS 3 (qAj (itE itL (vr 1)) 1 (setG 6) (fnE F.amount (yH (vr 0) (yH (op2 ixD (vr 6) (cst (.int 0))) (yH (vr 2) aNil)))))) (seqS (setS 4 (fnE F.mixed (yH (qAj (itE itL (vr 1)) 1 (setG 6) (op2 ixD (vr 6) (cst (.int 0)))) (yH (vr 3) (yH (fnE lenD (yH (vr 0) aNil)) aNil))))) (seqS (setS 5 (fnE F.mixed (yH (qAj (itE itL (vr 1)) 1 (setG 6) (fnE F.mix_of_left (yH (op2 ixD (vr 6) (cst (.int 1))) (yH (fnE lenD (yH (vr 1) aNil)) aNil)))) (yH (vr 3) (yH (fnE lenD (yH (vr 1) aNil)) aNil))))) (retS (fnE tupD (yH (fnE F.taken (yH (vr 0) (yH (vr 4) aNil))) (yH (vr 5) aNil)))))))
def F.parted : List D -> Sto -> R D := fnF 6 3 Den.parted
def Den.lefts : DSt :=
 (seqS (setS 2 (fnE lstD aNil)) (seqS (forS (itE itL (vr 0)) (setG 3) (dropS (opM appD (vr 2) (fnE F.parted (yH (vr 3) (yH (vr 2) (yH (vr 1) aNil))))))) (retS (vr 2))))
def F.lefts : List D -> Sto -> R D := fnF 4 2 Den.lefts
end
end
section
open Np PySem
noncomputable section
def Den.less : DSt :=
 (retS (op2 ltD (op2 mulD (op2 ixD (vr 0) (cst (.int 0))) (op2 ixD (vr 1) (cst (.int 1)))) (op2 mulD (op2 ixD (vr 1) (cst (.int 0))) (op2 ixD (vr 0) (cst (.int 1))))))
def F.less : List D -> Sto -> R D := fnF 2 2 Den.less
def DenX.ratio : DSt :=
 (seqS (ifS (tv (op2 eqD (vr 1) (cst (.int 0)))) (raiseS "NoRatio") nxS) (seqS (noerS (setS 2 (fnE F.greatest_common (yH (fnE absD (yH (vr 0) aNil)) (yH (fnE absD (yH (vr 1) aNil)) aNil))))) (seqS (noerS (ifS (tv (op2 ltD (vr 1) (cst (.int 0)))) (setS 2 (op1 negD (vr 2))) nxS)) (noerS (retS (fnE tupD (yH (op2 qBc (vr 0) (vr 2)) (yH (op2 qBc (vr 1) (vr 2)) aNil))))))))
def X.ratio : List D -> Sto -> R D := fnX 3 2 DenX.ratio
def DenX.over : DSt :=
 (retS (fnE X.ratio (yH (op2 mulD (op2 ixD (vr 0) (cst (.int 0))) (op2 ixD (vr 1) (cst (.int 1)))) (yH (op2 mulD (op2 ixD (vr 0) (cst (.int 1))) (op2 ixD (vr 1) (cst (.int 0)))) aNil))))
def X.over : List D -> Sto -> R D := fnX 2 2 DenX.over
end
end
section
open Np PySem
noncomputable section
def Den.is_row : DSt :=
 (seqS (ifS (orT (notT (tv (op1 (isiD .lst) (vr 0)))) (tv (op2 neD (fnE lenD (yH (vr 0) aNil)) (vr 1)))) (retS (cst (.bl false))) nxS) (retS (fnE allD (yH (qAj (itE itL (vr 0)) 1 (setG 2) (fnE F.is_ratio (yH (vr 2) aNil))) aNil))))
def F.is_row : List D -> Sto -> R D := fnF 2 2 Den.is_row
end
end
section
open Np PySem
noncomputable section
def Den.is_wide : DSt :=
 (retS (andV (fnE F.k02_whole (yH (vr 0) aNil)) (chn leD leD (cst (.int 0)) (vr 0) (cst (.int 12)))))
def F.is_wide : List D -> Sto -> R D := fnF 1 1 Den.is_wide
def Den.is_weight : DSt :=
 (retS (andV (fnE F.is_ratio (yH (vr 0) aNil)) (fnE F.less (yH (cst (.tup [(.int 0), (.int 1)])) (yH (vr 0) aNil)))))
def F.is_weight : List D -> Sto -> R D := fnF 1 1 Den.is_weight
def Den.is_point : DSt :=
 (seqS (ifS (orT (notT (tv (op1 (isiD .tup) (vr 0)))) (tv (op2 neD (fnE lenD (yH (vr 0) aNil)) (cst (.int 3))))) (retS (cst (.bl false))) nxS) (retS (andV (fnE F.is_row (yH (op2 ixD (vr 0) (cst (.int 0))) (yH (vr 1) aNil))) (andV (fnE F.is_ratio (yH (op2 ixD (vr 0) (cst (.int 1))) aNil)) (fnE F.is_weight (yH (op2 ixD (vr 0) (cst (.int 2))) aNil))))))
def F.is_point : List D -> Sto -> R D := fnF 2 2 Den.is_point
end
end
section
open Np PySem
noncomputable section
def Den.are_points : DSt :=
 (retS (andV (op1 (isiD .lst) (vr 0)) (fnE allD (yH (qAj (itE itL (vr 0)) 1 (setG 2) (fnE F.is_point (yH (vr 2) (yH (vr 1) aNil)))) aNil))))
def F.are_points : List D -> Sto -> R D := fnF 2 2 Den.are_points
def Den.Fit___init__ : DSt :=
 (seqS (ifS (orT (notT (tv (fnE F.is_wide (yH (vr 2) aNil)))) (notT (tv (fnE F.are_points (yH (vr 1) (yH (vr 2) aNil)))))) nevS nxS) (seqS (qCt "Fit" "wide" (vr 0) (vr 2)) (seqS (qCt "Fit" "columns" (vr 0) (fnE F.turned (yH (qAj (itE itL (vr 1)) 1 (setG 3) (op2 ixD (vr 3) (cst (.int 0)))) (yH (vr 2) aNil)))) (seqS (qCt "Fit" "wants" (vr 0) (qAj (itE itL (vr 1)) 1 (setG 3) (op2 ixD (vr 3) (cst (.int 1))))) (seqS (qCt "Fit" "weights" (vr 0) (qAj (itE itL (vr 1)) 1 (setG 3) (op2 ixD (vr 3) (cst (.int 2))))) (seqS (qCt "Fit" "parts" (vr 0) (fnE F.lefts (yH (op1 (fldD "Fit" "columns") (vr 0)) (yH (op1 (fldD "Fit" "weights") (vr 0)) aNil)))) (qCt "Fit" "near" (vr 0) (fnE F.parted (yH (op1 (fldD "Fit" "wants") (vr 0)) (yH (op1 (fldD "Fit" "parts") (vr 0)) (yH (op1 (fldD "Fit" "weights") (vr 0)) aNil)))))))))))
def F.Fit___init__ : List D -> Sto -> R D := fnF 3 3 Den.Fit___init__
def Den.Fit_told : DSt :=
 (retS (fnE lofD (yH (op2 ixD (op1 (fldD "Fit" "near") (vr 0)) (cst (.int 1))) aNil)))
def F.Fit_told : List D -> Sto -> R D := fnF 1 1 Den.Fit_told
def Den.Plane_fit : DSt :=
 (seqS (setS 1 (op2 ixD (op1 (fldD "Plane" "states") (vr 0)) (op1 negD (cst (.int 1))))) (retS (mkE "Fit" F.Fit___init__ (yH (qAj (itE itL (op1 (fldD "State" "kept") (vr 1))) 1 (setG 2) (slE (vr 2) (atP (cst (.int 1))) noP)) (yH (op1 (fldD "State" "wide") (vr 1)) aNil)))))
def F.Plane_fit : List D -> Sto -> R D := fnF 2 1 Den.Plane_fit
def Den.Plane_told : DSt :=
 (retS (qAp "Fit" "told" F.Fit_told (qAp "Plane" "fit" F.Plane_fit (vr 0) aNil) aNil))
def F.Plane_told : List D -> Sto -> R D := fnF 1 1 Den.Plane_told
end
end
section
open Np PySem
noncomputable section
def Den.Fit_free : DSt :=
 (retS (qEk (itA enumD (yH (op1 (fldD "Fit" "parts") (vr 0)) aNil)) 2 (tupG [(setG 1), (setG 2)]) (tv (fnE F.is_still (yH (op2 ixD (vr 2) (cst (.int 0))) aNil))) (vr 1)))
def F.Fit_free : List D -> Sto -> R D := fnF 1 1 Den.Fit_free
def Den.Fit_squares : DSt :=
 (retS (fnE F.square (yH (op2 ixD (op1 (fldD "Fit" "near") (vr 0)) (cst (.int 0))) (yH (op1 (fldD "Fit" "weights") (vr 0)) aNil))))
def F.Fit_squares : List D -> Sto -> R D := fnF 1 1 Den.Fit_squares
def Den.Fit_ways : DSt :=
 (retS (qAj (itE itL (qAp "Fit" "free" F.Fit_free (vr 0) aNil)) 1 (setG 1) (fnE F.mix_of_left (yH (op2 ixD (op2 ixD (op1 (fldD "Fit" "parts") (vr 0)) (vr 1)) (cst (.int 1))) (yH (op1 (fldD "Fit" "wide") (vr 0)) aNil)))))
def F.Fit_ways : List D -> Sto -> R D := fnF 1 1 Den.Fit_ways
def Den.Plane_free : DSt :=
 (retS (qAp "Fit" "free" F.Fit_free (qAp "Plane" "fit" F.Plane_fit (vr 0) aNil) aNil))
def F.Plane_free : List D -> Sto -> R D := fnF 1 1 Den.Plane_free
def Den.Plane_ways : DSt :=
 (retS (qAp "Fit" "ways" F.Fit_ways (qAp "Plane" "fit" F.Plane_fit (vr 0) aNil) aNil))
def F.Plane_ways : List D -> Sto -> R D := fnF 1 1 Den.Plane_ways
def Den.Plane_squares : DSt :=
 (retS (qAp "Fit" "squares" F.Fit_squares (qAp "Plane" "fit" F.Plane_fit (vr 0) aNil) aNil))
def F.Plane_squares : List D -> Sto -> R D := fnF 1 1 Den.Plane_squares
end
end
section
open Np PySem
noncomputable section
def Den.k42_spread : DSt :=
 (seqS (setS 2 (op2 addD (op2 powD (cst (.int 10)) (cst (.int 40))) (cst (.int 121)))) (retS (op2 modD (op2 addD (op2 mulD (op2 modD (vr 0) (vr 2)) (cst (.int 31415926535897932384626433832795))) (op2 mulD (op2 addD (op2 addD (op2 mulD (vr 1) (vr 1)) (op2 mulD (cst (.int 3)) (vr 1))) (cst (.int 7))) (cst (.int 2718281828459045235360287471)))) (vr 2))))
def F.k42_spread : List D -> Sto -> R D := fnF 3 2 Den.k42_spread
def Den.k42_mixed : DSt :=
 (seqS (setS 2 (op2 modD (op2 addD (op2 mulD (vr 0) (cst (.int 69621))) (op2 mulD (op2 addD (vr 1) (cst (.int 1))) (cst (.int 1000003)))) (op2 addD (op2 powD (cst (.int 10)) (cst (.int 30))) (cst (.int 57))))) (retS (op2 modD (op2 mulD (vr 2) (vr 2)) (op2 addD (op2 powD (cst (.int 10)) (cst (.int 30))) (cst (.int 57))))))
def F.k42_mixed : List D -> Sto -> R D := fnF 3 2 Den.k42_mixed
def Den.k42_broad : DSt :=
 (seqS (setS 1 (op2 addD (cst (.int 6)) (op2 modD (vr 0) (cst (.int 7))))) (seqS (setS 2 (fnE lstD aNil)) (seqS (forS (itA qBv (yH (op2 addD (vr 1) (cst (.int 2))) aNil)) (setG 3) (seqS (setS 4 (fnE F.k42_mixed (yH (vr 0) (yH (op2 addD (cst (.int 100)) (vr 3)) aNil)))) (seqS (setS 5 (qAj (itA qBv (yH (vr 1) aNil)) 1 (setG 7) (fnE tupD (yH (op2 subD (op2 modD (fnE F.k42_mixed (yH (vr 4) (yH (op2 addD (cst (.int 40)) (vr 7)) aNil))) (cst (.int 3))) (cst (.int 1))) (yH (cst (.int 1)) aNil))))) (seqS (ifS (tv (op2 ltD (vr 3) (vr 1))) (setS 5 (op2 addD (op2 addD (op2 mulD (fnE lstD (yH (fnE tupD (yH (cst (.int 0)) (yH (cst (.int 1)) aNil))) aNil)) (vr 3)) (fnE lstD (yH (fnE tupD (yH (cst (.int 1)) (yH (cst (.int 1)) aNil))) aNil))) (slE (vr 5) (atP (op2 addD (vr 3) (cst (.int 1)))) noP))) nxS) (seqS (ifS (tv (op2 eqD (op2 modD (op2 qBc (vr 0) (cst (.int 7))) (cst (.int 2))) (cst (.int 1)))) (seqS (setS 6 (op2 addD (cst (.int 4)) (op2 modD (op2 qBc (vr 0) (cst (.int 14))) (op2 subD (vr 1) (cst (.int 4)))))) (asgS (fnE F.k21_plus (yH (op2 ixD (vr 5) (cst (.int 0))) (yH (op2 ixD (vr 5) (op2 subD (vr 6) (cst (.int 1)))) aNil))) (qCu (vr 5) (vr 6)))) nxS) (dropS (opM appD (vr 2) (fnE tupD (yH (vr 5) (yH (fnE tupD (yH (op2 subD (op2 modD (op2 qBc (vr 4) (cst (.int 1000))) (cst (.int 19))) (cst (.int 9))) (yH (cst (.int 1)) aNil))) (yH (fnE tupD (yH (op2 addD (cst (.int 1)) (op2 modD (op2 qBc (vr 4) (op2 powD (cst (.int 10)) (cst (.int 9)))) (cst (.int 3)))) (yH (cst (.int 1)) aNil))) aNil))))))))))) (seqS (ifS (tv (op2 eqD (op2 modD (op2 qBc (vr 0) (cst (.int 112))) (cst (.int 2))) (cst (.int 1)))) (retS (fnE lstD (yH (vr 1) (yH (slE (vr 2) noP (atP (op2 modD (op2 qBc (vr 0) (cst (.int 224))) (op2 addD (vr 1) (cst (.int 3)))))) aNil)))) nxS) (retS (fnE lstD (yH (vr 1) (yH (vr 2) aNil))))))))
def F.k42_broad : List D -> Sto -> R D := fnF 7 1 Den.k42_broad
def Den.k42_ratio : DSt :=
 (seqS (ifS (orT (notT (tv (op1 (isiD .tup) (vr 0)))) (tv (op2 neD (fnE lenD (yH (vr 0) aNil)) (cst (.int 2))))) (retS (cst (.bl false))) nxS) (seqS (forS (itE itT (vr 0)) (setG 1) (ifS (orT (notT (tv (op1 (isiD .int) (vr 1)))) (tv (op1 (isiD .bool) (vr 1)))) (retS (cst (.bl false))) nxS)) (retS (andV (op2 gtD (op2 ixD (vr 0) (cst (.int 1))) (cst (.int 0))) (op2 eqD (fnE F.k21_low (yH (op2 ixD (vr 0) (cst (.int 0))) (yH (op2 ixD (vr 0) (cst (.int 1))) aNil))) (vr 0))))))
def F.k42_ratio : List D -> Sto -> R D := fnF 2 1 Den.k42_ratio
end
end
section
open Np PySem
noncomputable section
def Den.k44_thing : DSt :=
 (retS (fnE F.k21_low (yH (op2 subD (op2 modD (vr 0) (cst (.int 19))) (cst (.int 9))) (yH (op2 ixD (fnE lstD (yH (cst (.int 1)) (yH (cst (.int 1)) (yH (cst (.int 1)) (yH (cst (.int 2)) (yH (cst (.int 3)) (yH (cst (.int 4)) (yH (cst (.int 6)) (yH (cst (.int 12)) aNil))))))))) (op2 modD (op2 qBc (vr 0) (cst (.int 19))) (cst (.int 8)))) aNil))))
def F.k44_thing : List D -> Sto -> R D := fnF 1 1 Den.k44_thing
def Den.k44_shaped : DSt :=
 (seqS (setS 3 (fnE lenD (yH (vr 0) aNil))) (seqS (forS (itA rng2D (yH (cst (.int 1)) (yH (vr 3) aNil))) (setG 4) (seqS (ifS (orT (andT (tv (op2 eqD (vr 1) (cst (.int 1)))) (tv (op2 eqD (vr 4) (op2 subD (vr 3) (cst (.int 1)))))) (andT (tv (op2 eqD (vr 1) (cst (.int 2)))) (tv (op2 eqD (vr 4) (op2 qBc (vr 3) (cst (.int 2))))))) (asgS (fnE F.k21_plus (yH (fnE F.k21_times (yH (fnE tupD (yH (cst (.int 2)) (yH (cst (.int 1)) aNil))) (yH (op2 ixD (vr 0) (cst (.int 0))) aNil))) (yH (fnE F.k21_times (yH (fnE tupD (yH (op1 negD (cst (.int 1))) (yH (cst (.int 3)) aNil))) (yH (op2 ixD (vr 0) (op2 subD (vr 4) (cst (.int 1)))) aNil))) aNil))) (qCu (vr 0) (vr 4))) nxS) (seqS (ifS (andT (tv (op2 eqD (vr 1) (cst (.int 3)))) (tv (op2 eqD (vr 4) (op2 addD (cst (.int 1)) (op2 modD (vr 2) (op2 subD (vr 3) (cst (.int 1)))))))) (asgS (fnE tupD (yH (cst (.int 0)) (yH (cst (.int 1)) aNil))) (qCu (vr 0) (vr 4))) nxS) (seqS (ifS (andT (tv (op2 eqD (vr 1) (cst (.int 4)))) (tv (op2 eqD (op2 modD (vr 4) (cst (.int 2))) (cst (.int 1))))) (asgS (op2 ixD (vr 0) (op2 subD (vr 4) (cst (.int 1)))) (qCu (vr 0) (vr 4))) nxS) (ifS (tv (op2 eqD (vr 1) (cst (.int 5)))) (asgS (fnE F.k21_times (yH (fnE tupD (yH (vr 4) (yH (cst (.int 2)) aNil))) (yH (op2 ixD (vr 0) (cst (.int 0))) aNil))) (qCu (vr 0) (vr 4))) nxS))))) (seqS (ifS (andT (tv (op2 eqD (vr 1) (cst (.int 6)))) (tv (op2 gtD (vr 3) (cst (.int 0))))) (asgS (fnE tupD (yH (cst (.int 0)) (yH (cst (.int 1)) aNil))) (qCu (vr 0) (cst (.int 0)))) nxS) (retS (vr 0)))))
def F.k44_shaped : List D -> Sto -> R D := fnF 5 3 Den.k44_shaped
def Den.k44_points : DSt :=
 (seqS (setS 1 (fnE F.k42_spread (yH (fnE F.k11_cell_at (yH (vr 0) (yH (cst (.int 0)) aNil))) (yH (cst (.int 0)) aNil)))) (seqS (ifS (tv (op2 eqD (op2 modD (op2 qBc (vr 1) (op2 powD (cst (.int 10)) (cst (.int 9)))) (cst (.int 8))) (cst (.int 2)))) (retS (fnE F.k42_broad (yH (op2 qBc (vr 1) (op2 powD (cst (.int 10)) (cst (.int 12)))) aNil))) nxS) (seqS (setS 2 (op2 modD (vr 1) (cst (.int 5)))) (seqS (setS 3 (fnE lstD aNil)) (seqS (forS (itA qBv (yH (op2 modD (op2 qBc (vr 1) (cst (.int 40))) (cst (.int 7))) aNil)) (setG 4) (seqS (setS 5 (fnE F.k42_spread (yH (fnE F.k11_cell_at (yH (vr 0) (yH (op2 addD (cst (.int 1)) (vr 4)) aNil))) (yH (op2 addD (cst (.int 1)) (vr 4)) aNil)))) (seqS (setS 6 (fnE F.k44_shaped (yH (qAj (itA qBv (yH (vr 2) aNil)) 1 (setG 7) (fnE F.k44_thing (yH (fnE F.k42_mixed (yH (vr 5) (yH (vr 7) aNil))) aNil))) (yH (op2 modD (op2 qBc (vr 1) (cst (.int 5))) (cst (.int 8))) (yH (op2 qBc (vr 1) (cst (.int 2000))) aNil))))) (seqS (ifS (andT (tv (op2 gtD (vr 4) (cst (.int 1)))) (tv (op2 eqD (op2 modD (vr 5) (cst (.int 5))) (cst (.int 0))))) (setS 6 (qAj (itA qBv (yH (vr 2) aNil)) 1 (setG 7) (fnE F.k21_plus (yH (op2 ixD (op2 ixD (op2 ixD (vr 3) (cst (.int 0))) (cst (.int 0))) (vr 7)) (yH (op2 ixD (op2 ixD (op2 ixD (vr 3) (cst (.int 1))) (cst (.int 0))) (vr 7)) aNil))))) nxS) (dropS (opM appD (vr 3) (fnE tupD (yH (vr 6) (yH (fnE F.k44_thing (yH (fnE F.k42_mixed (yH (vr 5) (yH (cst (.int 9)) aNil))) aNil)) (yH (op2 ixD (fnE lstD (yH (fnE tupD (yH (cst (.int 1)) (yH (cst (.int 1)) aNil))) (yH (fnE tupD (yH (cst (.int 3)) (yH (cst (.int 1)) aNil))) (yH (fnE tupD (yH (cst (.int 1)) (yH (cst (.int 2)) aNil))) aNil)))) (op2 modD (op2 qBc (vr 5) (cst (.int 5))) (cst (.int 3)))) aNil)))))))))) (retS (fnE lstD (yH (vr 2) (yH (vr 3) aNil)))))))))
def F.k44_points : List D -> Sto -> R D := fnF 7 1 Den.k44_points
def Den.k44_whole_row : DSt :=
 (seqS (setS 1 (cst (.int 1))) (seqS (forS (itE itL (vr 0)) (setG 2) (setS 1 (op2 mulD (vr 1) (op2 ixD (vr 2) (cst (.int 1)))))) (retS (qAj (itE itL (vr 0)) 1 (setG 3) (op2 mulD (op2 ixD (vr 3) (cst (.int 0))) (op2 qBc (vr 1) (op2 ixD (vr 3) (cst (.int 1)))))))))
def F.k44_whole_row : List D -> Sto -> R D := fnF 3 1 Den.k44_whole_row
def Den.k44_free : DSt :=
 (seqS (setS 2 (qAj (itA qBv (yH (vr 1) aNil)) 1 (setG 10) (fnE F.k44_whole_row (yH (qAj (itE itL (vr 0)) 1 (setG 11) (op2 ixD (op2 ixD (vr 11) (cst (.int 0))) (vr 10))) aNil)))) (seqS (setS 3 (fnE lstD aNil)) (seqS (setS 4 (fnE lstD aNil)) (seqS (forS (itA enumD (yH (vr 2) aNil)) (tupG [(setG 5), (setG 6)]) (seqS (forS (itE itL (vr 3)) (tupG [(setG 7), (setG 8)]) (setS 6 (qAj (itA qBv (yH (fnE lenD (yH (vr 6) aNil)) aNil)) 1 (setG 10) (op2 subD (op2 mulD (op2 ixD (vr 6) (vr 10)) (op2 ixD (vr 8) (vr 7))) (op2 mulD (op2 ixD (vr 8) (vr 10)) (op2 ixD (vr 6) (vr 7))))))) (seqS (setS 9 (qEk (itA qBv (yH (fnE lenD (yH (vr 6) aNil)) aNil)) 1 (setG 10) (tv (op2 neD (op2 ixD (vr 6) (vr 10)) (cst (.int 0)))) (vr 10))) (ifS (tv (op2 eqD (vr 9) (fnE lstD aNil))) (dropS (opM appD (vr 4) (vr 5))) (dropS (opM appD (vr 3) (fnE tupD (yH (op2 ixD (vr 9) (cst (.int 0))) (yH (vr 6) aNil))))))))) (retS (vr 4))))))
def F.k44_free : List D -> Sto -> R D := fnF 10 2 Den.k44_free
def Den.k44_way : DSt :=
 (seqS (ifS (orT (notT (tv (op1 (isiD .lst) (vr 0)))) (orT (tv (op2 neD (fnE lenD (yH (vr 0) aNil)) (vr 4))) (notT (tv (fnE allD (yH (qAj (itE itL (vr 0)) 1 (setG 10) (fnE F.k42_ratio (yH (vr 10) aNil))) aNil)))))) (retS (cst (.bl false))) nxS) (seqS (ifS (tv (op2 neD (op2 ixD (vr 0) (vr 2)) (fnE tupD (yH (cst (.int 1)) (yH (cst (.int 1)) aNil))))) (retS (cst (.bl false))) nxS) (seqS (forS (itA qBv (yH (vr 4) aNil)) (setG 5) (ifS (andT (orT (tv (op2 gtD (vr 5) (vr 2))) (andT (tv (op2 inD (vr 5) (vr 1))) (tv (op2 neD (vr 5) (vr 2))))) (tv (op2 neD (op2 ixD (vr 0) (vr 5)) (fnE tupD (yH (cst (.int 0)) (yH (cst (.int 1)) aNil)))))) (retS (cst (.bl false))) nxS)) (seqS (forS (itE itL (vr 3)) (tupG [(setG 6), (setG 7), (setG 8)]) (seqS (setS 9 (fnE tupD (yH (cst (.int 0)) (yH (cst (.int 1)) aNil)))) (seqS (forS (itA qBv (yH (vr 4) aNil)) (setG 5) (setS 9 (fnE F.k21_plus (yH (vr 9) (yH (fnE F.k21_times (yH (op2 ixD (vr 6) (vr 5)) (yH (op2 ixD (vr 0) (vr 5)) aNil))) aNil))))) (ifS (tv (op2 neD (vr 9) (fnE tupD (yH (cst (.int 0)) (yH (cst (.int 1)) aNil))))) (retS (cst (.bl false))) nxS)))) (retS (cst (.bl true)))))))
def F.k44_way : List D -> Sto -> R D := fnF 10 5 Den.k44_way
def Den.k44_law : DSt :=
 (seqS (asgS (fnE F.k44_points (yH (vr 0) aNil)) (lstG [(setG 1), (setG 2)])) (seqS (setS 3 (mkE "Fit" F.Fit___init__ (yH (fnE lofD (yH (vr 2) aNil)) (yH (vr 1) aNil)))) (seqS (setS 4 (fnE F.k44_free (yH (vr 2) (yH (vr 1) aNil)))) (seqS (setS 5 (qAp "Fit" "free" F.Fit_free (vr 3) aNil)) (seqS (ifS (orT (notT (tv (op1 (isiD .lst) (vr 5)))) (tv (op2 neD (vr 5) (vr 4)))) (retS (cst (.bl false))) nxS) (seqS (setS 6 (qAp "Fit" "ways" F.Fit_ways (vr 3) aNil)) (seqS (ifS (orT (notT (tv (op1 (isiD .lst) (vr 6)))) (tv (op2 neD (fnE lenD (yH (vr 6) aNil)) (fnE lenD (yH (vr 4) aNil))))) (retS (cst (.bl false))) nxS) (seqS (forS (itA enumD (yH (vr 6) aNil)) (tupG [(setG 7), (setG 8)]) (ifS (notT (tv (fnE F.k44_way (yH (vr 8) (yH (vr 4) (yH (op2 ixD (vr 4) (vr 7)) (yH (vr 2) (yH (vr 1) aNil)))))))) (retS (cst (.bl false))) nxS)) (seqS (setS 9 (qAj (itE itL (vr 6)) 1 (setG 10) (fnE lofD (yH (vr 10) aNil)))) (seqS (dropS (opM appD (vr 5) (cst (.int 0)))) (seqS (forS (itE itL (vr 6)) (setG 8) (dropS (op1 clearD (vr 8)))) (seqS (dropS (opM appD (vr 6) (fnE lstD aNil))) (retS (andV (op2 eqD (qAp "Fit" "free" F.Fit_free (vr 3) aNil) (vr 4)) (op2 eqD (qAp "Fit" "ways" F.Fit_ways (vr 3) aNil) (vr 9))))))))))))))))
def F.k44_law : List D -> Sto -> R D := fnF 10 1 Den.k44_law
end
end
section
namespace Np
open PySem
def ratD (r : Rat) : D := .tup [.int r.num, .int (r.den : Int)]
def asRat : D -> Option Rat
 | .tup [.int n, .int d] => if (jCp n d).num = n /\ ((jCp n d).den : Int) = d then some (jCp n d) else none
 | _ => none
@[simp] theorem qDc (r : Rat) : asRat (ratD r) = some r := by
 have h : jCp r.num (r.den : Int) = r := jCq r
 simp [asRat, ratD, h]
def Le (n : Nat) (r : Rat) : Prop := r.num.natAbs < 2 ^ n /\ r.den < 2 ^ n
theorem Le.mono {m n : Nat} {r : Rat} (h : Le m r) (k : m <= n) : Le n r := by
 have : 2 ^ m <= 2 ^ n := jCr (by decide) k
 exact ⟨jAd h.1 this, jAd h.2 this⟩
theorem qD5 {n k : Nat} (h : k < 2 ^ n) : k.log2 <= n := by
 rcases jCs k with z | z
 ·subst z; simp
 ·exact jAk ((Nat.log2_lt (jAv z)).mpr h)
theorem Le.num {n : Nat} {r : Rat} (h : Le n r) : r.num.natAbs.log2 <= n := qD5 h.1
theorem Le.den {n : Nat} {r : Rat} (h : Le n r) : ((r.den : Int)).natAbs.log2 <= n := by
 rw [jCt]; exact qD5 h.2
theorem qFe (a b : Int) : (jCp a b).num.natAbs <= a.natAbs := by
 rw [Rat.num_divInt]
 by_cases hb : b = 0
 ·subst hb; simp
 ·have e : (b.sign * a / (b.gcd a : Int)).natAbs <= (b.sign * a).natAbs := by
   rw [Int.natAbs_ediv_of_dvd]
   ·exact Nat.div_le_self _ _
   ·exact Int.dvd_mul_of_dvd_right (Int.gcd_dvd_right ..)
  refine jAj e ?_
  rw [jCu, Int.natAbs_sign_of_ne_zero hb, Nat.one_mul]
  exact jAx _
theorem qFw {a b : Int} (hb : b ≠ 0) : (jCp a b).den <= b.natAbs := by
 rw [Rat.den_divInt, if_neg hb]
 exact Nat.div_le_self _ _
theorem Le.divInt {n : Nat} {a b : Int} (hb : b ≠ 0) (h1 : a.natAbs < 2 ^ n) (h2 : b.natAbs < 2 ^ n) : Le n (jCp a b) :=
 ⟨jCg (qFe a b) h1, jCg (qFw hb) h2⟩
theorem qAq (r : Rat) : (0 : Int) < r.den := by have := r.den_pos; omega
theorem qCo (a b : Rat) : a + b = jCp (a.num * b.den + b.num * a.den) (a.den * b.den) := by
 rw [Rat.add_def', <- jCv]
 norm_cast
theorem sub_divInt (a b : Rat) : a - b = jCp (a.num * b.den - b.num * a.den) (a.den * b.den) := by
 rw [Rat.sub_def', <- jCv]
 norm_cast
theorem qC8 (a b : Rat) : a * b = jCp (a.num * b.num) (a.den * b.den) := by
 rw [Rat.mul_def', <- jCv]
 norm_cast
theorem qEg (a b : Rat) : (a.den : Int) * b.den ≠ 0 := Int.mul_ne_zero (by have := qAq a; omega) (by have := qAq b; omega)
theorem qBx {x y m n : Nat} (h1 : x < 2 ^ m) (h2 : y < 2 ^ n) : x * y < 2 ^ (m + n) := by
 rw [jCw]
 exact Nat.mul_lt_mul'' h1 h2
theorem Le.add {m n : Nat} {a b : Rat} (ha : Le m a) (hb : Le n b) : Le (m + n + 1) (a + b) := by
 rw [qCo]
 refine Le.divInt (qEg a b) ?_ ?_
 ·have h1 : (a.num * (b.den : Int)).natAbs < 2 ^ (m + n) := by rw [jCu, jCt]; exact qBx ha.1 hb.2
  have h2 : (b.num * (a.den : Int)).natAbs < 2 ^ (m + n) := by rw [jCu, jCt, Nat.add_comm]; exact qBx hb.1 ha.2
  have h3 := jCx (a.num * (b.den : Int)) (b.num * (a.den : Int))
  rw [jCy]
  omega
 ·rw [jCu, jCt, jCt]
  exact Nat.lt_trans (qBx ha.2 hb.2) (jCz (by decide) (jBf _))
theorem Le.neg {n : Nat} {a : Rat} (ha : Le n a) : Le n (-a) := by
 refine ⟨?_, ?_⟩
 ·show (-a.num).natAbs < _
  rw [Int.natAbs_neg]; exact ha.1
 ·show a.den < _
  exact ha.2
theorem Le.mul {m n : Nat} {a b : Rat} (ha : Le m a) (hb : Le n b) : Le (m + n) (a * b) := by
 rw [qC8]
 refine Le.divInt (qEg a b) ?_ ?_
 ·rw [jCu]; exact qBx ha.1 hb.1
 ·rw [jCu, jCt, jCt]; exact qBx ha.2 hb.2
def sm (r : Rat) : Prop := r.num.natAbs.log2 <= 40000000 /\ r.den.log2 <= 40000000
theorem Le.sm {n : Nat} {r : Rat} (h : Le n r) (k : n <= 40000000) : sm r := ⟨jAj (qD5 h.1) k, jAj (qD5 h.2) k⟩
theorem Le.inv {n : Nat} {a : Rat} (ha : Le n a) (hn : 0 < n) : Le n a⁻¹ := by
 by_cases h : a.num = 0
 ·have : a = 0 := Rat.num_eq_zero.mp h
  subst this
  rw [Rat.inv_zero]
  exact ha
 ·rw [Rat.inv_def]
  refine Le.divInt h ?_ ha.1
  rw [jCt]
  exact ha.2
theorem div_divInt {a b : Rat} : a / b = jCp (a.num * b.den) (a.den * b.num) := by
 rw [jC0, Rat.inv_def]
 conv => lhs; lhs; rw [<- jCq a]
 rw [Rat.divInt_mul_divInt]
theorem Le.div {m n : Nat} {a b : Rat} (ha : Le m a) (hb : Le n b) (hn : 0 < n) : Le (m + n) (a / b) := by
 rw [jC0]
 exact ha.mul (hb.inv hn)
theorem Le.one {n : Nat} (h : 0 < n) : Le n 1 := ⟨by
 show (1 : Nat) < 2 ^ n
 exact jC1 (by omega), by
 show (1 : Nat) < 2 ^ n
 exact jC1 (by omega)⟩
theorem Le.zero {n : Nat} (h : 0 < n) : Le n 0 := ⟨by
 show (0 : Nat) < 2 ^ n
 exact jC2 n, by
 show (1 : Nat) < 2 ^ n
 exact jC1 (by omega)⟩
theorem W_fnF {n k : Nat} {g : DSt} {ds : List D} {S : Sto} {Q : D -> Sto -> Prop} (h : ds.length = k) (q : W (outF (g (startD n ds) S)) Q) : W (fnF n k g ds S) Q := by unfold fnF; rw [if_pos h, W_noer]; exact q
theorem qDf (n : Nat) (S : Sto) (i : Int) : rd n S (.int i) = some (.int i) := by cases n <;> rfl
theorem rd_bl (n : Nat) (S : Sto) (b : Bool) : rd n S (.bl b) = some (.bl b) := by cases n <;> rfl
theorem eqD_int (i j : Int) (S : Sto) : eqD (.int i) (.int j) S = ok (.bl (decide (i = j))) S := by
 unfold eqD; rw [qDf, qDf]; rfl
theorem neD_int (i j : Int) (S : Sto) : neD (.int i) (.int j) S = ok (.bl (!decide (i = j))) S := by
 unfold neD; rw [qDf, qDf]; rfl
theorem eqD_bl (i j : Bool) (S : Sto) : eqD (.bl i) (.bl j) S = ok (.bl (i == j)) S := by
 unfold eqD; rw [rd_bl, rd_bl]; rfl
def ratT (q : Rat) : T := .tup [.int q.num, .int q.den]
theorem rd_rat (n : Nat) (S : Sto) (q : Rat) : rd (n + 1) S (ratD q) = some (ratT q) := by
 simp [rd, rdl, ratD, ratT, qDf]
theorem rat_ext {p q : Rat} (h1 : p.num = q.num) (h2 : (p.den : Int) = q.den) : p = q := Rat.ext h1 (by omega)
theorem eqT_rat (p q : Rat) : eqT (ratT p) (ratT q) = decide (p = q) := by
 simp only [ratT, eqT, eqTs, Bool.and_true]
 by_cases h : p = q
 ·subst h; simp
 ·rw [decide_eq_false h]
  by_cases h1 : p.num = q.num
  ·have h2 : ¬ (p.den : Int) = q.den := fun h2 => h (rat_ext h1 h2)
   simp [h1]
   exact fun h3 => h2 h3
  ·simp [h1]
theorem eqD_rat (p q : Rat) (S : Sto) : eqD (ratD p) (ratD q) S = ok (.bl (decide (p = q))) S := by
 unfold eqD; rw [rd_rat, rd_rat]
 show ok (D.bl (eqT (ratT p) (ratT q))) S = _
 rw [eqT_rat]
theorem neD_rat (p q : Rat) (S : Sto) : neD (ratD p) (ratD q) S = ok (.bl (!decide (p = q))) S := by
 unfold neD; rw [rd_rat, rd_rat]
 show ok (D.bl (!eqT (ratT p) (ratT q))) S = _
 rw [eqT_rat]
theorem rat0 : D.tup [.int 0, .int 1] = ratD 0 := rfl
theorem rat1 : D.tup [.int 1, .int 1] = ratD 1 := rfl
theorem tup2 (x y : D) (S : Sto) : tupD [x, y] S = ok (.tup [x, y]) S := rfl
theorem qE8 {f : D -> Option T} {α : Type} (g : α -> D) (h : α -> T) (hf : ∀ x, f (g x) = some (h x)) : ∀ xs : List α, rdl f (xs.map g) = some (xs.map h)
 | [] => rfl
 | x :: xs => by simp [rdl, hf, qE8 g h hf xs]
theorem eqTs_rat : ∀ xs ys : List Rat, eqTs (xs.map ratT) (ys.map ratT) = decide (xs = ys)
 | [], [] => by simp [eqTs]
 | [], _ :: _ => by simp [eqTs]
 | _ :: _, [] => by simp [eqTs]
 | x :: xs, y :: ys => by
  simp only [jBb, eqTs, eqT_rat, eqTs_rat xs ys, List.cons.injEq]
  by_cases h1 : x = y <;> by_cases h2 : xs = ys <;> simp [h1, h2]
abbrev RowA (S : Sto) (a : Nat) (xs : List Rat) : Prop := zH S a = some (xs.map ratD)
theorem rd_row {S : Sto} {a : Nat} {xs : List Rat} (n : Nat) (h : RowA S a xs) : rd (n + 2) S (.ref a) = some (.lst (xs.map ratT)) := by
 show (match zH S a with | some ds => (rdl (rd (n + 1) S) ds).map T.lst | none => none) = _
 rw [h]
 show (rdl (rd (n + 1) S) (xs.map ratD)).map T.lst = _
 rw [qE8 ratD ratT (rd_rat n S)]
 rfl
theorem addD_int (i j : Int) (S : Sto) : addD (.int i) (.int j) S = ok (.int (i + j)) S := rfl
theorem subD_int (i j : Int) (S : Sto) : subD (.int i) (.int j) S = ok (.int (i - j)) S := rfl
theorem negD_int (i : Int) (S : Sto) : negD (.int i) S = ok (.int (-i)) S := rfl
theorem absD_int (i : Int) (S : Sto) : absD [.int i] S = ok (.int (if i < 0 then -i else i)) S := rfl
theorem ltD_int (i j : Int) (S : Sto) : ltD (.int i) (.int j) S = ok (.bl (decide (i < j))) S := rfl
theorem leD_int (i j : Int) (S : Sto) : leD (.int i) (.int j) S = ok (.bl (decide (i <= j))) S := rfl
theorem gtD_int (i j : Int) (S : Sto) : gtD (.int i) (.int j) S = ok (.bl (decide (j < i))) S := rfl
theorem geD_int (i j : Int) (S : Sto) : geD (.int i) (.int j) S = ok (.bl (decide (j <= i))) S := rfl
theorem qAf {i j : Int} (h : j ≠ 0) (S : Sto) : qBc (.int i) (.int j) S = ok (.int (i.fdiv j)) S := by show (if _ then _ else _) = _; rw [if_neg h]
theorem qAc {i j : Int} (h : j ≠ 0) (S : Sto) : modD (.int i) (.int j) S = ok (.int (i.fmod j)) S := by show (if _ then _ else _) = _; rw [if_neg h]
theorem qAi {i j : Int} (h : i.natAbs.log2 + j.natAbs.log2 <= 100000000) (S : Sto) : mulD (.int i) (.int j) S = ok (.int (i * j)) S := by
 show (if _ then _ else _) = _
 rw [if_pos h]
theorem atPK_int (i : Int) (S : Sto) : atPK (.int i) S = ok (some i) S := rfl
theorem isND_non (x : D) (S : Sto) : isND x .non S = ok (.bl (qBr x)) S := rfl
theorem isNND_non (x : D) (S : Sto) : isNND x .non S = ok (.bl (!qBr x)) S := rfl
theorem noneB_non : qBr .non = true := rfl
theorem noneB_ref (a : Nat) : qBr (.ref a) = false := rfl
theorem noneB_tup (a : List D) : qBr (.tup a) = false := rfl
theorem noneB_int (a : Int) : qBr (.int a) = false := rfl
theorem noneB_rat (a : Rat) : qBr (ratD a) = false := rfl
theorem isi_int_int (i : Int) (S : Sto) : isiD .int (.int i) S = ok (.bl true) S := rfl
theorem isi_bool_int (i : Int) (S : Sto) : isiD .bool (.int i) S = ok (.bl false) S := rfl
theorem isi_bool_bl (i : Bool) (S : Sto) : isiD .bool (.bl i) S = ok (.bl true) S := rfl
theorem isi_tup_rat (p : Rat) (S : Sto) : isiD .tup (ratD p) S = ok (.bl true) S := rfl
theorem isi_tup_tup (p : List D) (S : Sto) : isiD .tup (.tup p) S = ok (.bl true) S := rfl
theorem qBj {S : Sto} {a : Nat} {xs : List D} (h : zH S a = some xs) : isiD .lst (.ref a) S = ok (.bl true) S := by
 unfold zH at h
 split at h
 ·rename_i e
  show (match (match S[a]? with | some (.lst _) => some true | some (.dct _) => some false | _ => none) with | some b => ok (D.bl b) S | none => none) = _
  rw [e]
 ·cases h
theorem qAz {S : Sto} {a : Nat} {xs : List D} (h : zH S a = some xs) : lenD [.ref a] S = ok (.int xs.length) S := by
 show lenK (zH S a) S = _
 rw [h]; rfl
theorem lenD_rat (p : Rat) (S : Sto) : lenD [ratD p] S = ok (.int 2) S := rfl
theorem lenD_tup (xs : List D) (S : Sto) : lenD [.tup xs] S = ok (.int xs.length) S := rfl
theorem lenD_scr (xs : List D) (S : Sto) : lenD [.scr xs] S = ok (.int xs.length) S := rfl
theorem qFk {n i : Nat} (h : i < n) : ixA n (i : Int) = some i := by
 unfold ixA
 rw [if_pos (by omega), if_pos (by omega)]
 rfl
theorem qAg {S : Sto} {a i : Nat} {xs : List D} {d : D} (h : zH S a = some xs) (hi : xs[i]? = some d) : ixD (.ref a) (.int i) S = ok d S := by
 have hl : i < xs.length := (jAr.mp hi).1
 show ixK (zH S a) i S = _
 rw [h]
 unfold ixK
 simp only [qFk hl, jC3, hi]
theorem ixD_scr {S : Sto} {i : Nat} {xs : List D} {d : D} (hi : xs[i]? = some d) : ixD (.scr xs) (.int i) S = ok d S := by
 have hl : i < xs.length := (jAr.mp hi).1
 show ixK (some xs) i S = _
 unfold ixK
 simp only [qFk hl, jC3, hi]
theorem ix0 (p : Rat) (S : Sto) : ixD (ratD p) (.int 0) S = ok (.int p.num) S := rfl
theorem ix1 (p : Rat) (S : Sto) : ixD (ratD p) (.int 1) S = ok (.int p.den) S := rfl
theorem qAk {S : Sto} {a : Nat} {xs : List D} (h : zH S a = some xs) : itL (.ref a) S = ok (.one a) S := by
 show (match zH S a with | some _ => ok (Src.one a) S | none => none) = _
 rw [h]
theorem itL_scr (xs : List D) (S : Sto) : itL (.scr xs) S = ok (.fix xs) S := rfl
theorem qFh {S : Sto} {a : Nat} {xs : List D} (h : zH S a = some xs) : lofD [.ref a] S = ok (.ref S.length) (S ++ [.lst xs]) := by
 show (match zH S a with | some xs => newO (.lst xs) S | none => none) = _
 rw [h]; rfl
theorem appD_ref {S : Sto} {a : Nat} {xs : List D} (d : D) (h : zH S a = some xs) (hl : xs.length < 1000000) : appD (.ref a) d S = ok .non (S.set a (.lst (xs ++ [d]))) := by
 show (match zH S a with | some xs => _ | none => none) = _
 rw [h]
 show (if _ then _ else _) = _
 rw [if_pos hl]
theorem qB1 {S : Sto} {a : Nat} {xs : List D} (h : zH S a = some xs) (f : D -> D -> Sto -> R D) (b : DE) (δ : DS) : opMK f b δ (.ref a) S = bnd (b δ S) (f (.ref a)) := by
 unfold opMK isL
 simp only [h, Option.isSome_some, if_true]
theorem sm.nn {a b : Rat} (ha : sm a) (hb : sm b) : a.num.natAbs.log2 + b.num.natAbs.log2 <= 100000000 := by have := ha.1; have := hb.1; omega
theorem sm.nd {a b : Rat} (ha : sm a) (hb : sm b) : a.num.natAbs.log2 + ((b.den : Int)).natAbs.log2 <= 100000000 := by have := ha.1; have := hb.2; rw [jCt]; omega
theorem sm.dn {a b : Rat} (ha : sm a) (hb : sm b) : ((a.den : Int)).natAbs.log2 + b.num.natAbs.log2 <= 100000000 := by have := ha.2; have := hb.1; rw [jCt]; omega
theorem sm.dd {a b : Rat} (ha : sm a) (hb : sm b) : ((a.den : Int)).natAbs.log2 + ((b.den : Int)).natAbs.log2 <= 100000000 := by have := ha.2; have := hb.2; rw [jCt, jCt]; omega
end Np
end
local macro_rules
  | `(tactic| simp_all [$xs,*]) => do
    let ys : Lean.Syntax.TSepArray [`Lean.Parser.Tactic.simpStar, `Lean.Parser.Tactic.simpErase, `Lean.Parser.Tactic.simpLemma] "," := ⟨xs.elemsAndSeps⟩
    `(tactic| simp only [Np.ifK_t, Np.ifK_f, Np.ifEK_t, Np.ifEK_f, Np.andTK_t, Np.andTK_f, Np.orTK_t, Np.orTK_f, Np.andVB_t, Np.andVB_f, Np.orVB_t, Np.orVB_f, Np.chnB_t, Np.chnB_f, Np.W_bnd, Np.W_ok, Np.W_outF, Np.outQ, Np.seqS, Np.asgS, Np.asgK, Np.setS, Np.setG, Np.retS, Np.retK, Np.ifS, Np.dropS, Np.dropK, Np.nxS, Np.seqK_nx, Np.seqK_rt, Np.vr, Np.cst, Np.op1, Np.op2, Np.op2K, Np.opM, Np.opM3, Np.op3, Np.op3J, Np.op3K, Np.op3K2, Np.fnE, Np.fnD, Np.yH, Np.aConsK, Np.consK, Np.aNil, Np.tv, Np.truV_bl,
  Np.andT, Np.orT, Np.notT, Np.notK, Np.andV, Np.andVK, Np.orV, Np.orVK, Np.notV, Np.notVK, Np.notVB, Np.ifE, Np.chn, Np.chnK, Np.chnK2, Np.chnT, Np.parS, Np.parK, Np.parK2, Np.tupGs, Np.bnd_ok, Np.itE, Np.itA, Np.forS, Np.cntS, Np.brkS,
  Np.startD, jBb, jB7, jA7, jC4, jBk, jC5, jB5, jC6, jCb, List.set_cons_zero, List.set_cons_succ, jC7, Nat.reduceSub, Nat.zero_add,
  Np.addD_int, Np.subD_int, Np.negD_int, Np.absD_int, Np.ltD_int, Np.leD_int, Np.gtD_int, Np.geD_int, Np.isi_int_int, Np.isi_bool_int, Np.isi_bool_bl, Np.isi_tup_rat, Np.isi_tup_tup, Np.isND_non, Np.isNND_non, Np.noneB_non, Np.noneB_ref, Np.noneB_tup, Np.noneB_int, Np.noneB_rat, Np.eqD_int, Np.neD_int, Np.eqD_bl, Np.eqD_rat, Np.neD_rat, Np.tup2, Np.rat0, Np.rat1, Np.slE, Np.slK, Np.slK1, Np.slK2, Np.noP, Np.atP, Np.atPK_int,
  Np.lenD_rat, Np.lenD_tup, Np.lenD_scr, Np.ix0, Np.ix1, Np.itL_scr,
  decide_true, decide_false, Bool.not_true, Bool.not_false, Bool.not_not, decide_eq_true_eq, Bool.not_eq_true', decide_eq_false_iff_not, Bool.false_eq_true, if_true, if_false, Bool.not_eq_eq_eq_not, reduceIte, reduceCtorEq, ne_eq, not_true_eq_false, not_false_eq_true, and_self, $ys,*])
section
namespace Nm
open Np PySem
theorem gcd_step {a b : Int} (hb : 0 < b) (ha : 0 <= a) : 0 <= a.fmod b /\ a.fmod b < b /\ jC8 b (a.fmod b) = jC8 a b := by
 rw [jC9 a (by omega)]
 refine ⟨Int.emod_nonneg _ (by omega), Int.emod_lt_of_pos _ hb, ?_⟩
 obtain ⟨x, rfl⟩ := jDa ha
 obtain ⟨y, rfl⟩ := jDa (Int.le_of_lt hb)
 rw [<- Int.natCast_emod, jDb, jDb, Nat.gcd_comm y, <- Nat.gcd_rec, Nat.gcd_comm]
theorem W_eq {α : Type} {m : R α} {a : α} {S : Sto} (h : W m fun b S' => b = a /\ S' = S) : m = ok a S := by
 obtain ⟨b, S', e, rfl, rfl⟩ := h.out
 exact e
theorem qBo {a b : Int} (ha : 0 <= a) (hb : 0 <= b) (S : Sto) : F.greatest_common [.int a, .int b] S = ok (.int (jC8 a b)) S := by
 refine W_eq ?_
 (unfold F.greatest_common; refine Np.W_fnF rfl ?_; unfold Den.greatest_common; simp_all [])
 refine W_whileS (fun δ S' => S' = S /\ ∃ x y o, δ = [some (.int a), some (.int b), some (.int x), some (.int y), o] /\ 0 <= x /\ 0 <= y /\ jC8 x y = jC8 a b) (fun δ _ => match δ with | [_, _, _, some (.int y), _] => y.natAbs | _ => 0) ⟨rfl, a, b, none, rfl, ha, hb, rfl⟩ ?_
 rintro δ S' ⟨rfl, x, y, o, rfl, hx, hy, hg⟩
 simp_all []
 by_cases h0 : y = 0
 ·subst h0
  simp_all []
  rw [<- hg]
  simp
  omega
 ·rw [if_pos h0]
  obtain ⟨h1, h2, h3⟩ := gcd_step (a := x) (b := y) (by omega) hx
  simp_all [qAc h0]
  simp only [loopQ]
  refine ⟨⟨trivial, y, x.fmod y, _, rfl, hy, h1, by rw [h3, hg]⟩, by omega⟩
theorem gcd_abs (a b : Int) : jC8 (if a < 0 then -a else a) (if b < 0 then -b else b) = jC8 b a := by
 rw [Int.gcd_comm b a]
 unfold jC8
 congr 1 <;> split <;> simp
theorem qCl {a b : Int} (h : b ∣ a) (hb : b ≠ 0) : a.fdiv b = a / b := by
 obtain ⟨c, rfl⟩ := h
 rw [jDc _ hb, Int.mul_ediv_cancel_left _ hb]
theorem qCv {a b : Int} (hb : b ≠ 0) : ∀ c : Int, c = (if b < 0 then -((jC8 b a : Nat) : Int) else ((jC8 b a : Nat) : Int)) -> c ≠ 0 /\ a.fdiv c = (jCp a b).num /\ b.fdiv c = ((jCp a b).den : Int) := by
 intro c hc
 have g0 : jC8 b a ≠ 0 := fun z => hb (Int.eq_zero_of_gcd_eq_zero_left z)
 have g1 : ((jC8 b a : Nat) : Int) ∣ a := Int.gcd_dvd_right ..
 have g2 : ((jC8 b a : Nat) : Int) ∣ b := Int.gcd_dvd_left ..
 have g3 : ((jC8 b a : Nat) : Int) ≠ 0 := by omega
 rw [Rat.num_divInt, Rat.den_divInt, if_neg hb]
 split at hc
 ·rename_i hn
  subst hc
  refine ⟨by omega, ?_, ?_⟩
  ·rw [qCl (Int.neg_dvd.mpr g1) (by omega), Int.ediv_neg, Int.sign_eq_neg_one_of_neg hn, Int.neg_one_mul, Int.neg_ediv_of_dvd g1]
  ·rw [qCl (Int.neg_dvd.mpr g2) (by omega), Int.ediv_neg, Int.natCast_ediv, Int.ofNat_natAbs_of_nonpos (by omega), Int.neg_ediv_of_dvd g2]
 ·rename_i hn
  subst hc
  refine ⟨g3, ?_, ?_⟩
  ·rw [qCl g1 g3, Int.sign_eq_one_of_pos (by omega), Int.one_mul]
  ·rw [qCl g2 g3, Int.natCast_ediv, Int.natAbs_of_nonneg (by omega)]
theorem qCp (a : Int) : 0 <= (if a < 0 then -a else a) := by split <;> omega
theorem qDl {a b : Int} (hb : b ≠ 0) (S : Sto) : F.ratio [.int a, .int b] S = ok (ratD (jCp a b)) S := by
 refine W_eq ?_
 (unfold F.ratio; refine Np.W_fnF rfl ?_; unfold Den.ratio; simp_all [])
 simp_all [hb, qBo (qCp _) (qCp _), gcd_abs]
 by_cases hn : b < 0
 ·obtain ⟨c0, c1, c2⟩ := qCv (a := a) hb (-((jC8 b a : Nat) : Int)) (by rw [if_pos hn])
  simp_all [hn, qAf c0]
  simp only [c1, c2, ratD, and_self]
 ·obtain ⟨c0, c1, c2⟩ := qCv (a := a) hb (((jC8 b a : Nat) : Int)) (by rw [if_neg hn])
  simp_all [hn, qAf c0]
  simp only [c1, c2, ratD, and_self]
theorem plus_eq {p q : Rat} (hp : sm p) (hq : sm q) (S : Sto) : F.plus [ratD p, ratD q] S = ok (ratD (p + q)) S := by
 refine W_eq ?_
 (unfold F.plus; refine Np.W_fnF rfl ?_; unfold Den.plus; simp_all [])
 simp_all [qAi (hp.nd hq), qAi (hq.nd hp), qAi (hp.dd hq), qDl (qEg p q), <- qCo]
theorem minus_eq {p q : Rat} (hp : sm p) (hq : sm q) (S : Sto) : F.minus [ratD p, ratD q] S = ok (ratD (p - q)) S := by
 refine W_eq ?_
 (unfold F.minus; refine Np.W_fnF rfl ?_; unfold Den.minus; simp_all [])
 simp_all [qAi (hp.nd hq), qAi (hq.nd hp), qAi (hp.dd hq), qDl (qEg p q), <- sub_divInt]
theorem times_eq {p q : Rat} (hp : sm p) (hq : sm q) (S : Sto) : F.times [ratD p, ratD q] S = ok (ratD (p * q)) S := by
 refine W_eq ?_
 (unfold F.times; refine Np.W_fnF rfl ?_; unfold Den.times; simp_all [])
 simp_all [qAi (hp.nn hq), qAi (hp.dd hq), qDl (qEg p q), <- qC8]
theorem over_eq {p q : Rat} (hp : sm p) (hq : sm q) (h : q ≠ 0) (S : Sto) : F.over [ratD p, ratD q] S = ok (ratD (p / q)) S := by
 refine W_eq ?_
 (unfold F.over; refine Np.W_fnF rfl ?_; unfold Den.over; simp_all [])
 have h2 : (p.den : Int) * q.num ≠ 0 := Int.mul_ne_zero (by have := qAq p; omega) fun z => h (Rat.num_eq_zero.mp z)
 simp_all [qAi (hp.nd hq), qAi (hp.dn hq), qDl h2, <- div_divInt]
def Has (src : Src) (S : Sto) (xs : List D) : Prop := xs.length <= src.len S /\ ∀ i, src.get S i = some xs[i]?
theorem Has.fix (xs : List D) (S : Sto) : Has (.fix xs) S xs := ⟨jAx _, fun _ => rfl⟩
theorem qBs {a : Nat} {S : Sto} {xs : List D} (h : zH S a = some xs) (i : Nat) : (Src.one a).get S i = some xs[i]? := by
 show (match zH S a with | some xs => some xs[i]? | none => none) = _
 rw [h]
theorem qAs {a : Nat} {S : Sto} {xs : List D} (h : zH S a = some xs) : (Src.one a).len S = xs.length := by
 show (match zH S a with | some xs => xs.length | none => 0) = _
 rw [h]
theorem Has.one {a : Nat} {S : Sto} {xs : List D} (h : zH S a = some xs) : Has (.one a) S xs := ⟨by rw [qAs h]; exact jAx _, qBs h⟩
def qCy (xs ys : List D) : List D := jDd (fun x y => .tup [x, y]) xs ys
theorem get_two {a b : Nat} {S : Sto} {xs ys : List D} (h : zH S a = some xs) (k : zH S b = some ys) (i : Nat) : (Src.two a b).get S i = some (qCy xs ys)[i]? := by
 show (match zH S a, zH S b with | some xs, some ys => some (two1 xs[i]? ys[i]?) | _, _ => none) = _
 rw [h, k]
 show some (two1 xs[i]? ys[i]?) = _
 unfold qCy
 rw [jDe]
 cases xs[i]? <;> cases ys[i]? <;> rfl
theorem len_two {a b : Nat} {S : Sto} {xs : List D} (h : zH S a = some xs) : (Src.two a b).len S = xs.length := by
 show (match zH S a with | some xs => xs.length | none => 0) = _
 rw [h]
theorem Has.two {a b : Nat} {S : Sto} {xs ys : List D} (h : zH S a = some xs) (k : zH S b = some ys) : Has (.two a b) S (qCy xs ys) := ⟨by
 rw [len_two h]; unfold qCy; rw [jDf]; omega, get_two h k⟩
theorem zip2D_ref {a b : Nat} {S : Sto} {xs ys : List D} (h : zH S a = some xs) (k : zH S b = some ys) : qEo [.ref a, .ref b] S = ok (.two a b) S := by
 show (match zH S a, zH S b with | some _, some _ => ok (Src.two a b) S | _, _ => none) = _
 rw [h, k]
theorem qB9 {n : Nat} (h : n < 1000000) (S : Sto) : qBv [.int n] S = ok (.fix (qB7 0 n)) S := by
 have hlim := lim_eq
 simp only [qBv]
 rw [if_pos (by omega)]
 rfl
theorem qEb : ∀ (n : Nat) (lo : Nat), qB7 lo n = (jDg lo n).map fun i => D.int (i : Nat)
 | 0, _ => rfl
 | n + 1, lo => by
  have := qEb n (lo + 1)
  simp only [List.range'_succ, jBb, qB7]
  rw [<- this]
  rfl
theorem qBa (n : Nat) : qB7 0 n = (jAg n).map fun i => D.int (i : Nat) := by
 have := qEb n 0
 rw [List.range_eq_range']
 exact this
theorem qC3 {it : DI} {g : DG} {e : DE} {base : DS} {k : Nat} {S : Sto} {src : Src} (vals : D -> List (Option D)) {xs : List D} {f : D -> D} {P : D -> Prop} (hg : Tg g k vals base P) (hit : it base S = ok src S) (hs : Has src S xs) (hl : src.len S <= 1000000) (hP : ∀ x ∈ xs, P x)
  (step : ∀ x ∈ xs, e (base ++ vals x) S = ok (f x) S) : qAj it k g e base S = ok (.ref S.length) (S ++ [.lst (xs.map f)]) := by
 refine W_eq ?_
 refine qDd vals xs (fun i acc S' => S' = S /\ acc = (xs.take i).map f) P hP hg ?_ ?_ ?_
 ·rw [hit, W_ok]
  exact ⟨hs.1, hl, ⟨rfl, rfl⟩, fun i acc S' ⟨h, _⟩ => by rw [h]; exact hs.2 i⟩
 ·rintro i x acc S' hx ha ⟨rfl, he⟩
  rw [step x (jBt hx), W_ok]
  refine ⟨rfl, ?_⟩
  rw [he, jDh, hx]
  simp
 ·rintro acc S' ⟨rfl, he⟩ _
  rw [he, jDi]
  exact ⟨rfl, rfl⟩
theorem W_compX {it : DI} {g : DG} {e : DE} {base : DS} {k : Nat} {S : Sto} {Q : D -> Sto -> Prop} (vals : D -> List (Option D)) (xs : List D) (Rl : D -> D -> Prop) (P : D -> Prop) (hg : Tg g k vals base P) (hP : ∀ x ∈ xs, P x)
  (hit : W (it base S) fun src S' => xs.length <= src.len S' /\ src.len S' <= 1000000 /\ SLe S S' /\ ∀ i S'', SLe S' S'' -> src.get S'' i = some xs[i]?)
  (step : ∀ x S', x ∈ xs -> SLe S S' -> W (e (base ++ vals x) S') fun d S'' => Rl x d /\ SLe S' S'')
  (fin : ∀ ds S', SLe S S' -> ds.length = xs.length -> (∀ (i : Nat) x d, xs[i]? = some x -> ds[i]? = some d -> Rl x d) -> Q (.ref S'.length) (S' ++ [.lst ds])) : W (qAj it k g e base S) Q := by
 obtain ⟨src, S0, e0, h1, h2, h3, h4⟩ := hit.out
 refine qDd vals xs (fun i acc S' => SLe S0 S' /\ acc.length = i /\ ∀ (j : Nat) x d, xs[j]? = some x -> acc[j]? = some d -> Rl x d) P hP hg ?_ ?_ ?_
 ·rw [e0, W_ok]
  exact ⟨h1, h2, ⟨SLe.rfl, rfl, fun j x d _ h => by simp at h⟩, fun i acc S'' h => h4 i S'' h.1⟩
 ·intro i x acc S' hx ha ⟨hS, _, he⟩
  refine (step x S' (jBt hx) (h3.trans hS)).mono fun d S'' ⟨h1, h2⟩ => ⟨hS.trans h2, by simp [ha], fun j y d' hy hd => ?_⟩
  by_cases hj : j < acc.length
  ·rw [jBr hj] at hd
   exact he j y d' hy hd
  ·rw [jBp (by omega)] at hd
   have : j = i := by
    have := (jAr.mp hd).1
    simp at this
    omega
   subst this
   rw [hx] at hy
   cases hy
   rw [<- ha] at hd
   simp at hd
   rw [<- hd]
   exact h1
 ·intro acc S' ⟨hS, hl, he⟩ hl'
  exact fin acc S' (h3.trans hS) hl' he
theorem mem_pairs {xs ys : List D} {z : D} (h : z ∈ qCy xs ys) : ∃ p q, z = .tup [p, q] := by
 unfold qCy at h
 obtain ⟨i, hi, rfl⟩ := jDj h
 rw [jDk]
 exact ⟨_, _, rfl⟩
theorem pairs_map (f : D -> D) (g : Rat -> Rat -> Rat) (hf : ∀ p q : Rat, f (.tup [ratD p, ratD q]) = ratD (g p q)) : ∀ xs ys : List Rat, (qCy (xs.map ratD) (ys.map ratD)).map f = (jDd g xs ys).map ratD
 | [], _ => rfl
 | _ :: _, [] => rfl
 | x :: xs, y :: ys => by
  have := pairs_map f g hf xs ys
  unfold qCy at this ⊢
  simp [hf, this]
noncomputable def pr (g : Rat -> Rat -> Rat) (d : D) : D := match d with
 | .tup [p, q] => match asRat p, asRat q with
  | some a, some b => ratD (g a b)
  | _, _ => .non
 | _ => .non
theorem pr_eq (g : Rat -> Rat -> Rat) (p q : Rat) : pr g (.tup [ratD p, ratD q]) = ratD (g p q) := by
 show (match asRat (ratD p), asRat (ratD q) with | some a, some b => ratD (g a b) | _, _ => .non) = _
 rw [qDc, qDc]
theorem zip_step {f : List D -> Sto -> R D} {g : Rat -> Rat -> Rat} {S : Sto} {xs ys : List Rat} (hf : ∀ p ∈ xs, ∀ q ∈ ys, f [ratD p, ratD q] S = ok (ratD (g p q)) S) : ∀ z ∈ qCy (xs.map ratD) (ys.map ratD), ∃ p ∈ xs, ∃ q ∈ ys, z = .tup [ratD p, ratD q] /\ f [ratD p, ratD q] S = ok (pr g z) S := by
 intro z hz
 unfold qCy at hz
 obtain ⟨i, hi, rfl⟩ := jDj hz
 rw [jDk, List.getElem_map, List.getElem_map]
 rw [jDf, jBd, jBd] at hi
 exact ⟨_, jDl _, _, jDl _, rfl, by rw [pr_eq]; exact hf _ (jDl _) _ (jDl _)⟩
theorem qFx {f : List D -> Sto -> R D} {g : Rat -> Rat -> Rat} {S : Sto} {a b : Nat} {xs ys : List Rat} (ha : RowA S a xs) (hb : RowA S b ys) (hl : xs.length <= 1000000) (hf : ∀ p ∈ xs, ∀ q ∈ ys, f [ratD p, ratD q] S = ok (ratD (g p q)) S) :
  qAj (itA qEo (yH (vr 0) (yH (vr 1) aNil))) 2 (tupG [(setG 2), (setG 3)]) (fnE f (yH (vr 2) (yH (vr 3) aNil))) [some (.ref a), some (.ref b)] S = ok (.ref S.length) (S ++ [.lst ((jDd g xs ys).map ratD)]) := by
 have := qC3 (it := itA qEo (yH (vr 0) (yH (vr 1) aNil))) (e := fnE f (yH (vr 2) (yH (vr 3) aNil))) (f := pr g) _ (tg_two [some (.ref a), some (.ref b)]) (src := .two a b) (S := S) (by
   simp only [itA, yH, aConsK, aNil, consK, vr, jC6, jCb, bnd_ok]
   exact zip2D_ref ha hb) (Has.two ha hb) (by rw [len_two ha, jBd]; exact hl) (fun x hx => mem_pairs hx) (fun z hz => by
   obtain ⟨p, _, q, _, rfl, h⟩ := zip_step hf z hz
   exact h)
 rw [pairs_map (pr g) g (pr_eq g)] at this
 exact this
theorem added_eq {S : Sto} {a b : Nat} {xs ys : List Rat} (ha : RowA S a xs) (hb : RowA S b ys) (hl : xs.length <= 1000000) (sx : ∀ x ∈ xs, sm x) (sy : ∀ y ∈ ys, sm y) : F.added [.ref a, .ref b] S = ok (.ref S.length) (S ++ [.lst ((jDd (· + ·) xs ys).map ratD)]) := by
 refine W_eq ?_
 (unfold F.added; refine Np.W_fnF rfl ?_; unfold Den.added; simp_all [])
 rw [qFx ha hb hl fun p hp q hq => plus_eq (sx p hp) (sy q hq) S]
 simp_all []
theorem taken_eq {S : Sto} {a b : Nat} {xs ys : List Rat} (ha : RowA S a xs) (hb : RowA S b ys) (hl : xs.length <= 1000000) (sx : ∀ x ∈ xs, sm x) (sy : ∀ y ∈ ys, sm y) : F.taken [.ref a, .ref b] S = ok (.ref S.length) (S ++ [.lst ((jDd (· - ·) xs ys).map ratD)]) := by
 refine W_eq ?_
 (unfold F.taken; refine Np.W_fnF rfl ?_; unfold Den.taken; simp_all [])
 rw [qFx ha hb hl fun p hp q hq => minus_eq (sx p hp) (sy q hq) S]
 simp_all []
theorem qCz {S : Sto} {a b : Nat} {xs ys : List Rat} (ha : RowA S a xs) (hb : RowA S b ys) (hl : xs.length <= 1000000) (sx : ∀ x ∈ xs, sm x) (sy : ∀ y ∈ ys, sm y) : F.multiplied [.ref a, .ref b] S = ok (.ref S.length) (S ++ [.lst ((jDd (· * ·) xs ys).map ratD)]) := by
 refine W_eq ?_
 (unfold F.multiplied; refine Np.W_fnF rfl ?_; unfold Den.multiplied; simp_all [])
 rw [qFx ha hb hl fun p hp q hq => times_eq (sx p hp) (sy q hq) S]
 simp_all []
noncomputable def on1 (g : Rat -> D) (d : D) : D := match asRat d with
 | some a => g a
 | none => .non
theorem on1_eq (g : Rat -> D) (p : Rat) : on1 g (ratD p) = g p := by unfold on1; rw [qDc]
theorem map_on1 (g : Rat -> D) (xs : List Rat) : (xs.map ratD).map (on1 g) = xs.map g := by
 rw [jCc]
 exact List.map_congr_left fun x _ => on1_eq g x
theorem qFy {e : DE} {base : DS} {S : Sto} {a : Nat} {xs : List Rat} {g : Rat -> D} {it : DI} (hit : it base S = ok (.one a) S) (ha : RowA S a xs) (hl : xs.length <= 1000000) (he : ∀ x ∈ xs, e (base ++ [some (ratD x)]) S = ok (g x) S) :
  qAj it 1 (setG base.length) e base S = ok (.ref S.length) (S ++ [.lst (xs.map g)]) := by
 rw [qC3 _ (qA4 base) hit (Has.one ha) (by rw [qAs ha, jBd]; exact hl) (fun _ _ => trivial) (f := on1 g) fun x hx => by
  obtain ⟨q, hq, rfl⟩ := jB9.mp hx
  rw [on1_eq]
  exact he q hq]
 rw [map_on1]
theorem scaled_eq {S : Sto} {a : Nat} {xs : List Rat} {q : Rat} (ha : RowA S a xs) (hl : xs.length <= 1000000) (sx : ∀ x ∈ xs, sm x) (sq : sm q) : F.scaled [.ref a, ratD q] S = ok (.ref S.length) (S ++ [.lst ((xs.map (· * q)).map ratD)]) := by
 refine W_eq ?_
 (unfold F.scaled; refine Np.W_fnF rfl ?_; unfold Den.scaled; simp_all [])
 have := qFy (it := itE itL (vr 0)) (e := fnE F.times (yH (vr 2) (yH (vr 1) aNil))) (base := [some (.ref a), some (ratD q)]) (g := fun x => ratD (x * q)) (by
  simp only [itE, vr, jC6, bnd_ok]
  exact qAk ha) ha hl fun x hx => times_eq (sx x hx) sq S
 rw [show ([some (D.ref a), some (ratD q)] : DS).length = 2 from rfl] at this
 rw [this]
 simp_all []
 rw [jCc]
 exact ⟨trivial, rfl⟩
theorem qF2 {α : Type} (p : α -> Bool) : ∀ xs : List α, allB (xs.map fun x => D.bl (p x)) = some (xs.all p)
 | [] => rfl
 | x :: xs => by
  rw [jBb, List.all_cons]
  show (match allB (xs.map fun x => D.bl (p x)) with | some c => some (p x && c) | none => none) = _
  rw [qF2 p xs]
theorem qDq {S : Sto} {a : Nat} {xs : List D} {b : Bool} (h : zH S a = some xs) (hb : allB xs = some b) : allD [.ref a] S = ok (.bl b) S := by
 show (match zH S a with | some xs => (match allB xs with | some b => ok (D.bl b) S | none => none) | none => none) = _
 rw [h]
 show (match allB xs with | some b => ok (D.bl b) S | none => none) = _
 rw [hb]
theorem qD9 {S : Sto} {a : Nat} {xs : List Rat} (ha : RowA S a xs) (hl : xs.length <= 1000000) : ∃ o, F.is_still [.ref a] S = ok (.bl (xs.all fun x => decide (x = 0))) (S ++ [o]) := by
 refine ⟨.lst (xs.map fun x => .bl (decide (x = 0))), W_eq ?_⟩
 (unfold F.is_still; refine Np.W_fnF rfl ?_; unfold Den.is_still; simp_all [])
 have := qFy (it := itE itL (vr 0)) (e := op2 eqD (vr 1) (cst (ratD 0))) (base := [some (.ref a)]) (g := fun x => .bl (decide (x = 0))) (by
  simp only [itE, vr, jC6, bnd_ok]
  exact qAk ha) ha hl fun x hx => eqD_rat x 0 S
 rw [show ([some (D.ref a)] : DS).length = 1 from rfl] at this
 rw [this]
 simp_all [qDq (qAd S _) (qF2 _ xs)]
theorem qDv {a j : Int} (h : (0 <= j /\ j <= 1000) /\ a.natAbs < 1000000) (S : Sto) : powD (.int a) (.int j) S = ok (.int (a ^ j.toNat)) S := by
 simp only [powD]
 rw [if_pos h]
theorem whole_int (i : Int) (S : Sto) : F.k02_whole [.int i] S = ok (.bl true) S := by
 refine W_eq ?_
 (unfold F.k02_whole; refine Np.W_fnF rfl ?_; unfold Den.k02_whole; simp_all [])
theorem gcd_abs1 (a b : Int) : jC8 (if a < 0 then -a else a) b = jC8 a b := by
 split
 ·unfold jC8; rw [Int.natAbs_neg]
 ·rfl
theorem gcd_num_den (r : Rat) : jC8 r.num (r.den : Int) = 1 := r.reduced
theorem qEl (ns : List Int) (k : Nat) (S : Sto) : ∃ c : Int, (c = 0 \/ c ∈ ns) /\ F.k11_cell_at [.scr (ns.map D.int), .int k] S = ok (.int c) S := by
 by_cases h : k < ns.length
 ·refine ⟨ns[k], .inr (jDl _), W_eq ?_⟩
  (unfold F.k11_cell_at; refine Np.W_fnF rfl ?_; unfold Den.k11_cell_at; simp_all [])
  have h1 : (k : Int) < ((ns.map D.int).length : Int) := by rw [jBd]; omega
  have h2 : (ns.map D.int)[k]? = some (.int ns[k]) := by simp [h]
  simp_all [h1, ixD_scr h2]
 ·refine ⟨0, .inl rfl, W_eq ?_⟩
  (unfold F.k11_cell_at; refine Np.W_fnF rfl ?_; unfold Den.k11_cell_at; simp_all [])
  have h1 : ¬ (k : Int) < ((ns.map D.int).length : Int) := by rw [jBd]; omega
  simp_all [h1]
theorem eight (i : Int) (h0 : 0 <= i) (h8 : i < 8) {S : Sto} {a : Nat} (h : zH S a = some [.int 1, .int 1, .int 1, .int 2, .int 3, .int 4, .int 6, .int 12]) : ∃ c : Int, 1 <= c /\ c <= 12 /\ ixD (.ref a) (.int i) S = ok (.int c) S := by
 have : i = 0 \/ i = 1 \/ i = 2 \/ i = 3 \/ i = 4 \/ i = 5 \/ i = 6 \/ i = 7 := by omega
 rcases this with rfl | rfl | rfl | rfl | rfl | rfl | rfl | rfl
 ·exact ⟨1, by decide, by decide, qAg (i := 0) h rfl⟩
 ·exact ⟨1, by decide, by decide, qAg (i := 1) h rfl⟩
 ·exact ⟨1, by decide, by decide, qAg (i := 2) h rfl⟩
 ·exact ⟨2, by decide, by decide, qAg (i := 3) h rfl⟩
 ·exact ⟨3, by decide, by decide, qAg (i := 4) h rfl⟩
 ·exact ⟨4, by decide, by decide, qAg (i := 5) h rfl⟩
 ·exact ⟨6, by decide, by decide, qAg (i := 6) h rfl⟩
 ·exact ⟨12, by decide, by decide, qAg (i := 7) h rfl⟩
theorem qAx {ds : List D} (h : ds.length <= 1000) (S : Sto) : lstD ds S = ok (.ref S.length) (S ++ [.lst ds]) := by
 unfold lstD; rw [if_pos h]; rfl
theorem Le.divInt' {n : Nat} {a b : Int} (hb : 0 < b) (h1 : a.natAbs < 2 ^ n) (h2 : b.natAbs < 2 ^ n) : Le n (jCp a b) := Le.divInt (by omega) h1 h2
theorem qA1 (a : Int) {b : Int} (hb : 0 < b) : 0 <= a.fmod b /\ a.fmod b < b := by
 rw [jC9 a (by omega)]
 exact ⟨Int.emod_nonneg _ (by omega), Int.emod_lt_of_pos _ hb⟩
def Scr (ns : List Int) : Prop := ns.length <= 63 /\ ∀ z ∈ ns, z.natAbs.log2 < 1048577
theorem qAw {m : R D} {S : Sto} {xs : List D} {Q : D -> Sto -> Prop} (h : m = ok (.ref S.length) (S ++ [.lst xs])) (k : ∀ S' b, SLe S S' -> S.length <= b -> zH S' b = some xs -> Q (.ref b) S') : W m Q :=
 W.intro h (k _ _ (SLe.app _) (jAx _) (qAd S xs))
theorem W_app {S : Sto} {b : Nat} {xs : List D} {d : D} {Q : D -> Sto -> Prop} (h : zH S b = some xs) (hl : xs.length < 1000000) (k : ∀ S', S'.length = S.length -> (∀ S0, SLe S0 S -> S0.length <= b -> SLe S0 S') -> (∀ c, c ≠ b -> zH S' c = zH S c) -> zH S' b = some (xs ++ [d]) -> Q .non S') : W (appD (.ref b) d S) Q := by
 refine W.intro (appD_ref d h hl) (k _ (by simp) (fun S0 l hb => l.set hb _) (fun c hc => qBn (Ne.symm hc)) (qD2 h))
theorem slD_ref {S : Sto} {a : Nat} {xs : List D} (h : zH S a = some xs) (lo hi : Option Int) : slD (.ref a) lo hi S = ok (.ref S.length) (S ++ [.lst (cutD xs lo hi)]) := by
 show (match zH S a with | some xs => newO (.lst (cutD xs lo hi)) S | none => none) = _
 rw [h]; rfl
theorem cut_hi {xs : List D} {k : Nat} : cutD xs none (some (k : Int)) = xs.take k := by
 unfold cutD sIxD
 simp only []
 rw [if_neg (by omega), List.drop_zero, Nat.sub_zero]
 by_cases h : k <= xs.length
 ·congr 1
  simp
  omega
 ·rw [jDm (by simp; omega), jDm (by omega)]
theorem qFg {S : Sto} {a : Nat} {d : D} {k : Nat} (h : zH S a = some [d]) (hk : k <= 1000000) : mulD (.ref a) (.int (k : Int)) S = ok (.ref S.length) (S ++ [.lst (jBk k d)]) := by
 show repD (zH S a) k S = _
 rw [h]
 unfold repD
 simp only []
 rw [if_pos (by simp; omega)]
 have : (jBk k [d]).flatten = jBk k d := by simp
 rw [Int.toNat_natCast, this]
 rfl
theorem rep_rat (k : Nat) (q : Rat) : jBk k (ratD q) = (jBk k q).map ratD := by simp
theorem RowA.rep {S : Sto} {a k : Nat} {q : Rat} (h : zH S a = some (jBk k (ratD q))) : RowA S a (jBk k q) := by
 show zH S a = _
 rw [h, rep_rat]
theorem ixD_at0 {S : Sto} {a : Nat} {xs : List D} {d : D} (h : zH S a = some xs) (hi : xs[0]? = some d) : ixD (.ref a) (.int 0) S = ok d S := qAg (i := 0) h hi
theorem ixD_at1 {S : Sto} {a : Nat} {xs : List D} {d : D} (h : zH S a = some xs) (hi : xs[1]? = some d) : ixD (.ref a) (.int 1) S = ok d S := qAg (i := 1) h hi
def TabR (S : Sto) (a : Nat) (as : List Nat) (T : List (List Rat)) : Prop := zH S a = some (as.map D.ref) /\ as.length = T.length /\ ∀ (i b : Nat) r, as[i]? = some b -> T[i]? = some r -> RowA S b r
theorem rdl_tab {S : Sto} (n : Nat) : ∀ (as : List Nat) (T : List (List Rat)), as.length = T.length -> (∀ (i b : Nat) r, as[i]? = some b -> T[i]? = some r -> RowA S b r) -> rdl (rd (n + 2) S) (as.map D.ref) = some (T.map fun r => Np.T.lst (r.map ratT))
 | [], [], _, _ => rfl
 | [], _ :: _, h, _ => by cases h
 | _ :: _, [], h, _ => by cases h
 | a :: as, r :: T, h, k => by
  have h0 := rd_row n (k 0 a r rfl rfl)
  have ih := rdl_tab n as T (by simpa using h) fun i b r h1 h2 => k (i + 1) b r (by simpa using h1) (by simpa using h2)
  simp only [jBb, rdl, h0, ih]
theorem rd_tab {S : Sto} {a : Nat} {as : List Nat} {T : List (List Rat)} (n : Nat) (h : TabR S a as T) : rd (n + 3) S (.ref a) = some (.lst (T.map fun r => Np.T.lst (r.map ratT))) := by
 show (match zH S a with | some ds => (rdl (rd (n + 2) S) ds).map Np.T.lst | none => none) = _
 rw [h.1]
 show (rdl (rd (n + 2) S) (as.map D.ref)).map Np.T.lst = _
 rw [rdl_tab n as T h.2.1 h.2.2]
 rfl
theorem eqTs_tab : ∀ A B : List (List Rat), eqTs (A.map fun r => Np.T.lst (r.map ratT)) (B.map fun r => Np.T.lst (r.map ratT)) = decide (A = B)
 | [], [] => by simp [eqTs]
 | [], _ :: _ => by simp [eqTs]
 | _ :: _, [] => by simp [eqTs]
 | x :: xs, y :: ys => by
  simp only [jBb, eqTs, eqT, eqTs_rat, eqTs_tab xs ys, List.cons.injEq]
  by_cases h1 : x = y <;> by_cases h2 : xs = ys <;> simp [h1, h2]
theorem eqD_tab {S : Sto} {a b : Nat} {as bs : List Nat} {A B : List (List Rat)} (ha : TabR S a as A) (hb : TabR S b bs B) : eqD (.ref a) (.ref b) S = ok (.bl (decide (A = B))) S := by
 unfold eqD; rw [rd_tab 6 ha, rd_tab 6 hb]
 show ok (D.bl (eqTs (A.map fun r => Np.T.lst (r.map ratT)) (B.map fun r => Np.T.lst (r.map ratT)))) S = _
 rw [eqTs_tab]
theorem TabR.le {S S' : Sto} {a : Nat} {as : List Nat} {T : List (List Rat)} (h : TabR S a as T) (l : SLe S S') : TabR S' a as T := ⟨l.lst h.1, h.2.1, fun i b r h1 h2 => l.lst (h.2.2 i b r h1 h2)⟩
theorem qFd {a : Nat} {S : Sto} {xs : List D} (h : zH S a = some xs) (hl : xs.length <= 1000000) : xs.length <= (Src.one a).len S /\ (Src.one a).len S <= 1000000 /\ SLe S S /\ ∀ i S'', SLe S S'' -> (Src.one a).get S'' i = some xs[i]? := by
 rw [qAs h]
 exact ⟨jAx _, hl, SLe.rfl, fun i S'' l => qBs (l.lst h) i⟩
theorem qEi {it : DI} {g : DG} {e : DE} {base : DS} {k : Nat} {S : Sto} {src : Src} (vals : D -> List (Option D)) {xs zs : List D} {P : D -> Prop} (hg : Tg g k vals base P) (hit : it base S = ok src S) (hs : Has src S xs) (hl : src.len S <= 1000000) (hP : ∀ x ∈ xs, P x) (hz : zs.length = xs.length)
  (step : ∀ (i : Nat) x z, xs[i]? = some x -> zs[i]? = some z -> e (base ++ vals x) S = ok z S) : qAj it k g e base S = ok (.ref S.length) (S ++ [.lst zs]) := by
 refine W_eq ?_
 refine qDd vals xs (fun i acc S' => S' = S /\ acc = zs.take i) P hP hg ?_ ?_ ?_
 ·rw [hit, W_ok]
  exact ⟨hs.1, hl, ⟨rfl, rfl⟩, fun i acc S' ⟨h, _⟩ => by rw [h]; exact hs.2 i⟩
 ·rintro i x acc S' hx ha ⟨rfl, he⟩
  have hi : i < zs.length := by rw [hz]; exact (jAr.mp hx).1
  have hzi : zs[i]? = some zs[i] := by simp [hi]
  rw [step i x _ hx hzi, W_ok]
  refine ⟨rfl, ?_⟩
  rw [he, jDh, hzi]
  rfl
 ·rintro acc S' ⟨rfl, he⟩ _
  rw [he, <- hz, jDi]
  exact ⟨rfl, rfl⟩
theorem it_rng1 {as : DA} {base : DS} {S : Sto} {n : Nat} (h : as base S = ok [.int (n : Int)] S) (hn : n < 1000000) : itA qBv as base S = ok (.fix (qB7 0 n)) S := by
 unfold itA
 rw [h, bnd_ok, qB9 hn S]
theorem qEz {e : DE} {base : DS} {S : Sto} {as : DA} {n : Nat} {zs : List D} (has : as base S = ok [.int (n : Int)] S) (hn : n < 1000000) (hz : zs.length = n)
  (step : ∀ (i : Nat) z, zs[i]? = some z -> e (base ++ [some (.int i)]) S = ok z S) : qAj (itA qBv as) 1 (setG base.length) e base S = ok (.ref S.length) (S ++ [.lst zs]) := by
 have hit := it_rng1 has hn
 rw [qBa] at hit
 refine qEi _ (qA4 base) hit (Has.fix _ _) (by show jBn _ <= _; simp; omega) (fun _ _ => trivial) (by simpa using hz) fun i x z hx hz => ?_
 have hi : i < n := by
  have := (jAr.mp hx).1
  simpa using this
 have ex : x = .int (i : Nat) := by simpa [hi] using hx.symm
 subst ex
 exact step i z hz
theorem qAr {α : Type} {xs : List α} {f : α -> D} {i : Nat} {z : D} (h : (xs.map f)[i]? = some z) : ∃ x, xs[i]? = some x /\ z = f x := by
 rw [jBs] at h
 cases q : xs[i]? with
 | none => rw [q] at h; cases h
 | some x => rw [q] at h; cases h; exact ⟨x, rfl, rfl⟩
theorem qB3 {α β γ : Type} {f : α -> β -> γ} {xs : List α} {ys : List β} {i : Nat} {z : γ} (h : (jDd f xs ys)[i]? = some z) : ∃ x y, xs[i]? = some x /\ ys[i]? = some y /\ z = f x y := by
 rw [jDe] at h
 cases q : xs[i]? with
 | none => rw [q] at h; simp at h
 | some x =>
  cases q2 : ys[i]? with
  | none => rw [q, q2] at h; simp at h
  | some y => rw [q, q2] at h; simp at h; exact ⟨x, y, rfl, rfl, h.symm⟩
theorem map_get {α : Type} {xs : List α} {i : Nat} {x : α} (f : α -> D) (h : xs[i]? = some x) : (xs.map f)[i]? = some (f x) := by simp [h]
theorem zK {α : Type} {xs : List α} {i : Nat} {x : α} (h : xs[i]? = some x) : x ∈ xs := jBt h
theorem RowA.to {S : Sto} {a : Nat} {xs ys : List Rat} (h : zH S a = some (xs.map ratD)) (e : xs = ys) : RowA S a ys := e ▸ h
theorem zip_rep_r {f : Rat -> Rat -> Rat} {q : Rat} (h : ∀ x, f x q = x) : ∀ xs : List Rat, jDd f xs (jBk xs.length q) = xs
 | [] => rfl
 | x :: xs => by simp [jB0, h, zip_rep_r h xs]
theorem zip_rep_l {f : Rat -> Rat -> Rat} {q : Rat} (h : ∀ x, f q x = x) : ∀ xs : List Rat, jDd f (jBk xs.length q) xs = xs
 | [] => rfl
 | x :: xs => by simp [jB0, h, zip_rep_l h xs]
theorem sm_of {n : Nat} {xs : List Rat} (h : ∀ x ∈ xs, Le n x) (hn : n <= 40000000) : ∀ x ∈ xs, sm x := fun x hx => (h x hx).sm hn
def sumR (xs : List Rat) : Rat := xs.foldl (· + ·) 0
theorem qDs {xs : List Rat} {i : Nat} {x : Rat} (h : xs[i]? = some x) : sumR (xs.take (i + 1)) = sumR (xs.take i) + x := by
 unfold sumR
 rw [jDh, h, jDn]
 rfl
theorem Le.sumR {n : Nat} : ∀ {xs : List Rat}, (∀ x ∈ xs, Le n x) -> Le (1 + (n + 1) * xs.length) (sumR xs) := by
 suffices h : ∀ (xs : List Rat) (m : Nat) (q : Rat), Le m q -> (∀ x ∈ xs, Le n x) -> Le (m + (n + 1) * xs.length) (xs.foldl (· + ·) q) from fun {xs} hx => h xs 1 0 (Le.zero (by decide)) hx
 intro xs
 induction xs with
 | nil => intro m q hq _; exact hq
 | cons x xs ih =>
  intro m q hq hx
  have := ih (m + n + 1) (q + x) (hq.add (hx x (.head _))) fun y hy => hx y (.tail _ hy)
  rw [jB2, jA7]
  refine this.mono ?_
  rw [jDo]
  omega
theorem qEx {f : Rat -> Rat -> Rat} {k m n : Nat} (hf : ∀ a b, Le m a -> Le n b -> Le k (f a b)) {xs ys : List Rat} (hx : ∀ x ∈ xs, Le m x) (hy : ∀ y ∈ ys, Le n y) : ∀ z ∈ jDd f xs ys, Le k z := fun z hz => by
 obtain ⟨i, hi, rfl⟩ := jDj hz
 rw [jDk]
 exact hf _ _ (hx _ (jDl _)) (hy _ (jDl _))
theorem sum_loop {S : Sto} {p : Nat} {zs : List Rat} {n : Nat} {δ0 : DS} {Q : Fl -> Sto -> Prop} (hp : RowA S p zs) (hz : ∀ z ∈ zs, Le n z) (hb : (n + 1) * zs.length + n + 1 <= 40000000)
  (a b c d o : Option D) (k : ∀ o', Q (.nx [a, b, c, d, some (ratD (sumR zs)), o']) S) : W (forK (setG 5) (asgS (fnE F.plus (yH (vr 4) (yH (vr 5) aNil))) (setG 4)) [a, b, c, d, some (ratD 0), o] (.one p) S) Q := by
 refine qBl (zs.map ratD) (fun i δ S' => S' = S /\ ∃ o', δ = [a, b, c, d, some (ratD (sumR (zs.take i))), o']) (by rw [qAs hp]; exact jAx _) ⟨rfl, o, rfl⟩ (fun i δ S' h => by rw [h.1]; exact qBs hp i) ?_ ?_
 ·rintro i x δ S' hx ⟨rfl, o', rfl⟩
  obtain ⟨z, hzi, rfl⟩ := qAr hx
  have hi : i < zs.length := (jAr.mp hzi).1
  have l1 : Le (1 + (n + 1) * (zs.take i).length) (sumR (zs.take i)) := Le.sumR fun x hx => hz x (jDp hx)
  have l2 : (n + 1) * (zs.take i).length <= (n + 1) * zs.length := jDq _ (by simp; omega)
  simp_all [plus_eq (l1.sm (by omega)) ((hz z (zK hzi)).sm (by omega))]
  exact ⟨rfl, _, by rw [qDs hzi]⟩
 ·rintro δ S' ⟨rfl, o', rfl⟩
  rw [jBd, jDi]
  exact k o'
theorem dotw_w {S : Sto} {a b c : Nat} {xs ys ws : List Rat} {m n k : Nat} (ha : RowA S a xs) (hb : RowA S b ys) (hc : RowA S c ws) (hx : ∀ x ∈ xs, Le m x) (hy : ∀ y ∈ ys, Le n y) (hw : ∀ y ∈ ws, Le k y) (hll : xs.length <= 1000000) (hl : (m + n + k + 1) * (xs.length + 1) <= 20000000) :
  W (F.dot [.ref a, .ref b, .ref c] S) fun d S' => SLe S S' /\ d = ratD (sumR (jDd (· * ·) (jDd (· * ·) xs ys) ws)) := by
 have h0 : xs.length + 1 <= (m + n + k + 1) * (xs.length + 1) := jDr _ (by omega)
 have h1 : (m + n + k + 1) <= (m + n + k + 1) * (xs.length + 1) := jDs _ (by omega)
 have hz := qEx (f := (· * ·)) (k := m + n) (fun a b h1 h2 => h1.mul h2) hx hy
 have hz2 := qEx (f := (· * ·)) (k := m + n + k) (fun a b h1 h2 => h1.mul h2) hz hw
 (unfold F.dot; refine Np.W_fnF rfl ?_; unfold Den.dot; simp_all [])
 refine qAw (qCz ha hb (by omega) (sm_of hx (by omega)) (sm_of hy (by omega))) fun S1 p l1 _ r1 => ?_
 refine qAw (qCz r1 (l1.lst hc) (by simp; omega) (sm_of hz (by omega)) (sm_of hw (by omega))) fun S2 p2 l2 _ r2 => ?_
 simp_all [qAk r2]
 refine sum_loop (n := m + n + k) (δ0 := []) r2 hz2 ?_ _ _ _ _ _ fun o' => ?_
 ·have : (m + n + k + 1) * (jDd (· * ·) (jDd (· * ·) xs ys) ws).length <= (m + n + k + 1) * (xs.length + 1) := jDq _ (by simp; omega)
  omega
 ·simp_all []
  exact ⟨l1.trans l2, trivial⟩
theorem sumR_cons (x : Rat) (xs : List Rat) : sumR (x :: xs) = x + sumR xs := by
 have h : ∀ (xs : List Rat) (q : Rat), xs.foldl (· + ·) q = q + xs.foldl (· + ·) 0 := by
  intro xs
  induction xs with
  | nil => intro q; simp [jDt]
  | cons y ys ih =>
   intro q
   rw [jB2, jB2, ih, ih (0 + y)]
   grind
 unfold sumR
 rw [jB2, h]
 grind
abbrev addR (xs ys : List Rat) : List Rat := jDd (· + ·) xs ys
abbrev subR (xs ys : List Rat) : List Rat := jDd (· - ·) xs ys
abbrev sclR (xs : List Rat) (q : Rat) : List Rat := xs.map (· * q)
def mixR : List (List Rat) -> List Rat -> Nat -> List Rat
 | r :: T, s :: ss, n => addR (sclR r s) (mixR T ss n)
 | _, _, n => jBk n 0
def Wide (T : List (List Rat)) (n : Nat) : Prop := ∀ r ∈ T, r.length = n
theorem Wide.tl {r : List Rat} {T : List (List Rat)} {n : Nat} (h : Wide (r :: T) n) : Wide T n := fun x hx => h x (.tail _ hx)
theorem qA0 : ∀ {T : List (List Rat)} {ss : List Rat} {n : Nat}, Wide T n -> (mixR T ss n).length = n
 | [], _, n, _ => by simp [mixR]
 | _ :: _, [], n, _ => by simp [mixR]
 | r :: T, s :: ss, n, h => by
  simp only [mixR, jDf, jBd]
  rw [qA0 h.tl, h r (.head _)]
  omega
theorem addR_zero_l : ∀ xs : List Rat, addR (jBk xs.length 0) xs = xs := zip_rep_l Rat.zero_add
theorem addR_zero_r : ∀ xs : List Rat, addR xs (jBk xs.length 0) = xs := zip_rep_r jDt
theorem qE0 : ∀ xs ys zs : List Rat, addR (addR xs ys) zs = addR xs (addR ys zs)
 | [], _, _ => by simp [addR]
 | _ :: _, [], _ => by simp [addR]
 | _ :: _, _ :: _, [] => by simp [addR]
 | x :: xs, y :: ys, z :: zs => by
  have := qE0 xs ys zs
  simp only [addR, jDu] at this ⊢
  rw [this, Rat.add_assoc]
theorem mixR_snoc : ∀ {T : List (List Rat)} {ss : List Rat} {r : List Rat} {s : Rat} {n : Nat}, Wide T n -> r.length = n -> T.length = ss.length -> mixR (T ++ [r]) (ss ++ [s]) n = addR (mixR T ss n) (sclR r s)
 | [], [], r, s, n, _, hr, _ => by
  have h : (sclR r s).length = n := by simp [hr]
  simp only [jB5, mixR]
  rw [<- h, addR_zero_l, addR_zero_r]
 | t :: T, u :: ss, r, s, n, h, hr, hl => by
  simp only [jC5, mixR]
  rw [mixR_snoc h.tl hr (by simpa using hl), qE0]
 | [], _ :: _, _, _, _, _, _, hl => by simp at hl
 | _ :: _, [], _, _, _, _, _, hl => by simp at hl
theorem mixR_take {T : List (List Rat)} {ss : List Rat} {n i : Nat} {r : List Rat} {s : Rat} (h : Wide T n) (hr : T[i]? = some r) (hs : ss[i]? = some s) : mixR (T.take (i + 1)) (ss.take (i + 1)) n = addR (mixR (T.take i) (ss.take i) n) (sclR r s) := by
 have h1 := (jAr.mp hr).1
 have h2 := (jAr.mp hs).1
 rw [jDh, jDh, hr, hs]
 exact mixR_snoc (fun x hx => h x (jDp hx)) (h r (zK hr)) (by simp; omega)
theorem mixR_get : ∀ {T : List (List Rat)} {ss : List Rat} {n k : Nat}, Wide T n -> k < n -> T.length = ss.length -> (mixR T ss n)[k]? = some (sumR (jDd (fun r s => r.getD k 0 * s) T ss))
 | [], [], n, k, _, hk, _ => by simp [mixR, hk, sumR]
 | r :: T, s :: ss, n, k, h, hk, hl => by
  have ih := mixR_get (ss := ss) h.tl hk (by simpa using hl)
  have hr : r[k]? = some (r.getD k 0) := by
   have : k < r.length := by rw [h r (.head _)]; exact hk
   simp [this]
  simp only [mixR, jDu, sumR_cons, jDe, ih, jBs, hr, jCe]
 | [], _ :: _, _, _, _, _, hl => by simp at hl
 | _ :: _, [], _, _, _, _, hl => by simp at hl
theorem zQ {α : Type} {xs : List α} {i : Nat} (h : i < xs.length) : ∃ x, xs[i]? = some x := ⟨xs[i], by simp [h]⟩
theorem qFr {r : List Rat} {k : Nat} (h : k < r.length) : r.getD k 0 ∈ r := by simp [h]
def LeT (n : Nat) (T : List (List Rat)) : Prop := ∀ r ∈ T, ∀ x ∈ r, Le n x
theorem le_mix {m n k : Nat} (hk : 0 < k) : ∀ {T : List (List Rat)} {ss : List Rat}, LeT m T -> (∀ s ∈ ss, Le n s) -> ∀ z ∈ mixR T ss k, Le (1 + (m + n + 1) * T.length) z := by
 intro T
 induction T with
 | nil =>
  intro ss _ _ z hz
  simp only [mixR, jDv] at hz
  rw [hz.2]
  exact Le.zero (by omega)
 | cons r T ih =>
  intro ss hT hs z hz
  cases ss with
  | nil =>
   simp only [mixR, jDv] at hz
   rw [hz.2]
   exact Le.zero (by omega)
  | cons s ss =>
   have h1 := ih (fun x hx => hT x (.tail _ hx)) (fun x hx => hs x (.tail _ hx))
   have h2 : ∀ x ∈ sclR r s, Le (m + n) x := fun x hx => by
    obtain ⟨y, hy, rfl⟩ := jB9.mp hx
    exact (hT r (.head _) y hy).mul (hs s (.head _))
   refine (qEx (f := (· + ·)) (k := (m + n) + (1 + (m + n + 1) * T.length) + 1) (fun a b h1 h2 => h1.add h2) h2 h1 z hz).mono ?_
   rw [jA7, jDo]
   omega
theorem TabR.row {S : Sto} {a : Nat} {as : List Nat} {T : List (List Rat)} {i : Nat} {r : List Rat} (h : TabR S a as T) (hi : T[i]? = some r) : ∃ b, as[i]? = some b /\ RowA S b r := by
 have hl : i < as.length := by rw [h.2.1]; exact (jAr.mp hi).1
 exact ⟨as[i], by simp [hl], h.2.2 i _ r (by simp [hl]) hi⟩
theorem mixed_w {S : Sto} {a b n m k : Nat} {as : List Nat} {T : List (List Rat)} {ss : List Rat} (ha : TabR S a as T) (hb : RowA S b ss) (hw : Wide T k) (hl : T.length = ss.length) (hT : LeT m T) (hs : ∀ s ∈ ss, Le n s) (hk : k < 1000000) (hB : (m + n + 1) * (T.length + 1) <= 20000000) :
  W (F.mixed [.ref a, .ref b, .int k] S) fun d S' => ∃ c, d = .ref c /\ S.length <= c /\ SLe S S' /\ RowA S' c (mixR T ss k) := by
 have hB1 : (m + n + 1) <= (m + n + 1) * (T.length + 1) := jDs _ (by omega)
 (unfold F.mixed; refine Np.W_fnF rfl ?_; unfold Den.mixed; simp_all [])
 refine qAw (qAx (by simp) _) fun S1 a1 l1 n1 r1 => ?_
 refine qAw (qFg r1 (by omega)) fun S2 a2 l2 n2 r2 => ?_
 replace r2 := RowA.rep r2
 have L := l1.trans l2
 simp_all [zip2D_ref (L.lst ha.1) (L.lst hb)]
 refine qBl (qCy (as.map D.ref) (ss.map ratD)) (fun i δ S' => SLe S S' /\ ∃ c o1 o2, δ = [some (.ref a), some (.ref b), some (.int k), some (.ref c), o1, o2] /\ S.length <= c /\ RowA S' c (mixR (T.take i) (ss.take i) k)) ?_ ⟨L, a2, _, _, rfl, by have := l1.len; omega, RowA.to r2 (by simp [mixR])⟩ (fun i δ S' h => get_two (h.1.lst ha.1) (h.1.lst hb) i) ?_ ?_
 ·rw [len_two (L.lst ha.1)]
  simp [qCy]
  omega
 ·rintro i x δ S' hx ⟨L', c, o1, o2, rfl, hc, rc⟩
  obtain ⟨x1, x2, h1, h2, rfl⟩ := qB3 hx
  obtain ⟨b1, hb1, rfl⟩ := qAr h1
  obtain ⟨s, hs1, rfl⟩ := qAr h2
  have hi : i < T.length := by rw [<- ha.2.1]; exact (jAr.mp hb1).1
  have hTi : T[i]? = some T[i] := by simp [hi]
  have rb := ha.2.2 i b1 _ hb1 hTi
  have hrow := hw _ (zK hTi)
  have ms := hs s (zK hs1)
  have lr : ∀ x ∈ T[i], Le m x := hT _ (zK hTi)
  have lsc : ∀ x ∈ sclR T[i] s, Le (m + n) x := fun x hx => by
   obtain ⟨y, hy, rfl⟩ := jB9.mp hx
   exact (lr y hy).mul ms
  have lmx : ∀ z ∈ mixR (T.take i) (ss.take i) k, sm z := fun z hz => by
   have hk0 : 0 < k := by
    rcases jCs k with h | h
    ·subst h
     have := qA0 (ss := ss.take i) (fun x hx => hw x (jDp hx) : Wide (T.take i) 0)
     rw [jDw] at this
     rw [this] at hz
     cases hz
    ·exact h
   refine (le_mix hk0 (fun r hr => hT r (jDp hr)) (fun x hx => hs x (jDp hx)) z hz).sm ?_
   have : (m + n + 1) * (T.take i).length <= (m + n + 1) * (T.length + 1) := jDq _ (by simp; omega)
   omega
  simp_all [tupG, jA7, jC4]
  refine qAw (scaled_eq (L'.lst rb) (by omega) (sm_of lr (by omega)) (ms.sm (by omega))) fun S3 a3 l3 n3 r3 => ?_
  refine qAw (added_eq (l3.lst rc) r3 (by rw [qA0 fun x hx => hw x (jDp hx)]; omega) lmx (sm_of lsc (by omega))) fun S4 a4 l4 n4 r4 => ?_
  refine ⟨L'.trans (l3.trans l4), a4, _, _, rfl, by have := L'.len; have := l3.len; omega, ?_⟩
  exact RowA.to r4 (mixR_take hw hTi hs1).symm
 ·rintro δ S' ⟨L', c, o1, o2, rfl, hc, rc⟩
  simp_all []
  refine ⟨c, rfl, hc, L', RowA.to rc ?_⟩
  rw [jDm (by simp [qCy, ha.2.1]; omega), jDm (by simp [qCy, ha.2.1]; omega)]
structure FT (n : Nat) (S : Sto) (c : Nat) (cs : List Nat) (U : List (List Rat)) : Prop where
 tab : TabR S c cs U
 lo : ∀ b ∈ cs, n <= b
 inc : cs.Nodup
 ne : ∀ b ∈ cs, b ≠ c
 nc : n <= c
theorem qCk {α : Type} {xs : List α} {x y : α} {i : Nat} (h : (xs ++ [x])[i]? = some y) : (i < xs.length /\ xs[i]? = some y) \/ (i = xs.length /\ y = x) := by
 by_cases hi : i < xs.length
 ·rw [jBr hi] at h
  exact .inl ⟨hi, h⟩
 ·rw [jBp (by omega)] at h
  have := (jAr.mp h).1
  have e : i = xs.length := by simp at this; omega
  subst e
  simp at h
  exact .inr ⟨rfl, h.symm⟩
theorem qF5 {it : DI} {g : DG} {e : DE} {base : DS} {k : Nat} {S : Sto} {Q : D -> Sto -> Prop} (vals : D -> List (Option D)) (xs : List D) (U : List (List Rat)) (P : D -> Prop) (hg : Tg g k vals base P) (hP : ∀ x ∈ xs, P x) (hU : U.length = xs.length)
  (hit : W (it base S) fun src S' => xs.length <= src.len S' /\ src.len S' <= 1000000 /\ SLe S S' /\ ∀ i S'', SLe S' S'' -> src.get S'' i = some xs[i]?)
  (step : ∀ (i : Nat) x r S', xs[i]? = some x -> U[i]? = some r -> SLe S S' -> W (e (base ++ vals x) S') fun d S'' => ∃ c, d = .ref c /\ S'.length <= c /\ SLe S' S'' /\ RowA S'' c r)
  (fin : ∀ S' c cs, SLe S S' -> FT S.length S' c cs U -> Q (.ref c) S') : W (qAj it k g e base S) Q := by
 obtain ⟨src, S0, e0, h1, h2, h3, h4⟩ := hit.out
 refine qDd vals xs (fun i acc S' => SLe S0 S' /\ ∃ cs : List Nat, acc = cs.map D.ref /\ cs.length = i /\ (∀ (j b : Nat) r, cs[j]? = some b -> U[j]? = some r -> RowA S' b r) /\ (∀ b ∈ cs, S.length <= b) /\ cs.Pairwise (· < ·) /\ ∀ b ∈ cs, b < S'.length) P hP hg ?_ ?_ ?_
 ·rw [e0, W_ok]
  exact ⟨h1, h2, ⟨SLe.rfl, [], rfl, rfl, fun j b r h => (by simp at h), fun _ h => (by cases h), .nil, fun _ h => (by cases h)⟩, fun i acc S'' h => h4 i S'' h.1⟩
 ·rintro i x acc S' hx ha ⟨hS, cs, rfl, hl, hr, hlo, hinc, htop⟩
  have hi : i < U.length := by rw [hU]; exact (jAr.mp hx).1
  obtain ⟨r, hri⟩ := zQ hi
  refine (step i x r S' hx hri (h3.trans hS)).mono ?_
  rintro d S'' ⟨c, rfl, hc, hS', hrow⟩
  refine ⟨hS.trans hS', cs ++ [c], by simp, by simp [hl], fun j b r' hb hr' => ?_, fun b hb => ?_, ?_, fun b hb => ?_⟩
  ·rcases qCk hb with ⟨_, h⟩ | ⟨rfl, rfl⟩
   ·exact hS'.lst (hr j b r' h hr')
   ·rw [hl] at hr'
    rw [hri] at hr'
    cases hr'
    exact hrow
  ·rcases jAp.mp hb with h | h
   ·exact hlo b h
   ·rw [jCj.mp h]
    have := (h3.trans hS).len
    omega
  ·rw [List.pairwise_append]
   refine ⟨hinc, List.pairwise_singleton _ _, fun b hb b' hb' => ?_⟩
   rw [jCj.mp hb']
   exact jAd (htop b hb) hc
  ·rcases jAp.mp hb with h | h
   ·exact jAd (htop b h) hS'.len
   ·rw [jCj.mp h]
    exact qAe hrow
 ·rintro acc S' ⟨hS, cs, rfl, hl, hr, hlo, hinc, htop⟩ _
  refine fin _ _ cs ((h3.trans hS).push _) ⟨⟨qAd S' _, by rw [hl, hU], fun i b r h1 h2 => (SLe.app _).lst (hr i b r h1 h2)⟩, hlo, hinc.imp fun h => jAf h, fun b hb => jAf (htop b hb), (h3.trans hS).len⟩
theorem cut_lo {xs : List D} {l : Nat} : cutD xs (some (l : Int)) none = xs.drop l := by
 unfold cutD sIxD
 simp only []
 rw [if_neg (by omega), Int.toNat_natCast]
 by_cases h : l <= xs.length
 ·rw [jDx h, jDm (by simp)]
 ·rw [jDy (as := xs) (i := l) (by omega), jDy (as := xs) (i := min l xs.length) (by omega)]
  simp
theorem FT.keep {n : Nat} {S S' : Sto} {c : Nat} {cs : List Nat} {U : List (List Rat)} (h : FT n S c cs U) (k : ∀ a, a = c \/ a ∈ cs -> zH S' a = zH S a) : FT n S' c cs U :=
 ⟨⟨by rw [k c (.inl rfl)]; exact h.tab.1, h.tab.2.1, fun i b r h1 h2 => by
  show zH S' b = _
  rw [k b (.inr (zK h1))]
  exact h.tab.2.2 i b r h1 h2⟩, h.lo, h.inc, h.ne, h.nc⟩
theorem FT.le {n : Nat} {S S' : Sto} {c : Nat} {cs : List Nat} {U : List (List Rat)} (h : FT n S c cs U) (l : SLe S S') : FT n S' c cs U := ⟨h.tab.le l, h.lo, h.inc, h.ne, h.nc⟩
theorem FT.lt {n : Nat} {S : Sto} {c : Nat} {cs : List Nat} {U : List (List Rat)} (h : FT n S c cs U) : ∀ b ∈ cs, b < S.length := fun b hb => by
 obtain ⟨i, hi⟩ := jDz hb
 obtain ⟨r, hr⟩ := zQ (show i < U.length by rw [<- h.tab.2.1]; exact (jAr.mp hi).1)
 exact qAe (h.tab.2.2 i b r hi hr)
def colR (T : List (List Rat)) (p : Nat) : List Rat := T.map fun r => r.getD p 0
def qAo (T : List (List Rat)) (n : Nat) : List (List Rat) := (jAg n).map (colR T)
def qB8 (n p : Nat) : List Rat := (jAg n).map fun i => if i = p then 1 else 0
theorem range_get {n i j : Nat} (h : (jAg n)[i]? = some j) : j = i /\ i < n := by
 have hi : i < n := by
  have := (jAr.mp h).1
  simpa using this
 exact ⟨by simpa [hi] using h.symm, hi⟩
theorem qAh {α : Type} {n i : Nat} {f : Nat -> α} {x : α} (h : ((jAg n).map f)[i]? = some x) : x = f i /\ i < n := by
 rw [jBs] at h
 cases q : (jAg n)[i]? with
 | none => rw [q] at h; cases h
 | some j =>
  rw [q] at h
  obtain ⟨rfl, hi⟩ := range_get q
  exact ⟨(Option.some.inj h).symm, hi⟩
theorem column_eq {S : Sto} {a p n : Nat} {as : List Nat} {T : List (List Rat)} (ha : TabR S a as T) (hw : Wide T n) (hp : p < n) (hl : T.length <= 1000000) : F.column_of [.ref a, .int (p : Int)] S = ok (.ref S.length) (S ++ [.lst ((colR T p).map ratD)]) := by
 refine W_eq ?_
 (unfold F.column_of; refine Np.W_fnF rfl ?_; unfold Den.column_of; simp_all [])
 have := qEi (it := itE itL (vr 0)) (e := op2 ixD (vr 2) (vr 1)) (S := S) _ (qA4 [some (.ref a), some (.int (p : Int))]) (src := .one a) (xs := as.map D.ref) (zs := (colR T p).map ratD) (by simp only [Np.itA, Np.itE, Np.yH, Np.aConsK, Np.aNil, Np.consK, Np.vr, Np.cst, jC6, jCb, Np.bnd_ok]; exact qAk ha.1) (Has.one ha.1) (by rw [qAs ha.1]; simp [ha.2.1]; exact hl) (fun _ _ => trivial) (by simp [colR, ha.2.1]) fun i x z hx hz => by
  obtain ⟨b, hb, rfl⟩ := qAr hx
  obtain ⟨q, hq, rfl⟩ := qAr hz
  unfold colR at hq
  rw [jBs] at hq
  cases h : T[i]? with
  | none => rw [h] at hq; cases hq
  | some r =>
   rw [h] at hq
   cases hq
   have hr : p < r.length := by rw [hw r (zK h)]; exact hp
   refine W_eq ?_
   simp_all [qAg (ha.2.2 i b r hb h) (show (r.map ratD)[p]? = some (ratD (r.getD p 0)) by simp [hr])]
 rw [show ([some (D.ref a), some (D.int (p : Int))] : DS).length = 2 from rfl] at this
 rw [this]
 simp_all []
theorem turned_w {S : Sto} {a n : Nat} {as : List Nat} {T : List (List Rat)} {Q : D -> Sto -> Prop} (ha : TabR S a as T) (hw : Wide T n) (hl : T.length <= 1000000) (hn : n < 1000000) (fin : ∀ S' c cs, SLe S S' -> FT S.length S' c cs (qAo T n) -> Q (.ref c) S') : W (F.turned [.ref a, .int (n : Int)] S) Q := by
 (unfold F.turned; refine Np.W_fnF rfl ?_; unfold Den.turned; simp_all [])
 refine qF5 (base := [_, _]) _ ((jAg n).map fun i => D.int (i : Nat)) (qAo T n) _ (qA4 _) (fun _ _ => trivial) (by simp [qAo]) ?_ ?_ fin
 ·rw [it_rng1 (n := n) rfl hn, qBa, W_ok]
  exact ⟨jAx _, by show jBn _ <= _; simp; omega, SLe.rfl, fun i S'' _ => rfl⟩
 ·intro i x r S' hx hr hS
  obtain ⟨rfl, hi⟩ := qAh hx
  obtain ⟨rfl, _⟩ := qAh hr
  simp_all []
  exact qAw (column_eq (ha.le hS) hw hi hl) fun S'' c l n r' => ⟨c, rfl, n, l, r'⟩
theorem unit_row_eq {S : Sto} {n p : Nat} (hn : n < 1000000) : F.unit_row [.int (n : Int), .int (p : Int)] S = ok (.ref S.length) (S ++ [.lst ((qB8 n p).map ratD)]) := by
 refine W_eq ?_
 (unfold F.unit_row; refine Np.W_fnF rfl ?_; unfold Den.unit_row; simp_all [])
 have := qEz (as := yH (vr 0) aNil) (S := S) (base := [some (.int (n : Int)), some (.int (p : Int))]) (e := ifE (tv (op2 eqD (vr 2) (vr 1))) (cst (ratD 1)) (cst (ratD 0))) (n := n) (zs := (qB8 n p).map ratD) rfl hn (by simp [qB8]) fun i z hz => by
  obtain ⟨q, hq, rfl⟩ := qAr hz
  obtain ⟨rfl, hi⟩ := qAh hq
  refine W_eq ?_
  by_cases h : i = p
  ·subst h
   simp_all []
  ·have h' : ¬ ((i : Int) = (p : Int)) := by omega
   simp_all [h', h]
 rw [show ([some (D.int (n : Int)), some (D.int (p : Int))] : DS).length = 2 from rfl] at this
 rw [this]
 simp_all []
theorem setXA_ref {S : Sto} {a i : Nat} {xs : List D} (v : D) (δ : DS) (h : zH S a = some xs) (hi : i < xs.length) : setXA v δ (.ref a) (.int (i : Int)) S = ok δ (S.set a (.lst (xs.set i v))) := by
 show (match zH S a with | some xs => _ | none => none) = _
 rw [h]
 simp only [qFk hi]
theorem qEn {S : Sto} {b i : Nat} {xs : List D} {v : D} {δ : DS} {Q : DS -> Sto -> Prop} (h : zH S b = some xs) (hi : i < xs.length) (k : ∀ S', S'.length = S.length -> (∀ S0, SLe S0 S -> S0.length <= b -> SLe S0 S') -> (∀ c, c ≠ b -> zH S' c = zH S c) -> zH S' b = some (xs.set i v) -> Q δ S') : W (setXA v δ (.ref b) (.int (i : Int)) S) Q := by
 refine W.intro (setXA_ref v δ h hi) (k _ (by simp) (fun S0 l hb => l.set hb _) (fun c hc => qBn (Ne.symm hc)) (qD2 h))
theorem FT.rows {n m : Nat} {S : Sto} {c : Nat} {cs : List Nat} {U : List (List Rat)} (h : FT n S c cs U) (hU : ∀ r ∈ U, r.length <= m) : ∀ x ∈ cs, ∃ xs, zH S x = some xs /\ xs.length <= m := fun x hx => by
 obtain ⟨i, hi⟩ := jDz hx
 obtain ⟨r, hr⟩ := zQ (show i < U.length by rw [<- h.tab.2.1]; exact (jAr.mp hi).1)
 exact ⟨r.map ratD, h.tab.2.2 i x r hi hr, by simp; exact hU r (zK hr)⟩
inductive Deed where
 | swap (i j : Nat) | scale (i : Nat) (q : Rat) | add (i j : Nat) (q : Rat)
def Deed.d : Deed -> D
 | .swap i j => .tup [.str "swap", .int (i : Int), .int (j : Int)]
 | .scale i q => .tup [.str "scale", .int (i : Int), ratD q]
 | .add i j q => .tup [.str "add", .int (i : Int), .int (j : Int), ratD q]
def Deed.Ok (m : Nat) : Deed -> Prop
 | .swap i j => i < m /\ j < m /\ i ≠ j
 | .scale i q => i < m /\ q ≠ 0
 | .add i j _ => i < m /\ j < m /\ i ≠ j
def zR (T : List (List Rat)) (i : Nat) : List Rat := T.getD i []
theorem tix (ds : List D) (i : Nat) (d : D) (h : ds[i]? = some d) (S : Sto) : ixD (.tup ds) (.int (i : Int)) S = ok d S := by
 have hl : i < ds.length := (jAr.mp h).1
 show ixK (some ds) i S = _
 unfold ixK
 simp only [qFk hl, jC3, h]
theorem tix0 (a : D) (r : List D) (S : Sto) : ixD (.tup (a :: r)) (.int 0) S = ok a S := tix (a :: r) 0 a rfl S
theorem tix1 (a b : D) (r : List D) (S : Sto) : ixD (.tup (a :: b :: r)) (.int 1) S = ok b S := tix (a :: b :: r) 1 b rfl S
theorem tix2 (a b c : D) (r : List D) (S : Sto) : ixD (.tup (a :: b :: c :: r)) (.int 2) S = ok c S := tix (a :: b :: c :: r) 2 c rfl S
theorem qCc (q : Rat) (S : Sto) : F.is_ratio [ratD q] S = ok (.bl true) S := by
 refine W_eq ?_
 have h1 : (1 : Int) <= q.den := by have := qAq q; omega
 have h2 : jC8 (if q.num < 0 then -q.num else q.num) (q.den : Int) = 1 := by rw [gcd_abs1]; exact gcd_num_den q
 (unfold F.is_ratio; refine Np.W_fnF rfl ?_; unfold Den.is_ratio; simp_all [])
 simp_all [whole_int, h1, qBo (qCp q.num) (show (0 : Int) <= q.den by omega), h2]
 exact ⟨rfl, trivial⟩
def Deed.le (n : Nat) : Deed -> Prop
 | .swap _ _ => True
 | .scale _ q => Le n q
 | .add _ _ q => Le n q
theorem yD {T : List (List Rat)} {i : Nat} {r : List Rat} (h : T[i]? = some r) : zR T i = r := by simp [zR, h]
theorem qDu {α : Type} {xs : List α} {i k : Nat} {x y : α} (h : (xs.set i x)[k]? = some y) : (k = i /\ y = x) \/ (k ≠ i /\ xs[k]? = some y) := by
 by_cases e : i = k
 ·subst e
  rw [List.getElem?_set] at h
  split at h
  ·split at h
   ·exact .inl ⟨rfl, (Option.some.inj h).symm⟩
   ·cases h
  ·exact absurd rfl (by assumption)
 ·rw [jAt e] at h
  exact .inr ⟨fun z => e z.symm, h⟩
theorem TabR.set {S S' : Sto} {c i b : Nat} {cs : List Nat} {U : List (List Rat)} {r : List Rat} (hl : cs.length = U.length) (hr : ∀ (k x : Nat) u, cs[k]? = some x -> U[k]? = some u -> RowA S x u) (hb : RowA S b r) : ∀ (k x : Nat) u, (cs.set i b)[k]? = some x -> (U.set i r)[k]? = some u -> RowA S x u := by
 intro k x u h1 h2
 rcases qDu h1 with ⟨rfl, rfl⟩ | ⟨hk, h1⟩
 ·rcases qDu h2 with ⟨_, rfl⟩ | ⟨hk, _⟩
  ·exact hb
  ·exact absurd rfl hk
 ·rcases qDu h2 with ⟨rfl, _⟩ | ⟨_, h2⟩
  ·exact absurd rfl hk
  ·exact hr k x u h1 h2
theorem qD1 (cs : List Nat) (i b : Nat) : (cs.map D.ref).set i (.ref b) = (cs.set i b).map D.ref := by rw [jD0]
theorem qDj {α : Type} {xs : List α} {i j k : Nat} {a b y : α} (hi : xs[i]? = some a) (hj : xs[j]? = some b) (h : ((xs.set i b).set j a)[k]? = some y) : (k = j /\ y = a) \/ (k ≠ j /\ k = i /\ y = b) \/ (k ≠ j /\ k ≠ i /\ xs[k]? = some y) := by
 rcases qDu h with ⟨rfl, rfl⟩ | ⟨hk, h⟩
 ·exact .inl ⟨rfl, rfl⟩
 ·rcases qDu h with ⟨rfl, rfl⟩ | ⟨hk2, h⟩
  ·exact .inr (.inl ⟨hk, rfl, rfl⟩)
  ·exact .inr (.inr ⟨hk, hk2, h⟩)
theorem nodup_swap {xs : List Nat} {i j a b : Nat} (h : xs.Nodup) (hi : xs[i]? = some a) (hj : xs[j]? = some b) : ((xs.set i b).set j a).Nodup := by
 show List.Pairwise _ _
 rw [List.pairwise_iff_getElem]
 intro p q hp hq hpq
 have hql : q < xs.length := by simpa using hq
 have inj : ∀ {u v x : Nat}, xs[u]? = some x -> xs[v]? = some x -> u = v := by
  intro u v x hu hv
  have h1 := (jAr.mp hu)
  have h2 := (jAr.mp hv)
  exact (List.getElem_inj h).mp (h1.2.trans h2.2.symm)
 obtain ⟨x, hx⟩ := zQ (xs := (xs.set i b).set j a) (i := p) (by simp; omega)
 obtain ⟨y, hy⟩ := zQ (xs := (xs.set i b).set j a) (i := q) (by simp; omega)
 intro e
 have e : x = y := by
  have h1 := (jAr.mp hx).2
  have h2 := (jAr.mp hy).2
  rw [<- h1, <- h2]
  exact e
 subst e
 rcases qDj hi hj hx with ⟨e1, e2⟩ | ⟨p1, e1, e2⟩ | ⟨p1, p2, hx'⟩ <;> rcases qDj hi hj hy with ⟨e3, e4⟩ | ⟨q1, e3, e4⟩ | ⟨q1, q2, hy'⟩
 ·omega
 ·rw [e2] at e4; rw [<- e4] at hj; have := inj hi hj; omega
 ·rw [e2] at hy'; have := inj hy' hi; omega
 ·rw [e2] at e4; rw [<- e4] at hi; have := inj hi hj; omega
 ·omega
 ·rw [e2] at hy'; have := inj hy' hj; omega
 ·rw [e4] at hx'; have := inj hx' hi; omega
 ·rw [e4] at hx'; have := inj hx' hj; omega
 ·have := inj hx' hy'; omega
theorem allB_true (n : Nat) : allB (jBk n (D.bl true)) = some true := by
 have := qF2 (fun _ : Nat => true) (jAg n)
 rw [List.map_const', jD1] at this
 rw [this]
 congr 1
 exact jCh.mpr fun _ _ => rfl
def Kn (S : Sto) : D -> Prop
 | .ref a => (∃ xs, S[a]? = some (.lst xs)) \/ ∃ kvs, S[a]? = some (.dct kvs)
 | .exc _ => False
 | .scr _ => False
 | _ => True
theorem Kn.mono {S S' : Sto} {d : D} (h : Kn S d) (l : SLe S S') : Kn S' d := by
 cases d with
 | ref a =>
  have : ∀ o, S[a]? = some o -> S'[a]? = some o := fun o e => by
   rw [l.get (jAr.mp e).1]; exact e
  rcases h with ⟨xs, e⟩ | ⟨kvs, e⟩
  ·exact .inl ⟨xs, this _ e⟩
  ·exact .inr ⟨kvs, this _ e⟩
 | _ => exact h
def partsD : D -> List D
 | .tup xs => xs
 | _ => []
def Kn2 (S : Sto) (d : D) : Prop := Kn S d /\ ∀ x ∈ partsD d, Kn S x
theorem Kn2.mono {S S' : Sto} {d : D} (h : Kn2 S d) (l : SLe S S') : Kn2 S' d := ⟨h.1.mono l, fun x hx => (h.2 x hx).mono l⟩
def Gd (S : Sto) (d : D) : Prop := (Kn S d /\ ∀ x ∈ partsD d, Kn2 S x) /\ flat 8 d = true
theorem Gd.mono {S S' : Sto} {d : D} (h : Gd S d) (l : SLe S S') : Gd S' d := ⟨⟨h.1.1.mono l, fun x hx => (h.1.2 x hx).mono l⟩, h.2⟩
theorem Gd.flats {S : Sto} : ∀ {xs : List D}, (∀ x ∈ xs, Gd S x) -> flats 8 xs = true
 | [], _ => rfl
 | x :: xs, h => by
  show (flat 8 x && Np.flats 8 xs) = true
  rw [(h x (by simp)).2, Gd.flats fun y hy => h y (by simp [hy])]
  rfl
theorem low_eq {a b : Int} (hb : 0 < b) (S : Sto) : F.k21_low [.int a, .int b] S = ok (ratD (jCp a b)) S := by
 refine W_eq ?_
 have hn : ¬ b < 0 := by omega
 obtain ⟨c0, c1, c2⟩ := qCv (a := a) (b := b) (by omega) (((jC8 b a : Nat) : Int)) (by rw [if_neg hn])
 rw [Int.gcd_comm] at c0 c1 c2
 (unfold F.k21_low; refine Np.W_fnF rfl ?_; unfold Den.k21_low; simp_all [])
 refine W_whileS (fun δ S' => S' = S /\ ∃ x y, δ = [some (.int a), some (.int b), some (.int x), some (.int y)] /\ 0 <= x /\ 0 <= y /\ jC8 x y = jC8 a b) (fun δ _ => match δ with | [_, _, _, some (.int y)] => y.natAbs | _ => 0) ⟨rfl, _, b, rfl, qCp a, by omega, gcd_abs1 a b⟩ ?_
 rintro δ S' ⟨rfl, x, y, rfl, hx, hy, hg⟩
 simp_all []
 split
 ·rename_i h0
  obtain ⟨h1, h2, h3⟩ := gcd_step (a := x) (b := y) h0 hx
  simp_all [qAc (show y ≠ 0 by omega)]
  simp only [loopQ]
  refine ⟨⟨trivial, y, x.fmod y, rfl, hy, h1, by rw [h3, hg]⟩, by omega⟩
 ·rename_i h0
  have hy0 : y = 0 := by omega
  subst hy0
  have hxg : x = ((jC8 a b : Nat) : Int) := by rw [<- hg]; simp; omega
  subst hxg
  simp_all [qAf c0]
  simp only [c1, c2, ratD, and_self]
theorem tupG2 (a b : DG) (x y : D) (δ : DS) (S : Sto) : tupG [a, b] (.tup [x, y]) δ S = tupGs [a, b] [x, y] δ S := rfl
theorem qCa {p q : Rat} (hp : sm p) (hq : sm q) (S : Sto) : F.k21_plus [ratD p, ratD q] S = ok (ratD (p + q)) S := by
 refine W_eq ?_
 (unfold F.k21_plus; refine Np.W_fnF rfl ?_; unfold Den.k21_plus; simp_all [])
 simp_all [qAi (hp.nd hq), qAi (hq.nd hp), qAi (hp.dd hq), low_eq (show (0 : Int) < p.den * q.den from jD2 (qAq p) (qAq q)), <- qCo]
theorem qBu {p q : Rat} (hp : sm p) (hq : sm q) (S : Sto) : F.k21_times [ratD p, ratD q] S = ok (ratD (p * q)) S := by
 refine W_eq ?_
 (unfold F.k21_times; refine Np.W_fnF rfl ?_; unfold Den.k21_times; simp_all [])
 simp_all [qAi (hp.nn hq), qAi (hp.dd hq), low_eq (show (0 : Int) < p.den * q.den from jD2 (qAq p) (qAq q)), <- qC8]
theorem low_rat (q : Rat) (S : Sto) : F.k21_low [.int q.num, .int q.den] S = ok (ratD q) S := by
 rw [low_eq (qAq q), jCq]
theorem FT.mono {n n' : Nat} {S : Sto} {c : Nat} {cs : List Nat} {U : List (List Rat)} (h : FT n S c cs U) (k : n' <= n) : FT n' S c cs U := ⟨h.tab, fun b hb => jAj k (h.lo b hb), h.inc, h.ne, jAj k h.nc⟩
theorem FT.swap {n : Nat} {S S' : Sto} {c i j bi bj : Nat} {cs : List Nat} {U : List (List Rat)} {ri rj : List Rat} (h : FT n S c cs U) (hbi : cs[i]? = some bi) (hbj : cs[j]? = some bj) (hri : U[i]? = some ri) (hrj : U[j]? = some rj) (k1 : ∀ a, a ≠ c -> zH S' a = zH S a) (k2 : zH S' c = some (((cs.map D.ref).set i (.ref bj)).set j (.ref bi))) :
  FT n S' c ((cs.set i bj).set j bi) ((U.set i rj).set j ri) := by
 rw [qD1, qD1] at k2
 have key : ∀ x u, RowA S x u -> x ∈ cs -> RowA S' x u := fun x u hx hm => by
  show zH S' x = _
  rw [k1 x (h.ne x hm)]
  exact hx
 have row1 := h.tab.2.2 i bi ri hbi hri
 have row2 := h.tab.2.2 j bj rj hbj hrj
 refine ⟨⟨k2, by simp [h.tab.2.1], fun p x u h1 h2 => ?_⟩, fun x hx => ?_, nodup_swap h.inc hbi hbj, fun x hx => ?_, h.nc⟩
 ·rcases qDj hbi hbj h1 with ⟨e0, e5⟩ | ⟨p1, e0, e5⟩ | ⟨p1, p2, h1⟩ <;> rcases qDj hri hrj h2 with ⟨e1, e2⟩ | ⟨q1, e1, e2⟩ | ⟨q1, q2, h2⟩
  ·rw [e5, e2]; exact key _ _ row1 (zK hbi)
  ·exact absurd e0 q1
  ·exact absurd e0 q1
  ·exact absurd e1 p1
  ·rw [e5, e2]; exact key _ _ row2 (zK hbj)
  ·exact absurd e0 q2
  ·exact absurd e1 p1
  ·exact absurd e1 p2
  ·exact key _ _ (h.tab.2.2 p x u h1 h2) (zK h1)
 ·rcases jD3 hx with z | z
  ·rcases jD3 z with z | z
   ·exact h.lo x z
   ·rw [z]; exact h.lo _ (zK hbj)
  ·rw [z]; exact h.lo _ (zK hbi)
 ·rcases jD3 hx with z | z
  ·rcases jD3 z with z | z
   ·exact h.ne x z
   ·rw [z]; exact h.ne _ (zK hbj)
  ·rw [z]; exact h.ne _ (zK hbi)
def Deed.t : Deed -> T
 | .swap i j => .tup [.str "swap", .int (i : Int), .int (j : Int)]
 | .scale i q => .tup [.str "scale", .int (i : Int), ratT q]
 | .add i j q => .tup [.str "add", .int (i : Int), .int (j : Int), ratT q]
theorem Deed.le.mono {m n : Nat} {d : Deed} (h : d.le m) (k : m <= n) : d.le n := by
 cases d with
 | swap i j => trivial
 | scale i q => exact Le.mono (r := q) h k
 | add i j q => exact Le.mono (r := q) h k
theorem clearD_ref {S : Sto} {a : Nat} {xs : List D} (h : zH S a = some xs) : clearD (.ref a) S = ok .non (S.set a (.lst [])) := by
 show (match zH S a with | some _ => _ | none => none) = _
 rw [h]
def Sg : Nat -> (Nat -> Rat) -> Rat
 | 0, _ => 0
 | n + 1, f => Sg n f + f n
theorem zM {n : Nat} {f g : Nat -> Rat} (h : ∀ i, i < n -> f i = g i) : Sg n f = Sg n g := by
 induction n with
 | zero => rfl
 | succ n ih => simp only [Sg]; rw [ih fun i hi => h i (by omega), h n (by omega)]
theorem Sg_add (n : Nat) (f g : Nat -> Rat) : Sg n (fun i => f i + g i) = Sg n f + Sg n g := by
 induction n with
 | zero => simp [Sg, jDt]
 | succ n ih => simp only [Sg, ih]; grind
theorem qAy (n : Nat) (f : Nat -> Rat) (q : Rat) : Sg n (fun i => f i * q) = Sg n f * q := by
 induction n with
 | zero => simp [Sg, jD4]
 | succ n ih => simp only [Sg, ih]; grind
theorem qAv (n : Nat) : Sg n (fun _ => 0) = 0 := by
 induction n with
 | zero => rfl
 | succ n ih => simp only [Sg, ih, jDt]
theorem Sg_swap (n m : Nat) (f : Nat -> Nat -> Rat) : Sg n (fun i => Sg m fun j => f i j) = Sg m fun j => Sg n fun i => f i j := by
 induction n with
 | zero => simp only [Sg]; exact (qAv m).symm
 | succ n ih => simp only [Sg, ih, Sg_add]
theorem qF7 {n k : Nat} (hk : k < n) (f : Nat -> Rat) : Sg n (fun i => if i = k then f i else 0) = f k := by
 induction n with
 | zero => omega
 | succ n ih =>
  simp only [Sg]
  by_cases h : n = k
  ·subst h
   rw [if_pos rfl, zM (g := fun _ => 0) fun i hi => if_neg (by omega), qAv, Rat.zero_add]
  ·rw [if_neg h, ih (by omega), jDt]
theorem sumR_Sg : ∀ (xs : List Rat), sumR xs = Sg xs.length fun i => xs.getD i 0 := by
 intro xs
 have h : ∀ n, n <= xs.length -> sumR (xs.take n) = Sg n fun i => xs.getD i 0 := by
  intro n
  induction n with
  | zero => intro _; rfl
  | succ n ih =>
   intro hn
   obtain ⟨x, hx⟩ := zQ (show n < xs.length by omega)
   rw [qDs hx, ih (by omega)]
   simp only [Sg]
   congr 1
   simp [hx]
 have := h xs.length (jAx _)
 rwa [jDi] at this
def ent (T : List (List Rat)) (i k : Nat) : Rat := (T.getD i []).getD k 0
theorem qA2 {T : List (List Rat)} {i k : Nat} {r : List Rat} (h : T[i]? = some r) : ent T i k = r.getD k 0 := by simp [ent, h]
theorem qFq {α : Type} {xs : List α} {i : Nat} {x d : α} (h : xs[i]? = some x) : xs.getD i d = x := by simp [h]
theorem mix_ent {T : List (List Rat)} {ss : List Rat} {n k : Nat} (hw : Wide T n) (hk : k < n) (hl : T.length = ss.length) : (mixR T ss n).getD k 0 = Sg T.length fun j => ent T j k * ss.getD j 0 := by
 rw [qFq (mixR_get hw hk hl), sumR_Sg]
 rw [jDf, <- hl, Nat.min_self]
 refine zM fun j hj => ?_
 obtain ⟨r, hr⟩ := zQ hj
 obtain ⟨s, hs⟩ := zQ (show j < ss.length by omega)
 rw [qA2 hr, qFq (xs := ss) hs]
 have : (jDd (fun r s => r.getD k 0 * s) T ss)[j]? = some (r.getD k 0 * s) := by rw [jDe, hr, hs]
 exact qFq this
theorem qA3 (T : List (List Rat)) (n : Nat) : (qAo T n).length = n := by simp [qAo]
theorem qCg (T : List (List Rat)) (n : Nat) : Wide (qAo T n) T.length := fun r hr => by
 obtain ⟨p, _, rfl⟩ := jB9.mp hr
 simp [colR]
theorem turn_ent {T : List (List Rat)} {n i k : Nat} (hi : i < n) (hk : k < T.length) : ent (qAo T n) i k = ent T k i := by
 have h : (qAo T n)[i]? = some (colR T i) := by simp [qAo, hi]
 rw [qA2 h]
 obtain ⟨r, hr⟩ := zQ hk
 have : (colR T i)[k]? = some (r.getD i 0) := by simp [colR, hr]
 rw [qFq this, qA2 hr]
theorem qCw (T : List (List Rat)) (i c : Nat) : ent T i c = (zR T i).getD c 0 := rfl
theorem qCh {T : List (List Rat)} {i : Nat} (h : T.length <= i) : zR T i = [] := by
 simp [zR, jCo h]
theorem ent_none {T : List (List Rat)} {i : Nat} (h : T.length <= i) (j : Nat) : ent T i j = 0 := by
 rw [qCw, qCh h]
 rfl
theorem qE6 {T : List (List Rat)} {n i : Nat} (hw : Wide T n) (h : i < T.length) : (zR T i).length = n := by
 obtain ⟨r, hr⟩ := zQ h
 rw [yD hr]
 exact hw r (zK hr)
structure RedI (T : List (List Rat)) (fs : List Nat) (c : Nat) : Prop where
 inc : fs.Pairwise (· < ·)
 lt : ∀ x ∈ fs, x < c
 le : fs.length <= T.length
 one : ∀ (k x : Nat), fs[k]? = some x -> ent T k x = 1
 bef : ∀ (k x j : Nat), fs[k]? = some x -> j < x -> ent T k j = 0
 alone : ∀ (k x i : Nat), fs[k]? = some x -> i ≠ k -> ent T i x = 0
 low : ∀ i j : Nat, fs.length <= i -> j < c -> ent T i j = 0
theorem rows_leT {N : Nat} {T : List (List Rat)} (h : LeT N T) : ∀ k, ∀ x ∈ zR T k, Le N x := fun k x hx => by
 by_cases hk : k < T.length
 ·obtain ⟨r, hr⟩ := zQ hk
  rw [yD hr] at hx
  exact h r (zK hr) x hx
 ·rw [qCh (by omega)] at hx
  cases hx
theorem le_getD {N : Nat} {xs : List Rat} (h : ∀ x ∈ xs, Le N x) (hN : 0 < N) (j : Nat) : Le N (xs.getD j 0) := by
 rw [jD5]
 cases e : xs[j]? with
 | none => exact Le.zero hN
 | some x => exact h x (jBt e)
def gr (b : Nat) : Nat -> Nat
 | 0 => b
 | n + 1 => 4 * gr b n + 1
theorem rng2D_nat {p n : Nat} (hp : p < 1000000) (hn : n < 1000000) (S : Sto) : rng2D [.int (p : Int), .int (n : Int)] S = ok (.fix ((jDg p (n - p)).map fun i => D.int (i : Nat))) S := by
 have hlim := lim_eq
 simp only [rng2D]
 rw [if_pos (by omega), <- qEb]
 rw [show ((n : Int) - (p : Int)).toNat = n - p by omega]
theorem qEe {S : Sto} {a : Nat} {xs : List D} (h : zH S a = some xs) : enumD [.ref a] S = ok (.enm a) S := by
 show (match zH S a with | some _ => ok (Src.enm a) S | none => none) = _
 rw [h]
theorem qFi {S : Sto} {a : Nat} {xs : List D} (h : zH S a = some xs) : (Src.enm a).len S = xs.length := by
 show (match zH S a with | some xs => xs.length | none => 0) = _
 rw [h]
theorem sm0 : sm (0 : Rat) := (show Le 70 (0 : Rat) from ⟨by decide, by decide⟩).sm (by decide)
theorem sm1 : sm (1 : Rat) := (show Le 70 (1 : Rat) from ⟨by decide, by decide⟩).sm (by decide)
def tb : Nat -> Nat
 | 0 => 27
 | k + 1 => max (tb k) (1 + (tb k + 27 + 1) * k)
abbrev natD (i : Nat) : D := .int (i : Int)
theorem qE9 (n : Nat) {S : Sto} {a : Nat} {xs : List Nat} (h : zH S a = some (xs.map natD)) : rd (n + 2) S (.ref a) = some (.lst (xs.map fun (i : Nat) => Np.T.int (i : Int))) := by
 show (match zH S a with | some ds => (rdl (rd (n + 1) S) ds).map Np.T.lst | none => none) = _
 rw [h]
 show (rdl (rd (n + 1) S) (xs.map natD)).map Np.T.lst = _
 rw [qE8 natD (fun (i : Nat) => Np.T.int (i : Int)) (fun i => qDf (n + 1) S i)]
 rfl
theorem qEc : ∀ xs ys : List Nat, eqTs (xs.map fun (i : Nat) => Np.T.int (i : Int)) (ys.map fun (i : Nat) => Np.T.int (i : Int)) = decide (xs = ys)
 | [], [] => by simp [eqTs]
 | [], _ :: _ => by simp [eqTs]
 | _ :: _, [] => by simp [eqTs]
 | x :: xs, y :: ys => by
  simp only [jBb, eqTs, eqT, qEc xs ys, List.cons.injEq]
  have e : ((x : Int) = (y : Int)) = (x = y) := by simp; omega
  by_cases h1 : x = y <;> by_cases h2 : xs = ys <;> simp [h1, h2]
  omega
theorem eqD_nats {S : Sto} {a b : Nat} {xs ys : List Nat} (ha : zH S a = some (xs.map natD)) (hb : zH S b = some (ys.map natD)) : eqD (.ref a) (.ref b) S = ok (.bl (decide (xs = ys))) S := by
 unfold eqD; rw [qE9 7 ha, qE9 7 hb]
 show ok (D.bl (eqTs _ _)) S = _
 rw [qEc]
theorem neD_nats {S : Sto} {a b : Nat} {xs ys : List Nat} (ha : zH S a = some (xs.map natD)) (hb : zH S b = some (ys.map natD)) : neD (.ref a) (.ref b) S = ok (.bl (!decide (xs = ys))) S := by
 unfold neD; rw [qE9 7 ha, qE9 7 hb]
 show ok (D.bl (!eqTs _ _)) S = _
 rw [qEc]
def dotW (xs ys ws : List Rat) : Rat := sumR (jDd (· * ·) (jDd (· * ·) xs ys) ws)
theorem dotW_w {S : Sto} {a b c : Nat} {xs ys ws : List Rat} {m n k : Nat} (ha : RowA S a xs) (hb : RowA S b ys) (hc : RowA S c ws) (hx : ∀ x ∈ xs, Le m x) (hy : ∀ y ∈ ys, Le n y) (hw : ∀ y ∈ ws, Le k y) (hl : (m + n + k + 1) * (xs.length + 1) <= 20000000) (hll : xs.length <= 1000000) :
  W (F.dot [.ref a, .ref b, .ref c] S) fun d S' => SLe S S' /\ d = ratD (dotW xs ys ws) := dotw_w ha hb hc hx hy hw hll hl
theorem sq_nonneg (x : Rat) : 0 <= x * x := by
 rcases Rat.le_total (a := 0) (b := x) with h | h
 ·exact jD6 h h
 ·have := jD6 (a := -x) (b := -x) (by grind) (by grind)
  grind
theorem le_dotW {m n k : Nat} {xs ys ws : List Rat} (hx : ∀ x ∈ xs, Le m x) (hy : ∀ y ∈ ys, Le n y) (hw : ∀ y ∈ ws, Le k y) : Le (1 + (m + n + k + 1) * xs.length) (dotW xs ys ws) := by
 have hz := qEx (f := (· * ·)) (k := m + n) (fun a b h1 h2 => h1.mul h2) hx hy
 have hz2 := qEx (f := (· * ·)) (k := m + n + k) (fun a b h1 h2 => h1.mul h2) hz hw
 refine (Le.sumR hz2).mono ?_
 have : (m + n + k + 1) * (jDd (· * ·) (jDd (· * ·) xs ys) ws).length <= (m + n + k + 1) * xs.length := jDq _ (by simp; omega)
 omega
theorem W_compZ {it : DI} {g : DG} {e : DE} {base : DS} {k : Nat} {S : Sto} {Q : D -> Sto -> Prop} (vals : D -> List (Option D)) (xs zs : List D) (P : D -> Prop) (hg : Tg g k vals base P) (hP : ∀ x ∈ xs, P x) (hz : zs.length = xs.length)
  (hit : W (it base S) fun src S' => xs.length <= src.len S' /\ src.len S' <= 1000000 /\ SLe S S' /\ ∀ i S'', SLe S' S'' -> src.get S'' i = some xs[i]?)
  (step : ∀ (i : Nat) x z S', xs[i]? = some x -> zs[i]? = some z -> SLe S S' -> W (e (base ++ vals x) S') fun d S'' => d = z /\ SLe S' S'')
  (fin : ∀ S' b, SLe S S' -> S.length <= b -> zH S' b = some zs -> Q (.ref b) S') : W (qAj it k g e base S) Q := by
 obtain ⟨src, S0, e0, h1, h2, h3, h4⟩ := hit.out
 refine qDd vals xs (fun i acc S' => SLe S0 S' /\ acc = zs.take i) P hP hg ?_ ?_ ?_
 ·rw [e0, W_ok]
  exact ⟨h1, h2, ⟨SLe.rfl, rfl⟩, fun i acc S'' h => h4 i S'' h.1⟩
 ·rintro i x acc S' hx ha ⟨hS, he⟩
  obtain ⟨z, hzi⟩ := zQ (xs := zs) (i := i) (by rw [hz]; exact (jAr.mp hx).1)
  refine (step i x z S' hx hzi (h3.trans hS)).mono ?_
  rintro d S'' ⟨rfl, l⟩
  exact ⟨hS.trans l, by rw [he, jDh, hzi]; rfl⟩
 ·rintro acc S' ⟨hS, he⟩ _
  rw [<- hz, jDi] at he
  subst he
  exact fin _ _ ((h3.trans hS).push _) (h3.trans hS).len (qAd S' _)
theorem square_w {S : Sto} {a c n k : Nat} {xs ws : List Rat} (ha : RowA S a xs) (hc : RowA S c ws) (hx : ∀ x ∈ xs, Le n x) (hw : ∀ y ∈ ws, Le k y) (hl : (n + n + k + 1) * (xs.length + 1) <= 20000000) (hll : xs.length <= 1000000) : W (F.square [.ref a, .ref c] S) fun d S' => SLe S S' /\ d = ratD (dotW xs xs ws) := by
 (unfold F.square; refine Np.W_fnF rfl ?_; unfold Den.square; simp_all [])
 exact dotW_w ha ha hc hx hx hw hl hll
theorem qE2 (n : Nat) (f g : Nat -> Rat) : Sg n (fun i => f i - g i) = Sg n f - Sg n g := by
 induction n with
 | zero => simp [Sg]; grind
 | succ n ih => simp only [Sg, ih]; grind
theorem Sg_split {k n : Nat} (h : k <= n) {f : Nat -> Rat} (hz : ∀ i, k <= i -> f i = 0) : Sg n f = Sg k f := by
 induction n with
 | zero => rw [show k = 0 by omega]
 | succ n ih =>
  by_cases e : k = n + 1
  ·rw [e]
  ·rw [Sg, ih (by omega), hz n (by omega)]
   grind
theorem Sg_one {n k : Nat} (hk : k < n) {f : Nat -> Rat} (hz : ∀ i, i < n -> i ≠ k -> f i = 0) : Sg n f = f k := by
 rw [zM (g := fun i => if i = k then f i else 0), qF7 hk]
 intro i hi
 by_cases e : i = k
 ·rw [if_pos e]
 ·rw [if_neg e, hz i hi e]
def dt (n : Nat) (w f g : Nat -> Rat) : Rat := Sg n fun c => f c * g c * w c
theorem dt_comm (n : Nat) (w f g : Nat -> Rat) : dt n w f g = dt n w g f := zM fun i _ => by grind
theorem qA8 {n : Nat} {w f g f' g' : Nat -> Rat} (h1 : ∀ c, c < n -> f c = f' c) (h2 : ∀ c, c < n -> g c = g' c) : dt n w f g = dt n w f' g' := zM fun i hi => by rw [h1 i hi, h2 i hi]
theorem dt_add (n : Nat) (w f f' g : Nat -> Rat) : dt n w (fun c => f c + f' c) g = dt n w f g + dt n w f' g := by
 unfold dt
 rw [<- Sg_add]
 exact zM fun i _ => by grind
theorem dt_sub (n : Nat) (w f f' g : Nat -> Rat) : dt n w (fun c => f c - f' c) g = dt n w f g - dt n w f' g := by
 unfold dt
 rw [<- qE2]
 exact zM fun i _ => by grind
theorem dt_mix (n m : Nat) (w : Nat -> Rat) (f : Nat -> Nat -> Rat) (a : Nat -> Rat) (g : Nat -> Rat) : dt n w (fun c => Sg m fun j => f j c * a j) g = Sg m fun j => dt n w (f j) g * a j := by
 unfold dt
 have e : Sg n (fun c => Sg m (fun j => f j c * a j) * g c * w c) = Sg n fun c => Sg m fun j => f j c * g c * w c * a j := by
  refine zM fun c _ => ?_
  rw [<- qAy, <- qAy]
  exact zM fun j _ => by grind
 rw [e, Sg_swap]
 exact zM fun j _ => by rw [<- qAy]
theorem Sg_nonneg {n : Nat} {f : Nat -> Rat} (h : ∀ i, i < n -> 0 <= f i) : 0 <= Sg n f := by
 induction n with
 | zero => simp [Sg]
 | succ n ih =>
  have h1 := ih fun i hi => h i (by omega)
  have h2 := h n (by omega)
  simp only [Sg]
  grind
theorem Sg_pos {n k : Nat} {f : Nat -> Rat} (h : ∀ i, i < n -> 0 <= f i) (hk : k < n) (hp : 0 < f k) : 0 < Sg n f := by
 induction n with
 | zero => omega
 | succ n ih =>
  simp only [Sg]
  have h2 := h n (by omega)
  by_cases e : k = n
  ·subst e
   have := Sg_nonneg (n := k) fun i hi => h i (by omega)
   grind
  ·have := ih (fun i hi => h i (by omega)) (by omega)
   grind
theorem mul_self_pos {x : Rat} (h : x ≠ 0) : 0 < x * x := by
 have h1 := sq_nonneg x
 have h2 : x * x ≠ 0 := fun z => by
  rcases jD7.mp z with z | z <;> exact h z
 grind
theorem dt_pos {n : Nat} {w f : Nat -> Rat} (hw : ∀ c, c < n -> 0 < w c) {c : Nat} (hc : c < n) (hf : f c ≠ 0) : 0 < dt n w f f := by
 refine Sg_pos (k := c) (fun i hi => jD6 (sq_nonneg _) (by have := hw i hi; grind)) hc ?_
 exact Rat.mul_pos (mul_self_pos hf) (hw c hc)
structure GS (n : Nat) (w : Nat -> Rat) (R L H : Nat -> Nat -> Rat) (k : Nat) : Prop where
 mix : ∀ i, i < k -> ∀ c, R i c = L i c + Sg i fun j => R j c * H i j
 low : ∀ i j, i < k -> i <= j -> H i j = 0
 up : ∀ i j, i < k -> j < k -> i ≠ j -> dt n w (L i) (L j) = 0
 free : ∀ i j, i < k -> j < i -> (∀ c, c < n -> L j c = 0) -> H i j = 0
def AmtIs (n : Nat) (w r l : Nat -> Rat) (a : Rat) : Prop := ((∀ c, c < n -> l c = 0) /\ a = 0) \/ (dt n w l l ≠ 0 /\ a = dt n w r l / dt n w l l)
theorem AmtIs.eq {n : Nat} {w r l : Nat -> Rat} {a : Rat} (h : AmtIs n w r l a) : dt n w r l = dt n w l l * a := by
 rcases h with ⟨h1, h2⟩ | ⟨h1, h2⟩
 ·rw [h2, jD8]
  unfold dt
  rw [zM (g := fun _ => 0) fun i hi => by rw [h1 i hi]; grind, qAv]
 ·rw [h2, jC0, jD9 (dt n w r l), <- jEa, jEb _ h1, Rat.one_mul]
theorem GS.step {n k : Nat} {w : Nat -> Rat} {R L H : Nat -> Nat -> Rat} {a : Nat -> Rat} (g : GS n w R L H k) (ha : ∀ j, j < k -> AmtIs n w (R k) (L j) (a j))
  (hL : ∀ c, L k c = R k c - Sg k fun j => L j c * a j) (hH : ∀ j', H k j' = Sg k fun j => ((if j' = j then 1 else 0) - H j j') * a j) : GS n w R L H (k + 1) := by
 have hz : ∀ j', k <= j' -> H k j' = 0 := fun j' hj => by
  rw [hH, zM (g := fun _ => 0) fun j hj' => ?_, qAv]
  rw [if_neg (by omega), g.low j j' hj' (by omega)]
  grind
 refine ⟨fun i hi c => ?_, fun i j hi hj => ?_, fun i j hi hj hij => ?_, fun i j hi hj hf => ?_⟩
 ·by_cases e : i = k
  ·subst e
   rw [hL]
   have : (Sg i fun j' => R j' c * H i j') = Sg i fun j => L j c * a j := by
    rw [zM (g := fun j' => Sg i fun j => R j' c * ((if j' = j then 1 else 0) - H j j') * a j) fun j' _ => ?_]
    ·rw [Sg_swap]
     refine zM fun j hj => ?_
     rw [qAy]
     congr 1
     rw [zM (g := fun j' => (if j' = j then R j' c else 0) - R j' c * H j j') fun j' _ => by split <;> grind]
     rw [qE2, qF7 hj, Sg_split (k := j) (by omega) fun i' hi' => by rw [g.low j i' hj hi', jD8]]
     rw [g.mix j hj c]
     grind
    ·rw [hH, jD9, <- qAy]
     exact zM fun j _ => by grind
   rw [this]
   grind
  ·exact g.mix i (by omega) c
 ·by_cases e : i = k
  ·subst e; exact hz j hj
  ·exact g.low i j (by omega) hj
 ·have key : ∀ j, j < k -> dt n w (L k) (L j) = 0 := fun j hj => by
   have : dt n w (L k) (L j) = dt n w (fun c => R k c - Sg k fun j => L j c * a j) (L j) := qA8 (fun c _ => hL c) fun _ _ => rfl
   rw [this, dt_sub, dt_mix, Sg_one (k := j) hj fun i hi hij => by rw [g.up i j hi hj hij, jD4], (ha j hj).eq]
   grind
  by_cases e : i = k
  ·subst e; exact key j (by omega)
  ·by_cases e2 : j = k
   ·subst e2; rw [dt_comm]; exact key i (by omega)
   ·exact g.up i j (by omega) (by omega) hij
 ·by_cases e : i = k
  ·subst e
   rw [hH, zM (g := fun _ => 0) fun j' hj' => ?_, qAv]
   by_cases e2 : j = j'
   ·subst e2
    have : a j = 0 := by
     rcases ha j hj with ⟨_, h2⟩ | ⟨h1, _⟩
     ·exact h2
     ·exfalso
      apply h1
      unfold dt
      rw [zM (g := fun _ => 0) fun c hc => by rw [hf c hc]; grind, qAv]
    rw [this, jD8]
   ·rw [if_neg e2]
    have : H j' j = 0 := by
     by_cases h3 : j < j'
     ·exact g.free j' j hj' h3 hf
     ·exact g.low j' j hj' (by omega)
    rw [this]
    grind
  ·exact g.free i j (by omega) hj hf
theorem GS.cut {n k m : Nat} {w : Nat -> Rat} {R L H : Nat -> Nat -> Rat} (g : GS n w R L H k) (h : m <= k) : GS n w R L H m :=
 ⟨fun i hi => g.mix i (by omega), fun i j hi => g.low i j (by omega), fun i j hi hj => g.up i j (by omega) (by omega), fun i j hi => g.free i j (by omega)⟩
theorem GS.rows {n k : Nat} {w : Nat -> Rat} {R L H : Nat -> Nat -> Rat} (g : GS n w R L H k) {f : Nat -> Rat} (m : Nat) (hm : m <= k) (h : ∀ j, j < m -> dt n w (L j) f = 0) : ∀ j, j < m -> dt n w (R j) f = 0 := by
 intro j
 induction j using jEc with
 | _ j ih =>
  intro hj
  have : dt n w (R j) f = dt n w (fun c => L j c + Sg j fun i => R i c * H j i) f := qA8 (fun c _ => g.mix j (by omega) c) fun _ _ => rfl
  rw [this, dt_add, dt_mix, h j hj, zM (g := fun _ => 0) fun i hi => by rw [ih i hi (by omega), jD4], qAv]
  grind
theorem GS.upright {n k : Nat} {w : Nat -> Rat} {R L H : Nat -> Nat -> Rat} (g : GS n w R L H k) {i j : Nat} (hi : i < k) (hj : j < i) : dt n w (R j) (L i) = 0 :=
 g.rows i (by omega) (fun j' hj' => g.up j' i (by omega) hi (by omega)) j hj
def skip (p k : Nat) : Nat := if k < p then k else k + 1
def sgn (k : Nat) : Rat := if k % 2 = 0 then 1 else -1
def det : Nat -> (Nat -> Nat -> Rat) -> Rat
 | 0, _ => 1
 | n + 1, A => Sg (n + 1) fun j => sgn j * A 0 j * det n (fun i c => A (i + 1) (skip j c))
theorem skip_lt {p k n : Nat} (h : k < n) : skip p k < n + 1 := by unfold skip; split <;> omega
theorem yF : ∀ {n : Nat} {A B : Nat -> Nat -> Rat}, (∀ i c, i < n -> c < n -> A i c = B i c) -> det n A = det n B
 | 0, _, _, _ => rfl
 | n + 1, A, B, h => by
  unfold det
  refine zM fun j hj => ?_
  rw [h 0 j (by omega) hj, yF fun i c hi hc => h (i + 1) (skip j c) (by omega) (skip_lt hc)]
theorem qEf : ∀ {n r : Nat} {A B C : Nat -> Nat -> Rat} {p q : Rat}, r < n -> (∀ i c, i ≠ r -> A i c = B i c /\ A i c = C i c) -> (∀ c, A r c = B r c * p + C r c * q) -> det n A = det n B * p + det n C * q
 | 0, _, _, _, _, _, _, h, _, _ => by omega
 | n + 1, 0, A, B, C, p, q, _, off, on => by
  unfold det
  rw [<- qAy, <- qAy, <- Sg_add]
  refine zM fun j hj => ?_
  have e1 : (fun i c => B (i + 1) (skip j c)) = fun i c => A (i + 1) (skip j c) := by
   funext i c; exact (off (i + 1) _ (by omega)).1.symm
  have e2 : (fun i c => C (i + 1) (skip j c)) = fun i c => A (i + 1) (skip j c) := by
   funext i c; exact (off (i + 1) _ (by omega)).2.symm
  rw [e1, e2, on]
  grind
 | n + 1, r + 1, A, B, C, p, q, hr, off, on => by
  unfold det
  rw [<- qAy, <- qAy, <- Sg_add]
  refine zM fun j hj => ?_
  rw [qEf (n := n) (r := r) (B := fun i c => B (i + 1) (skip j c)) (C := fun i c => C (i + 1) (skip j c)) (p := p) (q := q) (by omega) (fun i c hi => off (i + 1) _ (by omega)) (fun c => on _)]
  rw [<- (off 0 j (by omega)).1, <- (off 0 j (by omega)).2]
  grind
theorem Sg_skip {g : Nat -> Rat} {p : Nat} : ∀ {n : Nat}, p <= n -> (Sg n fun k => g (skip p k)) = Sg (n + 1) fun q => if q = p then 0 else g q
 | 0, h => by
  have : p = 0 := by omega
  subst this
  simp [Sg]
  grind
 | n + 1, h => by
  by_cases e : p = n + 1
  ·subst e
   conv => rhs; rw [Sg]
   rw [if_pos rfl, jDt]
   refine zM fun k hk => ?_
   rw [if_neg (by omega)]
   unfold skip
   rw [if_pos hk]
  ·rw [Sg, Sg_skip (by omega)]
   conv => rhs; rw [Sg]
   rw [if_neg (show ¬ n + 1 = p by omega)]
   unfold skip
   rw [if_neg (by omega)]
def unsk (p q : Nat) : Nat := if q < p then q else q - 1
theorem unsk_skip (p k : Nat) : unsk p (skip p k) = k := by
 unfold unsk skip
 by_cases h : k < p
 ·rw [if_pos h, if_pos h]
 ·rw [if_neg h, if_neg (by omega)]; omega
theorem skip_skip {p q : Nat} (h : q < p) (c : Nat) : skip p (skip q c) = skip q (skip (p - 1) c) := by
 unfold skip
 split <;> split <;> split <;> (try split) <;> omega
theorem sgn_pred {q : Nat} (h : 0 < q) : sgn (q - 1) = - sgn q := by
 unfold sgn
 by_cases e : q % 2 = 0
 ·rw [if_pos e, if_neg (by omega)]
 ·rw [if_neg e, if_pos (by omega)]
  grind
theorem Sg_anti {n : Nat} {f : Nat -> Nat -> Rat} (h : ∀ p q, f p q = - f q p) : (Sg n fun p => Sg n fun q => f p q) = 0 := by
 have e : (Sg n fun p => Sg n fun q => f p q) = - (Sg n fun p => Sg n fun q => f p q) := by
  conv => lhs; rw [Sg_swap]
  rw [show (Sg n fun j => Sg n fun i => f i j) = Sg n fun j => (Sg n fun i => f j i) * (-1) by
   refine zM fun j _ => ?_
   rw [<- qAy]
   refine zM fun i _ => ?_
   rw [h i j]
   grind]
  rw [qAy]
  grind
 grind
theorem det_two {m : Nat} {A : Nat -> Nat -> Rat} (h : ∀ c, A 0 c = A 1 c) : det (m + 2) A = 0 := by
 let M : Nat -> Nat -> Rat := fun p q => det m fun i c => A (i + 2) (skip p (skip (unsk p q) c))
 let f : Nat -> Nat -> Rat := fun p q => if q = p then 0 else sgn p * sgn (unsk p q) * A 0 p * A 0 q * M p q
 have e : det (m + 2) A = Sg (m + 2) fun p => Sg (m + 2) fun q => f p q := by
  show (Sg (m + 2) fun p => sgn p * A 0 p * (Sg (m + 1) fun k => sgn k * A 1 (skip p k) * det m fun i c => A (i + 1 + 1) (skip p (skip k c)))) = _
  refine zM fun p hp => ?_
  have e2 := Sg_skip (n := m + 1) (p := p) (g := fun q => sgn p * sgn (unsk p q) * A 0 p * A 0 q * M p q) (by omega)
  show _ = Sg (m + 1 + 1) fun q => if q = p then 0 else sgn p * sgn (unsk p q) * A 0 p * A 0 q * M p q
  rw [<- e2, jD9 (sgn p * A 0 p), <- qAy]
  refine zM fun k hk => ?_
  show _ = sgn p * sgn (unsk p (skip p k)) * A 0 p * A 0 (skip p k) * (det m fun i c => A (i + 2) (skip p (skip (unsk p (skip p k)) c)))
  rw [unsk_skip, <- h (skip p k)]
  grind
 rw [e]
 refine Sg_anti fun p q => ?_
 have key : ∀ p q, q < p -> f p q = - f q p := fun p q hq => by
  show (if q = p then 0 else sgn p * sgn (unsk p q) * A 0 p * A 0 q * M p q) = - (if p = q then 0 else sgn q * sgn (unsk q p) * A 0 q * A 0 p * M q p)
  rw [if_neg (by omega), if_neg (by omega)]
  have u1 : unsk p q = q := by unfold unsk; rw [if_pos hq]
  have u2 : unsk q p = p - 1 := by unfold unsk; rw [if_neg (by omega)]
  have eM : M p q = M q p := by
   show (det m fun i c => A (i + 2) (skip p (skip (unsk p q) c))) = det m fun i c => A (i + 2) (skip q (skip (unsk q p) c))
   rw [u1, u2]
   congr 1
   funext i c
   rw [skip_skip hq]
  rw [u1, u2, eM, sgn_pred (by omega)]
  grind
 rcases Nat.lt_trichotomy p q with h1 | h1 | h1
 ·rw [key q p h1]
  grind
 ·subst h1
  show (if p = p then 0 else _) = - (if p = p then (0 : Rat) else _)
  rw [if_pos rfl]
  grind
 ·exact key p q h1
theorem det_adj : ∀ {n r : Nat} {A : Nat -> Nat -> Rat}, r + 1 < n -> (∀ c, A r c = A (r + 1) c) -> det n A = 0
 | 0, _, _, h, _ => by omega
 | 1, _, _, h, _ => by omega
 | n + 2, 0, A, _, h => det_two h
 | n + 2, r + 1, A, hr, h => by
  unfold det
  rw [zM (g := fun _ => 0) fun j hj => ?_, qAv]
  rw [det_adj (n := n + 1) (r := r) (by omega) fun c => h _, jD8]
def upd (A : Nat -> Nat -> Rat) (r : Nat) (f : Nat -> Rat) : Nat -> Nat -> Rat := fun i c => if i = r then f c else A i c
theorem zX (A : Nat -> Nat -> Rat) (r : Nat) (f : Nat -> Rat) (c : Nat) : upd A r f r c = f c := by unfold upd; rw [if_pos rfl]
theorem zO {A : Nat -> Nat -> Rat} {r i : Nat} {f : Nat -> Rat} (h : i ≠ r) (c : Nat) : upd A r f i c = A i c := by unfold upd; rw [if_neg h]
def swp (A : Nat -> Nat -> Rat) (i j : Nat) : Nat -> Nat -> Rat := fun k c => if k = j then A i c else if k = i then A j c else A k c
theorem qCe {n r : Nat} {A : Nat -> Nat -> Rat} (h : r + 1 < n) : det n (swp A r (r + 1)) = - det n A := by
 -- all by the two rows
 let G : (Nat -> Rat) -> (Nat -> Rat) -> Rat := fun f g => det n (upd (upd A r f) (r + 1) g)
 have lin1 : ∀ f f' g, G (fun c => f c * 1 + f' c * 1) g = G f g * 1 + G f' g * 1 := fun f f' g => by
  refine qEf (r := r) (by omega) (fun i c hi => ?_) fun c => ?_
  ·by_cases e : i = r + 1
   ·subst e; rw [zX, zX, zX]; exact ⟨rfl, rfl⟩
   ·rw [zO e, zO e, zO e, zO hi, zO hi, zO hi]; exact ⟨rfl, rfl⟩
  ·simp [upd]
 have lin2 : ∀ f g g', G f (fun c => g c * 1 + g' c * 1) = G f g * 1 + G f g' * 1 := fun f g g' => by
  refine qEf (r := r + 1) (by omega) (fun i c hi => ?_) fun c => ?_
  ·rw [zO hi, zO hi, zO hi]; exact ⟨rfl, rfl⟩
  ·rw [zX, zX, zX]
 have alt : ∀ f, G f f = 0 := fun f => det_adj (r := r) h fun c => by rw [zO (by omega), zX, zX]
 have h1 : G (A r) (A (r + 1)) = det n A := yF fun i c _ _ => by
  unfold upd
  split
  ·rename_i e; rw [e]
  ·split
   ·rename_i e; rw [e]
   ·rfl
 have h2 : G (A (r + 1)) (A r) = det n (swp A r (r + 1)) := yF fun i c _ _ => by
  unfold upd swp
  split
  ·rfl
  ·split
   ·rfl
   ·rfl
 have h3 := alt (fun c => A r c * 1 + A (r + 1) c * 1)
 rw [lin1, lin2, lin2, alt, alt] at h3
 rw [h1, h2] at h3
 grind
theorem qFu : ∀ (d : Nat) {n i : Nat} {A : Nat -> Nat -> Rat}, i + d + 1 < n -> det n (swp A i (i + d + 1)) = - det n A
 | 0, n, i, A, h => qCe h
 | d + 1, n, i, A, h => by
  have e : swp A i (i + (d + 1) + 1) = swp (swp (swp A i (i + 1)) (i + 1) (i + 1 + d + 1)) i (i + 1) := by
   funext k c
   unfold swp
   have q : i + 1 + d + 1 = i + (d + 1) + 1 := by omega
   rw [q]
   by_cases k1 : k = i + (d + 1) + 1
   ·subst k1
    rw [if_pos rfl, if_neg (by omega), if_neg (by omega), if_pos rfl, if_pos rfl]
   ·rw [if_neg k1]
    by_cases k2 : k = i
    ·subst k2
     rw [if_pos rfl, if_neg (by omega), if_pos rfl, if_neg (by omega), if_pos rfl, if_neg (by omega), if_neg (by omega)]
    ·rw [if_neg k2]
     by_cases k3 : k = i + 1
     ·subst k3
      rw [if_pos rfl, if_neg (by omega), if_neg (by omega), if_neg (by omega), if_pos rfl]
     ·rw [if_neg k3, if_neg k2, if_neg k1, if_neg k3, if_neg k3, if_neg k2]
  rw [e, qCe (by omega), qFu d (by omega), qCe (by omega)]
  grind
theorem swp_comm (A : Nat -> Nat -> Rat) {i j : Nat} (h : i ≠ j) : swp A i j = swp A j i := by
 funext k c
 unfold swp
 by_cases k1 : k = j
 ·subst k1; rw [if_pos rfl, if_neg (fun z => h z.symm), if_pos rfl]
 ·rw [if_neg k1, if_neg k1]
theorem det_swp {n i j : Nat} {A : Nat -> Nat -> Rat} (hi : i < n) (hj : j < n) (h : i ≠ j) : det n (swp A i j) = - det n A := by
 rcases Nat.lt_or_gt_of_ne h with h1 | h1
 ·have := qFu (j - i - 1) (n := n) (i := i) (A := A) (by omega)
  rw [show i + (j - i - 1) + 1 = j by omega] at this
  exact this
 ·rw [swp_comm A h]
  have := qFu (i - j - 1) (n := n) (i := j) (A := A) (by omega)
  rw [show j + (i - j - 1) + 1 = i by omega] at this
  exact this
theorem det_alt {n i j : Nat} {A : Nat -> Nat -> Rat} (hi : i < n) (hj : j < n) (h : i ≠ j) (e : ∀ c, A i c = A j c) : det n A = 0 := by
 have h1 := det_swp (A := A) hi hj h
 have h2 : swp A i j = A := by
  funext k c
  unfold swp
  split
  ·rename_i z; rw [z]; exact e c
  ·split
   ·rename_i z; rw [z]; exact (e c).symm
   ·rfl
 rw [h2] at h1
 grind
theorem det_row0 {n r : Nat} {A : Nat -> Nat -> Rat} (hr : r < n) (h : ∀ c, A r c = 0) : det n A = 0 := by
 have := qEf (n := n) (r := r) (A := A) (B := A) (C := A) (p := 0) (q := 0) hr (fun i c _ => ⟨rfl, rfl⟩) fun c => by rw [h c]; grind
 rw [this]
 grind
theorem Sg_le {N : Nat} {f : Nat -> Rat} : ∀ {n : Nat}, (∀ i, i < n -> Le N (f i)) -> Le (1 + (N + 1) * n) (Sg n f)
 | 0, _ => Le.zero (by omega)
 | n + 1, h => by
  have := (Sg_le (n := n) fun i hi => h i (by omega)).add (h n (by omega))
  refine this.mono ?_
  rw [Nat.mul_succ]
  omega
def Tw (a b : Nat) (q : Rat) : Prop := ∃ n : Int, q * ((12 ^ a : Int) : Rat) = (n : Rat) /\ n.natAbs < 2 ^ b
theorem Tw.mono {a b b' : Nat} {q : Rat} (h : Tw a b q) (hb : b <= b') : Tw a b' q := by
 obtain ⟨n, h1, h2⟩ := h
 exact ⟨n, h1, jAd h2 (jCr (by decide) hb)⟩
theorem Tw.add {a b c : Nat} {p q : Rat} (hp : Tw a b p) (hq : Tw a c q) : Tw a (max b c + 1) (p + q) := by
 obtain ⟨n, h1, h2⟩ := hp
 obtain ⟨m, h3, h4⟩ := hq
 refine ⟨n + m, ?_, ?_⟩
 ·rw [jEd, <- h1, <- h3]; grind
 ·have e1 : 2 ^ b <= 2 ^ max b c := jCr (by decide) (Nat.le_max_left _ _)
  have e2 : 2 ^ c <= 2 ^ max b c := jCr (by decide) (Nat.le_max_right _ _)
  have := jCx n m
  rw [jCy]
  omega
theorem Tw.le {a b N : Nat} {q : Rat} (h : Tw a b q) (h1 : b <= N) (h2 : 4 * a < N) : Le N q := by
 obtain ⟨n, e, hn⟩ := h
 have hD : (0 : Int) < 12 ^ a := Int.pow_pos (by decide)
 have hD' : ((12 ^ a : Int) : Rat) ≠ 0 := fun z => by
  have : (12 ^ a : Int) = 0 := by exact_mod_cast z
  omega
 have eq : q = jCp n (12 ^ a) := by
  rw [jEe, <- e, Rat.mul_div_cancel hD']
 rw [eq]
 refine Le.divInt' hD (jAd hn (jCr (by decide) h1)) ?_
 have : ((12 : Int) ^ a).natAbs = 12 ^ a := by rw [Int.natAbs_pow]; rfl
 rw [this]
 have h16 : (12 : Nat) ^ a <= 16 ^ a := Nat.pow_le_pow_left (by decide) a
 have e16 : (16 : Nat) ^ a = 2 ^ (4 * a) := by rw [Nat.pow_mul]
 rw [e16] at h16
 exact jCg h16 (jCz (by decide) h2)
def TwT (a b : Nat) (T : List (List Rat)) : Prop := ∀ r ∈ T, ∀ x ∈ r, Tw a b x
theorem TwT.le {a b N : Nat} {T : List (List Rat)} (h : TwT a b T) (h1 : b <= N) (h2 : 4 * a < N) : LeT N T := fun r hr x hx => (h r hr x hx).le h1 h2
def Rl (A : List (List Rat)) (m : Nat) (c : Nat -> Rat) : Prop := ∀ i, Sg m (fun k => ent A i k * c k) = 0
theorem clear_rows_w {S : Sto} {c : Nat} {cs : List Nat} {g : DG} {b : DSt} {δ0 : DS} {Q : Fl -> Sto -> Prop} (I : DS -> Prop) (hne : ∀ x ∈ cs, x ≠ c) (hc : zH S c = some (cs.map D.ref)) (hr : ∀ x ∈ cs, ∃ xs, zH S x = some xs) (h0 : I δ0)
  (step : ∀ x δ S' xs, I δ -> zH S' x = some xs -> W (g (.ref x) δ S') fun δ' S2 => W (b δ' S2) fun fl S3 => ∃ δ3 ys, fl = .nx δ3 /\ I δ3 /\ S3 = S'.set x (.lst ys))
  (fin : ∀ δ S', I δ -> S'.length = S.length -> (∀ x, x ∉ cs -> zH S' x = zH S x) -> (∀ S0, SLe S0 S -> (∀ x ∈ cs, S0.length <= x) -> SLe S0 S') -> Q (.nx δ) S') : W (forK g b δ0 (.one c) S) Q := by
 refine qBl (cs.map D.ref) (fun i δ S' => I δ /\ S'.length = S.length /\ (∀ x, x ∉ cs -> zH S' x = zH S x) /\ (∀ S0, SLe S0 S -> (∀ x ∈ cs, S0.length <= x) -> SLe S0 S') /\ ∀ x ∈ cs, ∃ xs, zH S' x = some xs) (by rw [qAs hc]; exact jAx _) ⟨h0, rfl, fun _ _ => rfl, fun _ l _ => l, hr⟩ (fun i δ S' h => qBs (by rw [h.2.2.1 c (fun z => hne c z rfl)]; exact hc) i) ?_ ?_
 ·rintro i x δ S' hx ⟨hI, hl, hk, hS, hr'⟩
  obtain ⟨b1, hb1, rfl⟩ := qAr hx
  obtain ⟨xs, h1⟩ := hr' b1 (zK hb1)
  refine (step b1 δ S' xs hI h1).mono fun δ' S2 h => h.mono ?_
  rintro fl S3 ⟨δ3, ys, rfl, hI3, rfl⟩
  refine ⟨hI3, by simp [hl], fun x hx => ?_, fun S0 l0 h0 => (hS S0 l0 h0).set (h0 b1 (zK hb1)) _, fun x hx => ?_⟩
  ·rw [qBn (fun z => hx (by rw [<- z]; exact zK hb1))]
   exact hk x hx
  ·by_cases e : b1 = x
   ·subst e
    exact ⟨ys, qD2 h1⟩
   ·rw [qBn e]
    exact hr' x hx
 ·rintro δ S' ⟨hI, hl, hk, hS, _⟩
  exact fin δ S' hI hl hk hS
def dotR (xs ys : List Rat) : Rat := sumR (jDd (· * ·) xs ys)
theorem dotR_Sg {xs ys : List Rat} {n : Nat} (h1 : xs.length = n) (h2 : ys.length = n) : dotR xs ys = Sg n fun c => xs.getD c 0 * ys.getD c 0 := by
 unfold dotR
 rw [sumR_Sg, jDf, h1, h2, Nat.min_self]
 refine zM fun c hc => ?_
 obtain ⟨x, hx⟩ := zQ (xs := xs) (i := c) (by omega)
 obtain ⟨y, hy⟩ := zQ (xs := ys) (i := c) (by omega)
 simp [jDe, hx, hy]
def SgI : Nat -> (Nat -> Int) -> Int
 | 0, _ => 0
 | n + 1, f => SgI n f + f n
theorem SgI_cast (n : Nat) (f : Nat -> Int) : ((SgI n f : Int) : Rat) = Sg n fun i => (f i : Rat) := by
 induction n with
 | zero => rfl
 | succ n ih => simp only [SgI, Sg, jEd, ih]
theorem SgI_le {n M : Nat} {f : Nat -> Int} (h : ∀ i, i < n -> (f i).natAbs <= M) : (SgI n f).natAbs <= n * M := by
 induction n with
 | zero => simp [SgI]
 | succ n ih =>
  have h1 := ih fun i hi => h i (by omega)
  have h2 := h n (by omega)
  have h3 := jCx (SgI n f) (f n)
  rw [SgI, jB4]
  omega
theorem SgI_nonneg {n : Nat} {f : Nat -> Int} (h : ∀ i, i < n -> 0 <= f i) : 0 <= SgI n f := by
 induction n with
 | zero => simp [SgI]
 | succ n ih =>
  have h1 := ih fun i hi => h i (by omega)
  have h2 := h n (by omega)
  rw [SgI]
  omega
def CdI (B : Nat) (f : Nat -> Rat) (D : Int) (z : Nat -> Int) : Prop := (0 < D /\ D.natAbs < 2 ^ B) /\ ∀ c, f c * (D : Rat) = (z c : Rat) /\ (z c).natAbs < 2 ^ B
def Cd (B : Nat) (f : Nat -> Rat) : Prop := ∃ D z, CdI B f D z
theorem qDb {D : Int} (h : 0 < D) : (D : Rat) ≠ 0 := fun z => by
 have : D = 0 := by
  have e : ((D : Int) : Rat) = ((0 : Int) : Rat) := z
  exact jEf.mp e
 omega
theorem le_of_mul {B : Nat} {q : Rat} {D z : Int} (hD : 0 < D) (hb : D.natAbs < 2 ^ B) (h : q * (D : Rat) = (z : Rat)) (hz : z.natAbs < 2 ^ B) : Le B q := by
 have e : q = jCp z D := by
  rw [jEe, <- h, jC0, jEa, jEb _ (qDb hD), jEg]
 rw [e]
 exact Le.divInt (by omega) hz hb
theorem Cd.le {B : Nat} {f : Nat -> Rat} (h : Cd B f) (c : Nat) : Le B (f c) := by
 obtain ⟨D, z, ⟨h1, h2⟩, h3⟩ := h
 exact le_of_mul h1 h2 (h3 c).1 (h3 c).2
theorem Cd.mono {B B' : Nat} {f : Nat -> Rat} (h : Cd B f) (k : B <= B') : Cd B' f := by
 obtain ⟨D, z, ⟨h1, h2⟩, h3⟩ := h
 have := jCr (show 0 < 2 by decide) k
 exact ⟨D, z, ⟨h1, by omega⟩, fun c => ⟨(h3 c).1, by have := (h3 c).2; omega⟩⟩
theorem qB2 {a b x y : Nat} (h1 : a < 2 ^ x) (h2 : b < 2 ^ y) : a * b < 2 ^ (x + y) := by
 rw [jCw]
 exact Nat.mul_lt_mul'' h1 h2
theorem qF1 {b : Nat} : ∀ {xs : List Rat}, (∀ x ∈ xs, Le b x) -> Cd (b * xs.length + 1) fun c => xs.getD c 0
 | [], _ => ⟨1, fun _ => 0, ⟨by decide, by simp⟩, fun c => ⟨by simp, by simp⟩⟩
 | x :: xs, h => by
  obtain ⟨D, z, ⟨h1, h2⟩, h3⟩ := qF1 fun y hy => h y (jAn _ hy)
  have hx := h x (jAm ..)
  have hd := qAq x
  have e : b * (x :: xs).length + 1 = (b * xs.length + 1) + b := by rw [jA7, Nat.mul_succ]; omega
  rw [e]
  have hx1 : x * ((x.den : Int) : Rat) = ((x.num : Int) : Rat) := by
   conv => lhs; lhs; rw [<- jCq x, jEe]
   rw [jC0, jEa, jD9 _⁻¹, jEb _ (qDb hd), jEg]
  refine ⟨D * x.den, fun c => match c with | 0 => x.num * D | c + 1 => z c * x.den, ⟨jD2 h1 hd, ?_⟩, fun c => ?_⟩
  ·rw [jCu]
   exact qB2 h2 (by rw [jCt]; exact hx.2)
  ·match c with
   | 0 =>
    refine ⟨?_, ?_⟩
    ·show x * ((D * x.den : Int) : Rat) = ((x.num * D : Int) : Rat)
     rw [jEh, jEh, <- hx1]
     grind
    ·show (x.num * D).natAbs < _
     rw [jCu, jB6]
     exact qB2 h2 hx.1
   | c + 1 =>
    obtain ⟨g1, g2⟩ := h3 c
    refine ⟨?_, ?_⟩
    ·show xs.getD c 0 * ((D * x.den : Int) : Rat) = ((z c * x.den : Int) : Rat)
     rw [jEh, jEh, <- g1]
     grind
    ·show (z c * x.den).natAbs < _
     rw [jCu]
     exact qB2 g2 (by rw [jCt]; exact hx.2)
structure Amt (n u V q s : Nat) (w y x : Nat -> Rat) (D Dj : Int) (U v : Nat -> Int) (a : Rat) (p nj : Int) : Prop where
 pos : 0 < nj
 eq : a * ((D * nj : Int) : Rat) = ((p * Dj : Int) : Rat)
 lp : p.natAbs <= 2 ^ (u + V + q + s)
 ln : nj.natAbs <= 2 ^ (V + V + q + s)
theorem term_le {a b c x y z : Nat} (h1 : a < 2 ^ x) (h2 : b < 2 ^ y) (h3 : c < 2 ^ z) : a * b * c <= 2 ^ (x + y + z) := jAk (qB2 (qB2 h1 h2) h3)
theorem amt_of {n u V q s : Nat} {w y x : Nat -> Rat} {D Dj Ω : Int} {U v ω : Nat -> Int} {a : Rat} (hn : n <= 2 ^ s) (hD : 0 < D) (hy : ∀ c, y c * (D : Rat) = (U c : Rat) /\ (U c).natAbs < 2 ^ u) (hDj : 0 < Dj) (hx : ∀ c, x c * (Dj : Rat) = (v c : Rat) /\ (v c).natAbs < 2 ^ V)
  (hΩ : 0 < Ω) (hw : ∀ c, w c * (Ω : Rat) = (ω c : Rat) /\ (ω c).natAbs < 2 ^ q) (hw0 : ∀ c, 0 <= ω c) (h0 : dt n w x x ≠ 0) (ha : a = dt n w y x / dt n w x x) :
  Amt n u V q s w y x D Dj U v a (SgI n fun c => U c * v c * ω c) (SgI n fun c => v c * v c * ω c) := by
 have E : ∀ {f : Nat -> Rat} {D : Int} {U : Nat -> Int}, (∀ c, f c * (D : Rat) = (U c : Rat)) -> dt n w f x * ((D : Rat) * (Dj : Rat) * (Ω : Rat)) = ((SgI n fun c => U c * v c * ω c : Int) : Rat) := by
  intro f D U hf
  rw [SgI_cast]
  unfold dt
  rw [<- qAy]
  refine zM fun c _ => ?_
  rw [jEh, jEh, <- hf c, <- (hx c).1, <- (hw c).1]
  grind
 have E1 := E fun c => (hx c).1
 have E2 := E fun c => (hy c).1
 have nz : (((SgI n fun c => v c * v c * ω c) : Int) : Rat) ≠ 0 := by
  rw [<- E1]
  intro z
  rcases jD7.mp z with z | z
  ·exact h0 z
  ·rcases jD7.mp z with z | z
   ·rcases jD7.mp z with z | z <;> exact qDb hDj z
   ·exact qDb hΩ z
 have nn : 0 <= (SgI n fun c => v c * v c * ω c) := SgI_nonneg fun i _ => Int.mul_nonneg (by
  rcases Int.le_total 0 (v i) with h | h
  ·exact Int.mul_nonneg h h
  ·exact Int.mul_nonneg_of_nonpos_of_nonpos h h) (hw0 i)
 have np : 0 < (SgI n fun c => v c * v c * ω c) := by
  rcases Int.lt_or_eq_of_le nn with h | h
  ·exact h
  ·exact absurd (by rw [<- h]; rfl) nz
 have ae : a * dt n w x x = dt n w y x := by
  rw [ha, jC0, jEa, jD9 _⁻¹, jEb _ h0, jEg]
 refine ⟨np, ?_, ?_, ?_⟩
 ·rw [jEh, jEh, <- E1, <- E2, <- ae]
  grind
 ·refine jAj (SgI_le (M := 2 ^ (u + V + q)) fun i _ => ?_) ?_
  ·rw [jCu, jCu]
   exact term_le (hy i).2 (hx i).2 (hw i).2
  ·rw [jCw _ (u + V + q) s, jB6]
   exact jDq _ hn
 ·refine jAj (SgI_le (M := 2 ^ (V + V + q)) fun i _ => ?_) ?_
  ·rw [jCu, jCu]
   exact term_le (hx i).2 (hx i).2 (hw i).2
  ·rw [jCw _ (V + V + q) s, jB6]
   exact jDq _ hn
theorem Amt.le {n u V q s : Nat} {w y x : Nat -> Rat} {D Dj : Int} {U v : Nat -> Int} {a : Rat} {p nj : Int} (h : Amt n u V q s w y x D Dj U v a p nj) (hD : 0 < D) (hDu : D.natAbs < 2 ^ u) (hDj : Dj.natAbs < 2 ^ V) : Le (u + V + V + q + s + 1) a := by
 refine le_of_mul (jD2 hD h.pos) ?_ h.eq ?_
 ·rw [jCu]
  have h1 := h.ln
  calc D.natAbs * nj.natAbs <= 2 ^ u * 2 ^ (V + V + q + s) := jEi (jAk hDu) h1
   _ < 2 ^ (u + V + V + q + s + 1) := by
    rw [<- jCw]
    exact jCz (by decide) (by omega)
 ·rw [jCu]
  have h1 := h.lp
  calc p.natAbs * Dj.natAbs <= 2 ^ (u + V + q + s) * 2 ^ V := jEi h1 (jAk hDj)
   _ < 2 ^ (u + V + V + q + s + 1) := by
    rw [<- jCw]
    exact jCz (by decide) (by omega)
structure Acc (u P B : Nat) (D : Int) (z : Nat -> Rat) (N : Int) (Z : Nat -> Int) : Prop where
 pos : 0 < N
 lN : N.natAbs <= 2 ^ P
 lD : (D * N).natAbs < 2 ^ B
 eq : ∀ c, z c * ((D * N : Int) : Rat) = (Z c : Rat)
 lz : ∀ c, (Z c).natAbs < 2 ^ B
 uP : u + P <= B
theorem Acc.step {n u V q s P B : Nat} {w y x z : Nat -> Rat} {D Dj N : Int} {U v Z : Nat -> Int} {a : Rat} {p nj : Int} (h : Acc u P B D z N Z) (k : Amt n u V q s w y x D Dj U v a p nj) (hx : ∀ c, x c * (Dj : Rat) = (v c : Rat) /\ (v c).natAbs < 2 ^ V) :
  Acc u (P + (V + V + q + s)) (B + (V + V + q + s + 1)) D (fun c => z c - x c * a) (N * nj) (fun c => Z c * nj - v c * p * N) := by
 have hp := k.pos
 refine ⟨jD2 h.pos hp, ?_, ?_, fun c => ?_, fun c => ?_, by have := h.uP; omega⟩
 ·rw [jCu, jCw]
  exact jEi h.lN k.ln
 ·rw [<- Int.mul_assoc, jCu]
  calc (D * N).natAbs * nj.natAbs <= (D * N).natAbs * 2 ^ (V + V + q + s) := jDq _ k.ln
   _ < 2 ^ B * 2 ^ (V + V + q + s) := jEj h.lD (jC2 _)
   _ <= 2 ^ (B + (V + V + q + s + 1)) := by
    rw [<- jCw]
    exact jCr (by decide) (by omega)
 ·have e1 := h.eq c
  have e2 := k.eq
  have e3 := (hx c).1
  rw [jEh] at e1 e2
  rw [jEh] at e2
  rw [Rat.intCast_sub, jEh, jEh, jEh, jEh, jEh, <- e1, <- e3]
  grind
 ·have h1 : (Z c * nj).natAbs < 2 ^ (B + (V + V + q + s)) := by
   rw [jCu, jCw]
   calc (Z c).natAbs * nj.natAbs <= (Z c).natAbs * 2 ^ (V + V + q + s) := jDq _ k.ln
    _ < 2 ^ B * 2 ^ (V + V + q + s) := jEj (h.lz c) (jC2 _)
  have h2 : (v c * p * N).natAbs <= 2 ^ (B + (V + V + q + s)) := by
   rw [jCu, jCu]
   calc (v c).natAbs * p.natAbs * N.natAbs <= 2 ^ V * 2 ^ (u + V + q + s) * 2 ^ P := jEi (jEi (jAk (hx c).2) k.lp) h.lN
    _ <= 2 ^ (B + (V + V + q + s)) := by
     rw [<- jCw, <- jCw]
     exact jCr (by decide) (by have := h.uP; omega)
  have h3 : (2 : Nat) ^ (B + (V + V + q + s + 1)) = 2 ^ (B + (V + V + q + s)) * 2 := by rw [<- Nat.add_assoc, jCy]
  rw [h3]
  show (Z c * nj - v c * p * N).natAbs < _
  omega
def vt (u e : Nat) : Nat -> Nat
 | 0 => 0
 | k + 1 => vt u e k + (2 * (u + vt u e k) + e)
theorem qDr (u e : Nat) {m n : Nat} (h : m <= n) : vt u e m <= vt u e n := by
 induction n with
 | zero => rw [show m = 0 by omega]; exact jAx _
 | succ n ih =>
  by_cases e' : m = n + 1
  ·rw [e']; exact jAx _
  ·have := ih (by omega)
   simp only [vt]
   omega
theorem cd_lefts {n u q s K : Nat} {w : Nat -> Rat} {Ω : Int} {ω : Nat -> Int} {Y X : Nat -> Nat -> Rat} {a : Nat -> Nat -> Rat} (hn : n <= 2 ^ s) (hΩ : 0 < Ω) (hw : ∀ c, w c * (Ω : Rat) = (ω c : Rat) /\ (ω c).natAbs < 2 ^ q) (hw0 : ∀ c, 0 <= ω c)
  (hY : ∀ k, k < K -> Cd u (Y k)) (hX : ∀ k, k < K -> ∀ c, X k c = Y k c - Sg k fun j => X j c * a k j) (ha : ∀ k j, k < K -> j < k -> AmtIs n w (Y k) (X j) (a k j)) :
  ∀ k, k < K -> Cd (u + vt u (q + s + 1) k) (X k) /\ ∀ j, j < k -> Le (u + 2 * (u + vt u (q + s + 1) j) + (q + s + 1)) (a k j) := by
 intro k
 induction k using jEc with
 | _ k ih =>
  intro hk
  obtain ⟨D, U, ⟨hD, hDu⟩, hU⟩ := hY k hk
  have am : ∀ j, j < k -> (a k j = 0) \/ ∃ Dj v p nj, CdI (u + vt u (q + s + 1) j) (X j) Dj v /\ Amt n u (u + vt u (q + s + 1) j) q s w (Y k) (X j) D Dj U v (a k j) p nj := fun j hj => by
   rcases ha k j hk hj with ⟨_, h⟩ | ⟨h0, h⟩
   ·exact .inl h
   ·obtain ⟨Dj, v, h1⟩ := (ih j hj (by omega)).1
    exact .inr ⟨Dj, v, _, _, h1, amt_of hn hD hU h1.1.1 h1.2 hΩ hw hw0 h0 h⟩
  have acc : ∀ t, t <= k -> ∃ P N Z, Acc u P (u + vt u (q + s + 1) t) D (fun c => Y k c - Sg t fun j => X j c * a k j) N Z := by
   intro t
   induction t with
   | zero =>
    intro _
    refine ⟨0, 1, U, by decide, by decide, by rw [Int.mul_one]; exact hDu, fun c => ?_, fun c => (hU c).2, by simp [vt]⟩
    rw [Int.mul_one, <- (hU c).1]
    simp only [Sg]
    grind
   | succ t iht =>
    intro ht
    obtain ⟨P, N, Z, h⟩ := iht (by omega)
    rcases am t (by omega) with h0 | ⟨Dj, v, p, nj, h1, h2⟩
    ·refine ⟨P, N, Z, h.pos, h.lN, ?_, fun c => ?_, fun c => ?_, ?_⟩
     ·exact jAd h.lD (jCr (by decide) (by have := qDr u (q + s + 1) (show t <= t + 1 by omega); omega))
     ·rw [<- h.eq c]
      simp only [Sg, h0]
      grind
     ·exact jAd (h.lz c) (jCr (by decide) (by have := qDr u (q + s + 1) (show t <= t + 1 by omega); omega))
     ·have := h.uP; have := qDr u (q + s + 1) (show t <= t + 1 by omega); omega
    ·have := h.step h2 h1.2
     have eB : u + vt u (q + s + 1) (t + 1) = u + vt u (q + s + 1) t + ((u + vt u (q + s + 1) t) + (u + vt u (q + s + 1) t) + q + s + 1) := by simp only [vt]; omega
     have ez : (fun c => (Y k c - Sg (t + 1) fun j => X j c * a k j)) = fun c => (Y k c - Sg t fun j => X j c * a k j) - X t c * a k t := by
      funext c
      simp only [Sg]
      grind
     rw [eB, ez]
     exact ⟨_, _, _, this⟩
  constructor
  ·obtain ⟨P, N, Z, h⟩ := acc k (jAx k)
   refine ⟨D * N, Z, ⟨jD2 hD h.pos, h.lD⟩, fun c => ⟨?_, h.lz c⟩⟩
   rw [hX k hk c]
   exact h.eq c
  ·intro j hj
   rcases am j hj with h0 | ⟨Dj, v, p, nj, h1, h2⟩
   ·rw [h0]; exact Le.zero (by omega)
   ·exact (h2.le hD hDu h1.1.2).mono (by omega)
abbrev Vf (xs : List Rat) : Nat -> Rat := fun c => xs.getD c 0
def qCr (xs : List Rat) : Bool := xs.all fun x => decide (x = 0)
theorem qBi (xs : List Rat) : qCr xs = true ↔ ∀ c, xs.getD c 0 = 0 := by
 unfold qCr
 rw [jCh]
 constructor
 ·intro h c
  rw [jD5]
  cases e : xs[c]? with
  | none => rfl
  | some x => simpa using h x (jBt e)
 ·intro h x hx
  obtain ⟨i, hi⟩ := jDz hx
  have := h i
  rw [jD5, hi] at this
  simpa using this
theorem dotW_dt {xs ys ws : List Rat} {n : Nat} (h1 : xs.length = n) (h2 : ys.length = n) (h3 : ws.length = n) : dotW xs ys ws = dt n (Vf ws) (Vf xs) (Vf ys) := by
 unfold dotW dt
 rw [sumR_Sg]
 have e : (jDd (· * ·) (jDd (· * ·) xs ys) ws).length = n := by simp; omega
 rw [e]
 refine zM fun i hi => ?_
 simp [jDe, show i < xs.length by omega, show i < ys.length by omega, show i < ws.length by omega]
def amtR (row left ws : List Rat) : Rat := if qCr left = true then 0 else dotW row left ws / dotW left left ws
theorem amtR_is {row left ws : List Rat} {n : Nat} (h1 : row.length = n) (h2 : left.length = n) (h3 : ws.length = n) (hw : ∀ c, c < n -> 0 < Vf ws c) : AmtIs n (Vf ws) (Vf row) (Vf left) (amtR row left ws) := by
 unfold amtR
 by_cases h : qCr left = true
 ·rw [if_pos h]
  exact .inl ⟨fun c _ => (qBi left).mp h c, rfl⟩
 ·rw [if_neg h, dotW_dt h1 h2 h3, dotW_dt h2 h2 h3]
  refine .inr ⟨?_, rfl⟩
  have : ∃ c, left.getD c 0 ≠ 0 := Classical.byContradiction fun z => h ((qBi left).mpr fun c => Classical.byContradiction fun y => z ⟨c, y⟩)
  obtain ⟨c, hc⟩ := this
  have hcn : c < n := Classical.byContradiction fun z => hc (by
   rw [jD5, jCo (by omega)]; rfl)
  have := dt_pos (f := Vf left) hw hcn hc
  grind
theorem sq_ne {left ws : List Rat} {n : Nat} (h2 : left.length = n) (h3 : ws.length = n) (hw : ∀ c, c < n -> 0 < Vf ws c) (h : qCr left = false) : dotW left left ws ≠ 0 := by
 have : ∃ c, left.getD c 0 ≠ 0 := Classical.byContradiction fun z => by
  rw [(qBi left).mpr fun c => Classical.byContradiction fun y => z ⟨c, y⟩] at h
  cases h
 obtain ⟨c, hc⟩ := this
 have hcn : c < n := Classical.byContradiction fun z => hc (by
  rw [jD5, jCo (by omega)]; rfl)
 have := dt_pos (f := Vf left) hw hcn hc
 rw [dotW_dt h2 h2 h3]
 grind
theorem amount_w {S : Sto} {a b c m V q n : Nat} {row left ws : List Rat} (ha : RowA S a row) (hb : RowA S b left) (hc : RowA S c ws) (h1 : row.length = n) (h2 : left.length = n) (h3 : ws.length = n) (hw : ∀ c, c < n -> 0 < Vf ws c) (hr : ∀ x ∈ row, Le m x) (hl : ∀ x ∈ left, Le V x) (hq : ∀ x ∈ ws, Le q x)
  (hB1 : (m + V + q + 1) * (n + 1) <= 20000000) (hB2 : (V + V + q + 1) * (n + 1) <= 20000000) (hn : n <= 1000000) : W (F.amount [.ref a, .ref b, .ref c] S) fun d S' => d = ratD (amtR row left ws) /\ SLe S S' := by
 (unfold F.amount; refine Np.W_fnF rfl ?_; unfold Den.amount; simp_all [])
 obtain ⟨o, ho⟩ := qD9 hb (by omega)
 simp_all [ho]
 have hS : SLe S (S ++ [o]) := SLe.app _
 by_cases h : qCr left = true
 ·have h' : (left.all fun x => decide (x = 0)) = true := h
  simp_all [h']
  refine ⟨?_, hS⟩
  unfold amtR
  rw [if_pos h]
 ·have h' : (left.all fun x => decide (x = 0)) = false := by simpa [qCr] using h
  simp_all [h']
  refine (dotW_w (hS.lst ha) (hS.lst hb) (hS.lst hc) hr hl hq (by rw [h1]; exact hB1) (by omega)).mono ?_
  rintro d S2 ⟨l2, rfl⟩
  refine (square_w ((hS.trans l2).lst hb) ((hS.trans l2).lst hc) hl hq (by rw [h2]; exact hB2) (by omega)).mono ?_
  rintro d S3 ⟨l3, rfl⟩
  have s1 : sm (dotW row left ws) := (le_dotW hr hl hq).sm (by rw [h1]; rw [jDo] at hB1; omega)
  have s2 : sm (dotW left left ws) := (le_dotW hl hl hq).sm (by rw [h2]; rw [jDo] at hB2; omega)
  simp_all [over_eq s1 s2 (sq_ne h2 h3 hw (by simpa using h))]
  refine ⟨?_, hS.trans (l2.trans l3)⟩
  unfold amtR
  rw [if_neg h]
def molR (sh : List Rat) (long : Nat) : List Rat := subR (qB8 long sh.length) (sh ++ jBk (long - sh.length) 0)
theorem qA9 {sh : List Rat} {long : Nat} (h : sh.length <= long) : (molR sh long).length = long := by simp [molR, subR, qB8]; omega
theorem qDm {sh : List Rat} {long : Nat} (h : sh.length <= long) (j : Nat) (hj : j < long) : (molR sh long).getD j 0 = (if j = sh.length then 1 else 0) - sh.getD j 0 := by
 have e1 : (qB8 long sh.length)[j]? = some (if j = sh.length then 1 else 0) := by simp [qB8, hj]
 have e2 : (sh ++ jBk (long - sh.length) 0)[j]? = some (sh.getD j 0) := by
  by_cases h2 : j < sh.length
  ·rw [jBr h2]; simp [h2]
  ·rw [jBp (by omega), jBq, if_pos (by omega)]
   simp [show ¬ j < sh.length from h2, jCo (show sh.length <= j by omega)]
 simp only [molR, subR, jD5, jDe, e1, e2]
 simp
theorem qF4 {S : Sto} {a b : Nat} {xs ys : List D} (ha : zH S a = some xs) (hb : zH S b = some ys) (hl : xs.length + ys.length <= 1000000) : addD (.ref a) (.ref b) S = ok (.ref S.length) (S ++ [.lst (xs ++ ys)]) := by
 show catD (zH S a) (zH S b) S = _
 rw [ha, hb]
 unfold catD
 simp only []
 rw [if_pos hl]
 rfl
theorem qC1 {S : Sto} {a long V : Nat} {sh : List Rat} {Q : D -> Sto -> Prop} (ha : RowA S a sh) (h : sh.length <= long) (hl : long < 1000000) (hV : ∀ x ∈ sh, Le V x) (hVN : V <= 20000000)
  (fin : ∀ S' b, SLe S S' -> S.length <= b -> RowA S' b (molR sh long) -> Q (.ref b) S') : W (F.mix_of_left [.ref a, .int (long : Int)] S) Q := by
 (unfold F.mix_of_left; refine Np.W_fnF rfl ?_; unfold Den.mix_of_left; simp_all [])
 simp_all [qAz ha, jBd]
 refine qAw (unit_row_eq (p := sh.length) hl) fun S1 u l1 n1 r1 => ?_
 refine qAw (qAx (by simp) _) fun S2 z l2 n2 r2 => ?_
 simp_all [qAz ((l1.trans l2).lst ha), jBd, show (long : Int) - (sh.length : Int) = ((long - sh.length : Nat) : Int) by omega]
 refine qAw (qFg r2 (by omega)) fun S3 y l3 n3 r3 => ?_
 replace r3 := RowA.rep r3
 have L3 := l1.trans (l2.trans l3)
 refine qAw (qF4 (L3.lst ha) r3 (by simp; omega)) fun S4 x l4 n4 r4 => ?_
 rw [<- jEk] at r4
 refine qAw (taken_eq ((l2.trans (l3.trans l4)).lst r1) r4 (by simp [qB8]; omega) (fun x hx => ?_) (fun x hx => ?_)) fun S5 b l5 n5 r5 => ?_
 ·obtain ⟨i, _, rfl⟩ := jB9.mp hx
  split
  ·exact sm1
  ·exact sm0
 ·rcases jAp.mp hx with h | h
  ·exact (hV x h).sm (by omega)
  ·rw [(jDv.mp h).2]; exact sm0
 ·exact fin S5 b (L3.trans (l4.trans l5)) (by have := l1.len; have := l2.len; have := l3.len; have := l4.len; omega) r5
structure PtR (S : Sto) (t : Nat) (as bs : List Nat) (P H : List (List Rat)) : Prop where
 at' : zH S t = some (jDd (fun a b => D.tup [.ref a, .ref b]) as bs)
 la : as.length = P.length
 lb : bs.length = P.length
 lh : H.length = P.length
 left : ∀ (i a : Nat) r, as[i]? = some a -> P[i]? = some r -> RowA S a r
 shs : ∀ (i b : Nat) r, bs[i]? = some b -> H[i]? = some r -> RowA S b r
theorem PtR.le {S S' : Sto} {t : Nat} {as bs : List Nat} {P H : List (List Rat)} (h : PtR S t as bs P H) (l : SLe S S') : PtR S' t as bs P H :=
 ⟨l.lst h.at', h.la, h.lb, h.lh, fun i a r h1 h2 => l.lst (h.left i a r h1 h2), fun i a r h1 h2 => l.lst (h.shs i a r h1 h2)⟩
theorem PtR.len {S : Sto} {t : Nat} {as bs : List Nat} {P H : List (List Rat)} (h : PtR S t as bs P H) : (jDd (fun a b => D.tup [.ref a, .ref b]) as bs).length = P.length := by simp [h.la, h.lb]
theorem parted_w {S : Sto} {r t c n k m V A q : Nat} {as bs : List Nat} {P H : List (List Rat)} {row ws : List Rat} {Q : D -> Sto -> Prop} (hr : RowA S r row) (ht : PtR S t as bs P H) (hc : RowA S c ws) (h1 : row.length = n) (h3 : ws.length = n) (hw : ∀ c, c < n -> 0 < Vf ws c) (hP : Wide P n) (hH : ∀ (i : Nat) sh, H[i]? = some sh -> sh.length = i) (hk : P.length = k)
  (lr : ∀ x ∈ row, Le m x) (lP : LeT V P) (lH : LeT V H) (lA : ∀ x ∈ P.map (fun l => amtR row l ws), Le A x) (lq : ∀ x ∈ ws, Le q x) (lM : LeT V (H.map fun sh => molR sh k))
  (hB1 : (m + V + q + 1) * (n + 1) <= 20000000) (hB2 : (V + V + q + 1) * (n + 1) <= 20000000) (hB3 : (V + A + 1) * (k + 1) <= 20000000) (hn : n < 1000000) (hk2 : k < 1000000)
  (fin : ∀ S' a b, SLe S S' -> S.length <= a -> S.length <= b -> a ≠ b -> RowA S' a (subR row (mixR P (P.map fun l => amtR row l ws) n)) -> RowA S' b (mixR (H.map fun sh => molR sh k) (P.map fun l => amtR row l ws) k) -> Q (.tup [.ref a, .ref b]) S') : W (F.parted [.ref r, .ref t, .ref c] S) Q := by
 have hV : V <= 20000000 := by
  have : V + A + 1 <= (V + A + 1) * (k + 1) := jDs _ (by omega)
  omega
 have hlen := ht.len
 (unfold F.parted; refine Np.W_fnF rfl ?_; unfold Den.parted; simp_all [])
 refine W_compZ (base := [some (.ref r), some (.ref t), some (.ref c), none, none, none]) _ (jDd (fun a b => D.tup [.ref a, .ref b]) as bs) ((P.map fun l => amtR row l ws).map ratD) _ (qA4 _) (fun _ _ => trivial) (by rw [hlen]; simp) ?_ ?_ fun S1 am l1 n1 ra => ?_
 ·simp only [Np.itA, Np.itE, Np.yH, Np.aConsK, Np.aNil, Np.consK, Np.vr, Np.cst, jC6, jCb, Np.bnd_ok]
  rw [qAk ht.at', W_ok]
  exact qFd ht.at' (by rw [hlen]; omega)
 ·intro i x z S' hx hz l
  obtain ⟨a, b, ha, hb, rfl⟩ := qB3 hx
  obtain ⟨y, hy, rfl⟩ := qAr hz
  rw [jBs] at hy
  cases e : P[i]? with
  | none => rw [e] at hy; cases hy
  | some p =>
   rw [e] at hy
   cases hy
   simp_all [tix0]
   exact amount_w (l.lst hr) (l.lst (ht.left i a p ha e)) (l.lst hc) h1 (hP p (zK e)) h3 hw lr (lP p (zK e)) lq hB1 hB2 (by omega)
 have ra : RowA S1 am (P.map fun l => amtR row l ws) := ra
 refine qAw (qEi (base := [some (.ref r), some (.ref t), some (.ref c), some (.ref am), none, none]) _ (qA4 _) (src := .one t) (xs := jDd (fun a b => D.tup [.ref a, .ref b]) as bs) (zs := as.map D.ref) (by simp only [Np.itA, Np.itE, Np.yH, Np.aConsK, Np.aNil, Np.consK, Np.vr, Np.cst, jC6, jCb, Np.bnd_ok]; exact qAk (l1.lst ht.at')) (Has.one (l1.lst ht.at')) (by rw [qAs (l1.lst ht.at'), hlen]; omega) (fun _ _ => trivial) (by rw [hlen]; simp [ht.la]) fun i x z hx hz => ?_) fun S2 tl l2 n2 r2 => ?_
 ·obtain ⟨a, b, ha, hb, rfl⟩ := qB3 hx
  obtain ⟨y, hy, rfl⟩ := qAr hz
  rw [ha] at hy
  cases hy
  refine W_eq ?_
  simp_all [tix0]
 have L2 := l1.trans l2
 have tab2 : TabR S2 tl as P := ⟨r2, ht.la, fun i a p h1 h2 => L2.lst (ht.left i a p h1 h2)⟩
 simp_all [qAz (L2.lst hr), jBd, h1]
 refine (mixed_w (k := n) tab2 (l2.lst ra) hP (by simp) lP lA hn (by rw [hk]; exact hB3)).mono ?_
 rintro d S3 ⟨nr, rfl, n3, l3, r3⟩
 have L3 := L2.trans l3
 refine qF5 (base := [some (.ref r), some (.ref t), some (.ref c), some (.ref am), some (.ref nr), none]) _ (jDd (fun a b => D.tup [.ref a, .ref b]) as bs) (H.map fun sh => molR sh k) _ (qA4 _) (fun _ _ => trivial) (by rw [hlen]; simp [ht.lh]) ?_ ?_ fun S4 ml mls l4 f4 => ?_
 ·simp only [Np.itA, Np.itE, Np.yH, Np.aConsK, Np.aNil, Np.consK, Np.vr, Np.cst, jC6, jCb, Np.bnd_ok]
  rw [qAk (L3.lst ht.at'), W_ok]
  exact qFd (L3.lst ht.at') (by rw [hlen]; omega)
 ·intro i x rr S' hx hrr l
  obtain ⟨a, b, ha, hb, rfl⟩ := qB3 hx
  rw [jBs] at hrr
  cases e : H[i]? with
  | none => rw [e] at hrr; cases hrr
  | some sh =>
   rw [e] at hrr
   cases hrr
   have hi : i < P.length := by rw [<- ht.lh]; exact (jAr.mp e).1
   simp_all [tix1, qAz ((L3.trans l).lst ht.at'), hlen, hk]
   exact qC1 ((L3.trans l).lst (ht.shs i b sh hb e)) (by rw [hH i sh e]; omega) hk2 (lH sh (zK e)) hV fun S'' b' l' n' r' => ⟨b', rfl, n', l', r'⟩
 have L4 := L3.trans l4
 simp_all [qAz (L4.lst ht.at'), hlen, hk]
 have hMw : Wide (H.map fun sh => molR sh k) k := fun x hx => by
  obtain ⟨sh, hsh, rfl⟩ := jB9.mp hx
  obtain ⟨i, hi⟩ := jDz hsh
  have hil : i < P.length := by rw [<- ht.lh]; exact (jAr.mp hi).1
  exact qA9 (by rw [hH i sh hi]; omega)
 refine (mixed_w (k := k) f4.tab ((l2.trans (l3.trans l4)).lst ra) hMw (by simp [ht.lh]) lM lA hk2 (by rw [jBd, ht.lh, hk]; exact hB3)).mono ?_
 rintro d S5 ⟨sr, rfl, n5, l5, r5⟩
 have L5 := L4.trans l5
 have hnear : ∀ x ∈ mixR P (P.map fun l => amtR row l ws) n, sm x := fun x hx => by
  have hn0 : 0 < n := by
   rcases jCs n with h | h
   ·have := qA0 (ss := P.map fun l => amtR row l ws) hP
    rw [h, jDw] at this
    rw [h, this] at hx
    cases hx
   ·exact h
  refine (le_mix hn0 lP lA x hx).sm ?_
  rw [hk]
  rw [jDo] at hB3
  omega
 have hm : m <= 20000000 := by
  have : m + V + q + 1 <= (m + V + q + 1) * (n + 1) := jDs _ (by omega)
  omega
 refine qAw (taken_eq (L5.lst hr) ((l4.trans l5).lst r3) (by omega) (sm_of lr (by omega)) hnear) fun S6 lf l6 n6 r6 => ?_
 have q2 := L2.len
 have q5 := L5.len
 have q5' := qAe r5
 have q3 := L3.len
 have q4 := L4.len
 exact fin S6 lf sr (L5.trans l6) (by omega) (by omega) (by omega) r6 (l6.lst r5)
structure Gst where
 P : List (List Rat)
 H : List (List Rat)
def gsStep (ws : List Rat) (s : Gst) (row : List Rat) : Gst :=
 ⟨s.P ++ [subR row (mixR s.P (s.P.map fun l => amtR row l ws) row.length)], s.H ++ [mixR (s.H.map fun sh => molR sh s.P.length) (s.P.map fun l => amtR row l ws) s.P.length]⟩
def gsR (rows : List (List Rat)) (ws : List Rat) : Gst := rows.foldl (gsStep ws) ⟨[], []⟩
theorem qFn {rows : List (List Rat)} {ws : List Rat} {i : Nat} {row : List Rat} (h : rows[i]? = some row) : gsR (rows.take (i + 1)) ws = gsStep ws (gsR (rows.take i) ws) row := by
 unfold gsR
 rw [jDh, h, jDn]
 rfl
theorem qAn (ws : List Rat) : ∀ rows : List (List Rat), (gsR rows ws).P.length = rows.length /\ (gsR rows ws).H.length = rows.length := by
 intro rows
 have h : ∀ i, i <= rows.length -> (gsR (rows.take i) ws).P.length = i /\ (gsR (rows.take i) ws).H.length = i := by
  intro i
  induction i with
  | zero => intro _; exact ⟨rfl, rfl⟩
  | succ i ih =>
   intro hi
   obtain ⟨row, hrow⟩ := zQ (show i < rows.length by omega)
   obtain ⟨h1, h2⟩ := ih (by omega)
   rw [qFn hrow]
   simp [gsStep, h1, h2]
 have := h rows.length (jAx _)
 rwa [jDi] at this
theorem gsR_pre (ws : List Rat) (rows : List (List Rat)) {i : Nat} : ∀ j, i <= j -> j <= rows.length -> (gsR (rows.take j) ws).P.take i = (gsR (rows.take i) ws).P /\ (gsR (rows.take j) ws).H.take i = (gsR (rows.take i) ws).H := by
 intro j
 induction j with
 | zero =>
  intro h _
  rw [show i = 0 by omega]
  exact ⟨rfl, rfl⟩
 | succ j ih =>
  intro h hj
  by_cases e : i = j + 1
  ·subst e
   obtain ⟨h1, h2⟩ := qAn ws (rows.take (j + 1))
   have : (rows.take (j + 1)).length = j + 1 := by simp; omega
   exact ⟨jDm (by omega), jDm (by omega)⟩
  ·obtain ⟨row, hrow⟩ := zQ (show j < rows.length by omega)
   obtain ⟨h1, h2⟩ := ih (by omega) (by omega)
   obtain ⟨g1, g2⟩ := qAn ws (rows.take j)
   have hl : (rows.take j).length = j := by simp; omega
   rw [qFn hrow]
   simp only [gsStep]
   rw [jEl (by omega), jEl (by omega)]
   exact ⟨h1, h2⟩
theorem qEy {ws : List Rat} {rows : List (List Rat)} {k : Nat} {row : List Rat} (h : rows[k]? = some row) :
  (gsR rows ws).P[k]? = some (subR row (mixR ((gsR rows ws).P.take k) (((gsR rows ws).P.take k).map fun l => amtR row l ws) row.length)) /\
  (gsR rows ws).H[k]? = some (mixR (((gsR rows ws).H.take k).map fun sh => molR sh k) (((gsR rows ws).P.take k).map fun l => amtR row l ws) k) := by
 have hk : k < rows.length := (jAr.mp h).1
 have p1 := gsR_pre ws rows (i := k + 1) rows.length (by omega) (jAx _)
 have p0 := gsR_pre ws rows (i := k) rows.length (by omega) (jAx _)
 rw [jDi] at p1 p0
 obtain ⟨g1, g2⟩ := qAn ws (rows.take k)
 have hl : (rows.take k).length = k := by simp; omega
 rw [hl] at g1 g2
 have e := qFn (ws := ws) h
 have eP : (gsR rows ws).P[k]? = (gsR (rows.take (k + 1)) ws).P[k]? := by rw [<- p1.1, jEm, if_pos (by omega)]
 have eH : (gsR rows ws).H[k]? = (gsR (rows.take (k + 1)) ws).H[k]? := by rw [<- p1.2, jEm, if_pos (by omega)]
 rw [eP, eH, e, p0.1, p0.2]
 simp only [gsStep]
 rw [jBp (by omega), jBp (by omega), g1, g2]
 simp
theorem getD_sub {xs ys : List Rat} (h : xs.length = ys.length) (j : Nat) : (subR xs ys).getD j 0 = xs.getD j 0 - ys.getD j 0 := by
 simp only [subR, jD5, jDe]
 by_cases hj : j < xs.length
 ·simp [jEn hj, jEn (show j < ys.length by omega)]
 ·simp [jCo (show xs.length <= j by omega), jCo (show ys.length <= j by omega)]
  grind
theorem qFp {xs : List Rat} {j : Nat} (h : xs.length <= j) : xs.getD j 0 = 0 := by
 rw [jD5, jCo h]; rfl
theorem qDp {T : List (List Rat)} {n i c : Nat} (hw : Wide T n) (hc : n <= c) : ent T i c = 0 := by
 rw [qCw]
 by_cases h : i < T.length
 ·exact qFp (by rw [qE6 hw h]; exact hc)
 ·rw [qCh (by omega)]; rfl
theorem qEs {T : List (List Rat)} {i k : Nat} (h : i < k) : zR (T.take k) i = zR T i := by
 simp [zR, jEm, h]
theorem ent_take {T : List (List Rat)} {i k : Nat} (h : i < k) (c : Nat) : ent (T.take k) i c = ent T i c := by rw [qCw, qCw, qEs h]
section
variable {rows : List (List Rat)} {ws : List Rat} {n : Nat}
theorem qCd (hR : Wide rows n) : Wide (gsR rows ws).P n := fun r hr => by
 obtain ⟨k, hk⟩ := jDz hr
 have hl : k < rows.length := by rw [<- (qAn ws rows).1]; exact (jAr.mp hk).1
 revert hk r
 induction k using jEc with
 | _ k ih =>
  intro r hr hk
  obtain ⟨row, hrow⟩ := zQ hl
  rw [(qEy hrow).1] at hk
  cases hk
  have hrl : row.length = n := hR row (zK hrow)
  have : (mixR ((gsR rows ws).P.take k) (((gsR rows ws).P.take k).map fun l => amtR row l ws) row.length).length = row.length := qA0 fun x hx => by
   obtain ⟨i, hi⟩ := jDz hx
   rw [jEm] at hi
   split at hi
   ·rename_i hik
    rw [hrl]
    exact ih i hik (by omega) x (jDp hx) hi
   ·cases hi
  simp only [subR, jDf, this]
  omega
theorem qBy {i : Nat} {sh : List Rat} (h : (gsR rows ws).H[i]? = some sh) : sh.length = i := by
 have hl : i < rows.length := by rw [<- (qAn ws rows).2]; exact (jAr.mp h).1
 revert h sh
 induction i using jEc with
 | _ i ih =>
  intro sh h
  obtain ⟨row, hrow⟩ := zQ hl
  rw [(qEy hrow).2] at h
  cases h
  refine qA0 fun x hx => ?_
  obtain ⟨s, hs, rfl⟩ := jB9.mp hx
  obtain ⟨j, hj⟩ := jDz hs
  rw [jEm] at hj
  split at hj
  ·rename_i hji
   exact qA9 (by rw [ih j hji (by omega) hj]; omega)
  ·cases hj
def gsA (rows : List (List Rat)) (ws : List Rat) (k j : Nat) : Rat := amtR (zR rows k) (zR (gsR rows ws).P j) ws
theorem amts_get {row : List Rat} {k j : Nat} (hrow : rows[k]? = some row) (hj : j < k) : (((gsR rows ws).P.take k).map fun l => amtR row l ws).getD j 0 = gsA rows ws k j := by
 have hk : k < rows.length := (jAr.mp hrow).1
 have hl := (qAn ws rows).1
 obtain ⟨l, hl⟩ := zQ (xs := (gsR rows ws).P) (i := j) (by omega)
 rw [jD5, jBs, jEm, if_pos hj, hl]
 unfold gsA
 rw [yD hrow, yD hl]
 rfl
theorem gs_L (hR : Wide rows n) {k : Nat} (hk : k < rows.length) (c : Nat) : ent (gsR rows ws).P k c = ent rows k c - Sg k fun j => ent (gsR rows ws).P j c * gsA rows ws k j := by
 obtain ⟨row, hrow⟩ := zQ hk
 have hrl : row.length = n := hR row (zK hrow)
 have hPw := qCd (ws := ws) hR
 have hPl := (qAn ws rows).1
 by_cases hc : c < n
 ·have htw : Wide ((gsR rows ws).P.take k) n := fun x hx => hPw x (jDp hx)
  have hml : (mixR ((gsR rows ws).P.take k) (((gsR rows ws).P.take k).map fun l => amtR row l ws) row.length).length = n := by rw [hrl]; exact qA0 htw
  rw [qA2 (qEy (ws := ws) hrow).1, qA2 hrow, getD_sub (by omega), hrl, mix_ent htw hc (by simp)]
  congr 1
  rw [jBo, jDx (by omega)]
  refine zM fun j hj => ?_
  rw [ent_take hj, amts_get hrow hj]
 ·rw [qDp hPw (by omega), qDp hR (by omega), zM (g := fun _ => 0) fun j _ => by rw [qDp hPw (by omega)]; grind, qAv]
  grind
theorem ent_H0 {i j : Nat} (h : i <= j) : ent (gsR rows ws).H i j = 0 := by
 rw [qCw]
 by_cases hi : i < (gsR rows ws).H.length
 ·obtain ⟨sh, hsh⟩ := zQ hi
  rw [yD hsh]
  exact qFp (by rw [qBy hsh]; exact h)
 ·rw [qCh (by omega)]; rfl
theorem gs_H {k : Nat} (hk : k < rows.length) (j' : Nat) : ent (gsR rows ws).H k j' = Sg k fun j => ((if j' = j then 1 else 0) - ent (gsR rows ws).H j j') * gsA rows ws k j := by
 obtain ⟨row, hrow⟩ := zQ hk
 have hPl := (qAn ws rows).1
 have hHl := (qAn ws rows).2
 by_cases hj' : j' < k
 ·have hmw : Wide (((gsR rows ws).H.take k).map fun sh => molR sh k) k := fun x hx => by
   obtain ⟨s, hs, rfl⟩ := jB9.mp hx
   obtain ⟨j, hj⟩ := jDz hs
   rw [jEm] at hj
   split at hj
   ·exact qA9 (by rw [qBy hj]; omega)
   ·cases hj
  rw [qA2 (qEy (ws := ws) hrow).2, mix_ent hmw hj' (by simp [hPl, hHl])]
  rw [jBd, jBo, jDx (by omega)]
  refine zM fun j hj => ?_
  rw [amts_get hrow hj]
  congr 1
  obtain ⟨sh, hsh⟩ := zQ (xs := (gsR rows ws).H) (i := j) (by omega)
  rw [qA2 (r := molR sh k) (by rw [jBs, jEm, if_pos hj, hsh]; rfl), qA2 hsh, qDm (by rw [qBy hsh]; omega) j' hj', qBy hsh]
 ·rw [ent_H0 (by omega), zM (g := fun _ => 0) fun j hj => by rw [if_neg (by omega), ent_H0 (by omega)]; grind, qAv]
theorem gs_A (hR : Wide rows n) (hw : ws.length = n) (hp : ∀ c, c < n -> 0 < Vf ws c) {k j : Nat} (hk : k < rows.length) (hj : j < rows.length) : AmtIs n (Vf ws) (fun c => ent rows k c) (fun c => ent (gsR rows ws).P j c) (gsA rows ws k j) := by
 have hPl := (qAn ws rows).1
 exact amtR_is (qE6 hR hk) (qE6 (qCd (ws := ws) hR) (by omega)) hw hp
theorem gs_GS (hR : Wide rows n) (hw : ws.length = n) (hp : ∀ c, c < n -> 0 < Vf ws c) : ∀ k, k <= rows.length -> GS n (Vf ws) (ent rows) (ent (gsR rows ws).P) (ent (gsR rows ws).H) k
 | 0, _ => ⟨fun i h => by omega, fun i j h => by omega, fun i j h => by omega, fun i j h => by omega⟩
 | k + 1, hk => (gs_GS hR hw hp k (by omega)).step (a := gsA rows ws k) (fun j hj => gs_A hR hw hp (by omega) (by omega)) (gs_L hR (by omega)) (gs_H (by omega))
def gX (rows : List (List Rat)) (ws : List Rat) (n k c : Nat) : Rat := if c < n then ent (gsR rows ws).P k c else (if c - n = k then 1 else 0) - ent (gsR rows ws).H k (c - n)
def gY (rows : List (List Rat)) (n k c : Nat) : Rat := if c < n then ent rows k c else if c - n = k then 1 else 0
theorem cd_Y {b : Nat} (hR : Wide rows n) (hb : LeT b rows) (k : Nat) : Cd (b * n + 1) (gY rows n k) := by
 have h : Cd (b * n + 1) (fun c => ent rows k c) := by
  by_cases hk : k < rows.length
  ·have := qF1 (xs := zR rows k) (b := b) (rows_leT hb k)
   rw [qE6 hR hk] at this
   exact this
  ·have h0 : Cd (b * n + 1) fun c => ([] : List Rat).getD c 0 := (qF1 (xs := []) (b := b) fun _ h => (by cases h)).mono (by simp)
   have e : (fun c => ent rows k c) = fun c => ([] : List Rat).getD c 0 := by
    funext c
    rw [ent_none (by omega)]; rfl
   rw [e]
   exact h0
 obtain ⟨D, z, ⟨h1, h2⟩, h3⟩ := h
 refine ⟨D, fun c => if c < n then z c else if c - n = k then D else 0, ⟨h1, h2⟩, fun c => ?_⟩
 unfold gY
 by_cases hc : c < n
 ·simp only [hc, if_true]
  exact h3 c
 ·simp only [hc, if_false]
  split
  ·exact ⟨by rw [Rat.one_mul], h2⟩
  ·exact ⟨by rw [jD4]; rfl, jC2 _⟩
theorem gs_bd {b q s : Nat} (hR : Wide rows n) (hw : ws.length = n) (hp : ∀ c, c < n -> 0 < Vf ws c) (hb : LeT b rows) (hq : ∀ x ∈ ws, Le q x) (hs : n <= 2 ^ s) :
  ∀ k, k < rows.length -> Cd (b * n + 1 + vt (b * n + 1) (q * n + 1 + s + 1) k) (gX rows ws n k) /\ ∀ j, j < k -> Le (b * n + 1 + 2 * (b * n + 1 + vt (b * n + 1) (q * n + 1 + s + 1) j) + (q * n + 1 + s + 1)) (gsA rows ws k j) := by
 obtain ⟨Ω, ω, ⟨h1, h2⟩, h3⟩ := qF1 hq
 rw [hw] at h2 h3
 have h0 : ∀ c, 0 <= ω c := fun c => by
  have e := (h3 c).1
  have hw0 : (0 : Rat) <= ws.getD c 0 := by
   by_cases hc : c < n
   ·have := hp c hc; grind
   ·rw [qFp (by omega)]; exact Rat.le_refl
  have hO : (0 : Rat) <= (Ω : Rat) := Rat.intCast_nonneg.mpr (by omega)
  have := jD6 hw0 hO
  rw [e] at this
  exact Rat.intCast_nonneg.mp this
 refine cd_lefts (w := Vf ws) (Y := gY rows n) (X := gX rows ws n) (a := gsA rows ws) hs h1 h3 h0 (fun k _ => cd_Y hR hb k) (fun k hk c => ?_) (fun k j hk hj => ?_)
 ·unfold gX gY
  by_cases hc : c < n
  ·simp only [hc, if_true]
   exact gs_L hR hk c
  ·simp only [hc, if_false]
   rw [gs_H hk]
 ·have hA := gs_A hR hw hp hk (show j < rows.length by omega)
  have eY : ∀ c, c < n -> gY rows n k c = ent rows k c := fun c hc => by unfold gY; rw [if_pos hc]
  have eX : ∀ c, c < n -> gX rows ws n j c = ent (gsR rows ws).P j c := fun c hc => by unfold gX; rw [if_pos hc]
  rcases hA with ⟨g1, g2⟩ | ⟨g1, g2⟩
  ·exact .inl ⟨fun c hc => by rw [eX c hc]; exact g1 c hc, g2⟩
  ·refine .inr ⟨?_, ?_⟩
   ·rw [qA8 eX eX]; exact g1
   ·rw [qA8 eX eX, qA8 eY eX]; exact g2
structure GB (rows : List (List Rat)) (ws : List Rat) (V A : Nat) : Prop where
 P : LeT V (gsR rows ws).P
 H : LeT V (gsR rows ws).H
 M : ∀ (i : Nat) sh long, (gsR rows ws).H[i]? = some sh -> i <= long -> ∀ x ∈ molR sh long, Le V x
 A : ∀ k j, k < rows.length -> j < k -> Le A (gsA rows ws k j)
theorem qCi {xs : List Rat} {x : Rat} (h : x ∈ xs) : ∃ c, c < xs.length /\ xs.getD c 0 = x := by
 obtain ⟨i, hi⟩ := jDz h
 exact ⟨i, (jAr.mp hi).1, by simp [hi]⟩
theorem gs_GB {b q s V A : Nat} (hR : Wide rows n) (hw : ws.length = n) (hp : ∀ c, c < n -> 0 < Vf ws c) (hb : LeT b rows) (hq : ∀ x ∈ ws, Le q x) (hs : n <= 2 ^ s)
  (hV : b * n + 1 + vt (b * n + 1) (q * n + 1 + s + 1) (rows.length - 1) <= V) (hA : b * n + 1 + 2 * V + (q * n + 1 + s + 1) <= A) : GB rows ws V A := by
 have B := gs_bd hR hw hp hb hq hs
 have mono : ∀ k, k < rows.length -> b * n + 1 + vt (b * n + 1) (q * n + 1 + s + 1) k <= V := fun k hk => by
  have := qDr (b * n + 1) (q * n + 1 + s + 1) (show k <= rows.length - 1 by omega)
  omega
 have X : ∀ k, k < rows.length -> ∀ c, Le V (gX rows ws n k c) := fun k hk c => ((B k hk).1.le c).mono (mono k hk)
 have hV0 : 0 < V := by omega
 have hPl := (qAn ws rows).1
 have hHl := (qAn ws rows).2
 have hM : ∀ (i : Nat) sh, (gsR rows ws).H[i]? = some sh -> ∀ j, Le V ((if j = i then 1 else 0) - sh.getD j 0) := fun i sh hi j => by
  have hil : i < rows.length := by rw [<- hHl]; exact (jAr.mp hi).1
  have := X i hil (n + j)
  unfold gX at this
  rw [if_neg (by omega), jEo, qA2 hi] at this
  exact this
 refine ⟨fun r hr x hx => ?_, fun sh hsh x hx => ?_, fun i sh long hi hl x hx => ?_, fun k j hk hj => ?_⟩
 ·obtain ⟨k, hk⟩ := jDz hr
  have hkl : k < rows.length := by rw [<- hPl]; exact (jAr.mp hk).1
  obtain ⟨c, hc, rfl⟩ := qCi hx
  have := X k hkl c
  unfold gX at this
  rw [if_pos (by rw [<- qCd (ws := ws) hR r hr]; exact hc), qA2 hk] at this
  exact this
 ·obtain ⟨k, hk⟩ := jDz hsh
  obtain ⟨j, hj, rfl⟩ := qCi hx
  have := hM k sh hk j
  rw [qBy hk] at hj
  rw [if_neg (by omega)] at this
  have h2 := this.neg
  rw [show -(0 - sh.getD j 0) = sh.getD j 0 by grind] at h2
  exact h2
 ·obtain ⟨j, hj, rfl⟩ := qCi hx
  have hsl := qBy hi
  rw [qA9 (by omega)] at hj
  rw [qDm (by omega) j hj, hsl]
  exact hM i sh hi j
 ·refine ((B k hk).2 j hj).mono ?_
  have := mono j (by omega)
  omega
end
end Nm
end
section
namespace Nm
open Np PySem
theorem PtR.snoc {S S' : Sto} {t a b : Nat} {as bs : List Nat} {P H : List (List Rat)} {l h : List Rat} (p : PtR S t as bs P H) (ha : RowA S a l) (hb : RowA S b h) (hat : a ≠ t) (hbt : b ≠ t) (h1 : ∀ x ∈ as, x ≠ t) (h2 : ∀ x ∈ bs, x ≠ t) (k : ∀ x, x ≠ t -> zH S' x = zH S x)
  (ht : zH S' t = some (jDd (fun a b => D.tup [.ref a, .ref b]) as bs ++ [.tup [.ref a, .ref b]])) : PtR S' t (as ++ [a]) (bs ++ [b]) (P ++ [l]) (H ++ [h]) := by
 have e : as.length = bs.length := by rw [p.la, p.lb]
 refine ⟨by rw [ht, List.zipWith_append e]; rfl, by simp [p.la], by simp [p.lb], by simp [p.lh], fun i x r hx hr => ?_, fun i x r hx hr => ?_⟩
 ·show zH S' x = _
  rcases qCk hx with ⟨hi, hx⟩ | ⟨rfl, rfl⟩
  ·rw [jBr (by rw [<- p.la]; exact hi)] at hr
   rw [k x (h1 x (zK hx))]
   exact p.left i x r hx hr
  ·rw [p.la, jBp (jAx _)] at hr
   simp at hr
   subst hr
   rw [k x hat]
   exact ha
 ·show zH S' x = _
  rcases qCk hx with ⟨hi, hx⟩ | ⟨rfl, rfl⟩
  ·rw [jBr (by rw [p.lh, <- p.lb]; exact hi)] at hr
   rw [k x (h2 x (zK hx))]
   exact p.shs i x r hx hr
  ·rw [p.lb, <- p.lh, jBp (jAx _)] at hr
   simp at hr
   subst hr
   rw [k x hbt]
   exact hb
theorem lefts_w {S : Sto} {t c n b q V A : Nat} {ts : List Nat} {rows : List (List Rat)} {ws : List Rat} {Q : D -> Sto -> Prop} (ht : TabR S t ts rows) (hc : RowA S c ws) (hR : Wide rows n) (hw : ws.length = n) (hp : ∀ c, c < n -> 0 < Vf ws c) (hb : LeT b rows) (hq : ∀ x ∈ ws, Le q x) (B : GB rows ws V A)
  (hB1 : (b + V + q + 1) * (n + 1) <= 20000000) (hB2 : (V + V + q + 1) * (n + 1) <= 20000000) (hB3 : (V + A + 1) * (rows.length + 1) <= 20000000) (hn : n < 1000000) (hk2 : rows.length < 1000000)
  (fin : ∀ S' t' as bs, SLe S S' -> S.length <= t' -> PtR S' t' as bs (gsR rows ws).P (gsR rows ws).H -> (∀ a ∈ as, S.length <= a /\ a ≠ t') -> (∀ a ∈ bs, S.length <= a /\ a ≠ t') -> Q (.ref t') S') : W (F.lefts [.ref t, .ref c] S) Q := by
 (unfold F.lefts; refine Np.W_fnF rfl ?_; unfold Den.lefts; simp_all [])
 refine qAw (qAx (by simp) _) fun S1 t' l1 n1 r1 => ?_
 simp_all [qAk (l1.lst ht.1)]
 have hPl := (qAn ws rows).1
 have hHl := (qAn ws rows).2
 have hPw := qCd (ws := ws) hR
 refine qBl (ts.map D.ref) (fun i δ S' => SLe S S' /\ ∃ as bs o, δ = [some (.ref t), some (.ref c), some (.ref t'), o] /\ PtR S' t' as bs ((gsR rows ws).P.take i) ((gsR rows ws).H.take i) /\ (∀ a ∈ as, S.length <= a /\ a ≠ t') /\ ∀ a ∈ bs, S.length <= a /\ a ≠ t') (by rw [qAs (l1.lst ht.1)]; exact jAx _)
  ⟨l1, [], [], _, rfl, ⟨r1, rfl, rfl, rfl, fun i a r h => (by simp at h), fun i a r h => (by simp at h)⟩, fun _ h => (by cases h), fun _ h => (by cases h)⟩ (fun i δ S' h => qBs (h.1.lst ht.1) i) ?_ ?_
 ·rintro i x δ S2 hx ⟨L, as, bs, o, rfl, pt, has, hbs⟩
  obtain ⟨rb, hrb, rfl⟩ := qAr hx
  have hi : i < rows.length := by rw [<- ht.2.1]; exact (jAr.mp hrb).1
  obtain ⟨row, hrow⟩ := zQ hi
  have hrl : row.length = n := hR row (zK hrow)
  have hPi : ((gsR rows ws).P.take i).length = i := by simp; omega
  obtain ⟨eP, eH⟩ := qEy (ws := ws) hrow
  simp_all [qB1 pt.at']
  refine parted_w (n := n) (k := i) (m := b) (V := V) (A := A) (q := q) (L.lst (ht.2.2 i rb row hrb hrow)) pt (L.lst hc) hrl hw hp (fun r hr => hPw r (jDp hr)) (fun j sh hj => ?_) hPi (hb row (zK hrow)) (fun r hr => B.P r (jDp hr)) (fun r hr => B.H r (jDp hr)) (fun x hx => ?_) hq (fun r hr x hx => ?_) hB1 hB2 (jAj (jDq _ (by omega)) hB3) hn (by omega) fun S3 a b' l3 n3a n3b hab ra rb => ?_
  ·rw [jEm] at hj
   split at hj
   ·exact qBy hj
   ·cases hj
  ·obtain ⟨l, hl, rfl⟩ := jB9.mp hx
   obtain ⟨j, hj⟩ := jDz hl
   rw [jEm] at hj
   split at hj
   ·rename_i hji
    have := B.A i j hi hji
    unfold gsA at this
    rw [yD hrow, yD hj] at this
    exact this
   ·cases hj
  ·obtain ⟨sh, hsh, rfl⟩ := jB9.mp hr
   obtain ⟨j, hj⟩ := jDz hsh
   rw [jEm] at hj
   split at hj
   ·exact B.M j sh i hj (by omega) x hx
   ·cases hj
  ·have q1 := qAe pt.at'
   have qL := L.len
   refine W_app (l3.lst pt.at') (by rw [pt.len, hPi]; omega) fun S4 e4 k4 kne4 r4 => ?_
   have pt3 := pt.le l3
   refine ⟨k4 _ (L.trans l3) (by omega), as ++ [a], bs ++ [b'], _, rfl, ?_, fun x hx => ?_, fun x hx => ?_⟩
   ·rw [jDh, jDh, eP, eH, hrl]
    exact pt3.snoc ra rb (by omega) (by omega) (fun x hx => (has x hx).2) (fun x hx => (hbs x hx).2) kne4 r4
   ·rcases jAp.mp hx with h | h
    ·exact has x h
    ·rw [jCj.mp h]; exact ⟨by omega, by omega⟩
   ·rcases jAp.mp hx with h | h
    ·exact hbs x h
    ·rw [jCj.mp h]; exact ⟨by omega, by omega⟩
 ·rintro δ S2 ⟨L, as, bs, o, rfl, pt, has, hbs⟩
  simp_all []
  rw [jBd, ht.2.1, jDm (by omega), jDm (by omega)] at pt
  exact fin S2 t' as bs L n1 pt has hbs
theorem qF3 {xs : List D} (h : ∀ d ∈ xs, d = .bl true) : allB xs = some true := by
 have : xs = jBk xs.length (.bl true) := List.eq_replicate_iff.mpr ⟨rfl, h⟩
 rw [this]
 exact allB_true _
def Al2 (R : D -> D -> Prop) : List D -> List D -> Prop
 | [], [] => True
 | x :: xs, y :: ys => R x y /\ Al2 R xs ys
 | _, _ => False
theorem Al2.len {R : D -> D -> Prop} : ∀ {xs ys : List D}, Al2 R xs ys -> xs.length = ys.length
 | [], [], _ => rfl
 | _ :: _, _ :: _, h => by simp [Al2.len h.2]
 | [], _ :: _, h => h.elim
 | _ :: _, [], h => h.elim
theorem Al2.imp {R R' : D -> D -> Prop} (hi : ∀ x y, R x y -> R' x y) : ∀ {xs ys : List D}, Al2 R xs ys -> Al2 R' xs ys
 | [], [], _ => trivial
 | _ :: _, _ :: _, h => ⟨hi _ _ h.1, Al2.imp hi h.2⟩
 | [], _ :: _, h => h.elim
 | _ :: _, [], h => h.elim
def Al (S : Sto) : Nat -> D -> D -> Prop
 | 0, _, _ => False
 | n + 1, x, y => (∃ i, x = .int i /\ y = .int i) \/ (∃ xs ys, x = .tup xs /\ y = .tup ys /\ xs.length <= 1000 /\ Al2 (Al S n) xs ys) \/ ∃ a b xs ys, x = .ref a /\ y = .ref b /\ zH S a = some xs /\ zH S b = some ys /\ xs.length <= 1000 /\ Al2 (Al S n) xs ys
theorem Al.mono {S S' : Sto} (l : SLe S S') : ∀ {n : Nat} {x y : D}, Al S n x y -> Al S' n x y
 | 0, _, _, h => h.elim
 | n + 1, x, y, h => by
  rcases h with h | ⟨xs, ys, h1, h2, h3, h4⟩ | ⟨a, b, xs, ys, h1, h2, h3, h4, h5, h6⟩
  ·exact .inl h
  ·exact .inr (.inl ⟨xs, ys, h1, h2, h3, h4.imp fun _ _ h => Al.mono l h⟩)
  ·exact .inr (.inr ⟨a, b, xs, ys, h1, h2, l.lst h3, l.lst h4, h5, h6.imp fun _ _ h => Al.mono l h⟩)
def Bt (a : Nat) (S S' : Sto) : Prop := S.length <= S'.length /\ ∀ b, b < S.length -> b ≠ a -> S'[b]? = S[b]?
theorem _root_.Np.SLe.bt {S S' : Sto} (h : SLe S S') (a : Nat) : Bt a S S' := ⟨h.len, fun _ hb _ => h.get hb⟩
theorem Bt.trans {a : Nat} {S S' S'' : Sto} (h : Bt a S S') (k : Bt a S' S'') : Bt a S S'' := ⟨jAj h.1 k.1, fun b hb hn => by rw [k.2 b (jAd hb h.1) hn, h.2 b hb hn]⟩
theorem Bt.set {S : Sto} (a : Nat) (o : O) : Bt a S (S.set a o) := ⟨by simp, fun b _ hn => jAt (Ne.symm hn)⟩
theorem Bt.lst {a b : Nat} {S S' : Sto} {xs : List D} (h : Bt a S S') (hn : b ≠ a) (e : zH S b = some xs) : zH S' b = some xs := by rw [qDo (h.2 b (qAe e) hn)]; exact e
theorem qFl {S S' : Sto} {a : Nat} (h : S'[a]? = S[a]?) : qAu S' a = qAu S a := by unfold qAu; rw [h]
theorem qCj {S : Sto} {a : Nat} {c : Str} {fs : List (Str × D)} (h : qAu S a = some (c, fs)) : a < S.length := (jAr.mp (qC9 h)).1
theorem Bt.ins {a b : Nat} {S S' : Sto} {c : Str} {fs : List (Str × D)} (h : Bt a S S') (hn : b ≠ a) (e : qAu S b = some (c, fs)) : qAu S' b = some (c, fs) := by rw [qFl (h.2 b (qCj e) hn)]; exact e
theorem _root_.Np.SLe.ins {S S' : Sto} {b : Nat} {c : Str} {fs : List (Str × D)} (h : SLe S S') (e : qAu S b = some (c, fs)) : qAu S' b = some (c, fs) := by rw [qFl (h.get (qCj e))]; exact e
theorem qBb {S : Sto} {a b : Nat} {c : Str} {fs : List (Str × D)} {xs : List D} (h : qAu S a = some (c, fs)) (k : zH S b = some xs) : a ≠ b := fun e => by
 subst e
 unfold zH at k
 rw [qC9 h] at k
 cases k
structure Pt where
 num : Nat
 row : List Rat
 want : Rat
 wt : Rat
def ptD (x : Pt × Nat) : D := .tup [.int (x.1.num : Int), .ref x.2, ratD x.1.want, ratD x.1.wt]
def PtsA (S : Sto) (k : Nat) (q : List (Pt × Nat)) : Prop := zH S k = some (q.map ptD) /\ ∀ x ∈ q, RowA S x.2 x.1.row
theorem PtsA.mono {S S' : Sto} {k : Nat} {q : List (Pt × Nat)} (h : PtsA S k q) (l : SLe S S') : PtsA S' k q := ⟨l.lst h.1, fun x hx => l.lst (h.2 x hx)⟩
theorem PtsA.bt {S S' : Sto} {a k : Nat} {q : List (Pt × Nat)} (h : PtsA S k q) (l : Bt a S S') (hk : k ≠ a) (hq : ∀ x ∈ q, x.2 ≠ a) : PtsA S' k q := ⟨l.lst hk h.1, fun x hx => l.lst (hq x hx) (h.2 x hx)⟩
abbrev plF (ss : Nat) : List (Str × D) := [(("states" : Str), .ref ss)]
abbrev stF (a b c : D) : List (Str × D) := [(("wide" : Str), a), (("laid" : Str), b), (("kept" : Str), c)]
structure Pl (S : Sto) (p ss st k : Nat) (xs : List D) (w l : Nat) (q : List (Pt × Nat)) : Prop where
 pl : qAu S p = some (("Plane" : Str), plF ss)
 sl : zH S ss = some (xs ++ [.ref st])
 st : qAu S st = some (("State" : Str), stF (.int (w : Int)) (.int (l : Int)) (.ref k))
 kp : PtsA S k q
theorem Pl.mono {S S' : Sto} {p ss st k : Nat} {xs : List D} {w l : Nat} {q : List (Pt × Nat)} (h : Pl S p ss st k xs w l q) (e : SLe S S') : Pl S' p ss st k xs w l q := ⟨e.ins h.pl, e.lst h.sl, e.ins h.st, h.kp.mono e⟩
theorem Pl.bt {S S' : Sto} {a p ss st k : Nat} {xs : List D} {w l : Nat} {q : List (Pt × Nat)} (h : Pl S p ss st k xs w l q) (e : Bt a S S') (h1 : p ≠ a) (h2 : ss ≠ a) (h3 : st ≠ a) (h4 : k ≠ a) (h5 : ∀ x ∈ q, x.2 ≠ a) : Pl S' p ss st k xs w l q := ⟨e.ins h1 h.pl, e.lst h2 h.sl, e.ins h3 h.st, h.kp.bt e h4 h5⟩
theorem qBk {S : Sto} {a : Nat} {c f : Str} {fs : List (Str × D)} {d : D} (h : qAu S a = some (c, fs)) (hl : fs.lookup f = some d) : fldD c f (.ref a) S = ok d S := by
 unfold fldD
 simp only [h, hl, if_true]
theorem methK_eq {S : Sto} {a : Nat} {c m : Str} {fs : List (Str × D)} {Fm : List D -> Sto -> R D} {as : DA} {δ : DS} (h : qAu S a = some (c, fs)) (hl : fs.lookup m = none) : methK c m Fm as δ (.ref a) S = bnd (as δ S) (qBe Fm (.ref a)) := by
 unfold methK
 simp only [h, hl, and_self, if_true]
theorem ixD_last {S : Sto} {a : Nat} {xs : List D} {d : D} (h : zH S a = some (xs ++ [d])) : ixD (.ref a) (.int (-1)) S = ok d S := by
 show ixK (zH S a) (-1) S = _
 rw [h]
 have : ixA (xs ++ [d]).length (-1) = some xs.length := by
  unfold ixA
  rw [if_neg (by decide), if_pos (by simp; omega)]
  simp
  omega
 unfold ixK
 simp only [this, jC3]
 simp
section
variable {S : Sto} {p ss st k : Nat} {xs : List D} {w l : Nat} {q : List (Pt × Nat)}
theorem Pl.f1 (h : Pl S p ss st k xs w l q) : fldD "Plane" "states" (.ref p) S = ok (.ref ss) S := qBk h.pl rfl
theorem Pl.f2 (h : Pl S p ss st k xs w l q) : ixD (.ref ss) (.int (-1)) S = ok (.ref st) S := ixD_last h.sl
theorem Pl.f3 (h : Pl S p ss st k xs w l q) : fldD "State" "wide" (.ref st) S = ok (.int (w : Int)) S := qBk h.st rfl
theorem Pl.f4 (h : Pl S p ss st k xs w l q) : fldD "State" "laid" (.ref st) S = ok (.int (l : Int)) S := qBk h.st rfl
theorem Pl.f5 (h : Pl S p ss st k xs w l q) : fldD "State" "kept" (.ref st) S = ok (.ref k) S := qBk h.st rfl
theorem ins_push (S : Sto) (c : Str) (fs : List (Str × D)) : qAu (S ++ [O.ins c fs]) S.length = some (c, fs) := by simp [qAu]
end
end Nm
end
section
namespace Nm
open Np PySem
theorem rats_tup (xs : List Rat) : ∀ d ∈ xs.map ratD, ∃ zs, d = .tup zs := fun d h => by
 obtain ⟨q, _, rfl⟩ := jB9.mp h
 exact ⟨_, rfl⟩
theorem pts_tup (q : List (Pt × Nat)) : ∀ d ∈ q.map ptD, ∃ zs, d = .tup zs := fun d h => by
 obtain ⟨x, _, rfl⟩ := jB9.mp h
 exact ⟨_, rfl⟩
theorem less52_eq {p q : Rat} (hp : sm p) (hq : sm q) (S : Sto) : F.less [ratD p, ratD q] S = ok (.bl (decide (p.num * (q.den : Int) < q.num * (p.den : Int)))) S := by
 refine W_eq ?_
 (unfold F.less; refine Np.W_fnF rfl ?_; unfold Den.less; simp_all [])
 simp_all [qAi (hp.nd hq), qAi (hq.nd hp)]
theorem is_wide_eq {w : Nat} (h : w <= 12) (S : Sto) : F.is_wide [.int (w : Int)] S = ok (.bl true) S := by
 refine W_eq ?_
 (unfold F.is_wide; refine Np.W_fnF rfl ?_; unfold Den.is_wide; simp_all [])
 have h1 : (0 : Int) <= (w : Int) := by omega
 have h2 : (w : Int) <= 12 := by omega
 simp_all [whole_int, h1, h2]
theorem is_weight_eq {q : Rat} (hq : sm q) (h : 0 < q.num) (S : Sto) : F.is_weight [ratD q] S = ok (.bl true) S := by
 refine W_eq ?_
 (unfold F.is_weight; refine Np.W_fnF rfl ?_; unfold Den.is_weight; simp_all [])
 have h0 : sm 0 := ⟨by decide, by decide⟩
 have h1 : (0 : Rat).num * (q.den : Int) < q.num * ((0 : Rat).den : Int) := by
  rw [show (0 : Rat).num = 0 from rfl, show (0 : Rat).den = 1 from rfl]
  omega
 simp_all [qCc, rat0, less52_eq h0 hq, h1]
theorem is_rowR_w {S : Sto} {a : Nat} {xs : List Rat} (ha : RowA S a xs) (hl : xs.length <= 1000) : W (F.is_row [.ref a, .int (xs.length : Int)] S) fun d S' => d = .bl true /\ SLe S S' := by
 (unfold F.is_row; refine Np.W_fnF rfl ?_; unfold Den.is_row; simp_all [])
 have c1 := qFy (base := [some (.ref a), some (.int (xs.length : Int))]) (it := itE itL (vr 0)) (e := fnE F.is_ratio (yH (vr 2) aNil)) (g := fun _ => .bl true) (by simp only [Np.itA, Np.itE, Np.yH, Np.aConsK, Np.aNil, Np.consK, Np.vr, Np.cst, jC6, jCb, Np.bnd_ok]; exact qAk ha) ha (by omega) fun x hx => by
  simp only [jC5, jB5]
  unfold fnE yH aNil aConsK consK vr
  simp only [jC6, jCb, bnd_ok]
  exact qCc x S
 simp only [jA7, jC4, jC7] at c1
 simp_all [qBj ha, qAz ha, jBd, c1, qDq (qAd S _) (qF3 (xs := xs.map fun _ => D.bl true) fun d hd => by obtain ⟨_, _, rfl⟩ := jB9.mp hd; rfl)]
 exact ⟨trivial, SLe.app _⟩
theorem is_point_w {S : Sto} {a : Nat} {xs : List Rat} {want wt : Rat} (ha : RowA S a xs) (hl : xs.length <= 1000) (hq : sm wt) (h : 0 < wt.num) : W (F.is_point [.tup [.ref a, ratD want, ratD wt], .int (xs.length : Int)] S) fun d S' => d = .bl true /\ SLe S S' := by
 (unfold F.is_point; refine Np.W_fnF rfl ?_; unfold Den.is_point; simp_all [])
 simp_all [show (((3 : Nat) : Int) = 3) from rfl, tix0, tix1, tix2]
 refine (is_rowR_w ha hl).mono ?_
 rintro d S' ⟨rfl, l⟩
 simp_all [qCc, is_weight_eq hq h, tix1, tix2]
 exact ⟨trivial, l⟩
def Bts (L : List Nat) (S S' : Sto) : Prop := S.length <= S'.length /\ ∀ b, b < S.length -> b ∉ L -> S'[b]? = S[b]?
theorem Bts.rfl {L : List Nat} {S : Sto} : Bts L S S := ⟨jAx _, fun _ _ _ => Eq.refl _⟩
theorem Bts.trans {L : List Nat} {S S' S'' : Sto} (h : Bts L S S') (k : Bts L S' S'') : Bts L S S'' := ⟨jAj h.1 k.1, fun b hb hn => by rw [k.2 b (jAd hb h.1) hn, h.2 b hb hn]⟩
theorem Bts.lst {L : List Nat} {b : Nat} {S S' : Sto} {xs : List D} (h : Bts L S S') (hn : b ∉ L) (e : zH S b = some xs) : zH S' b = some xs := by rw [qDo (h.2 b (qAe e) hn)]; exact e
theorem Bts.ins {L : List Nat} {b : Nat} {S S' : Sto} {c : Str} {fs : List (Str × D)} (h : Bts L S S') (hn : b ∉ L) (e : qAu S b = some (c, fs)) : qAu S' b = some (c, fs) := by rw [qFl (h.2 b (qCj e) hn)]; exact e
theorem lst_ne {S : Sto} {a b : Nat} {xs ys : List D} (h : zH S a = some xs) (k : zH S b = some ys) (hn : xs ≠ ys) : a ≠ b := fun e => by
 subst e
 rw [h] at k
 exact hn (Option.some.inj k)
theorem Pl.meth {S : Sto} {p ss st k : Nat} {xs : List D} {w l : Nat} {q : List (Pt × Nat)} (h : Pl S p ss st k xs w l q) {m : Str} {Fm : List D -> Sto -> R D} {as : DA} {δ : DS} (hm : (m == ("states" : Str)) = false) : methK "Plane" m Fm as δ (.ref p) S = bnd (as δ S) (qBe Fm (.ref p)) := methK_eq h.pl (by simp [plF, jBa, hm])
structure Ls (S : Sto) (s ps w l : Nat) (r : List (Pt × Nat)) : Prop where
 st : zH S s = some [.int (w : Int), .ref ps, .int (l : Int)]
 pt : PtsA S ps r
 nd : (r.map (·.2)).Nodup
theorem Ls.mono {S S' : Sto} {s ps w l : Nat} {r : List (Pt × Nat)} (h : Ls S s ps w l r) (e : SLe S S') : Ls S' s ps w l r := ⟨e.lst h.st, h.pt.mono e, h.nd⟩
theorem Ls.bt {S S' : Sto} {a s ps w l : Nat} {r : List (Pt × Nat)} (h : Ls S s ps w l r) (e : Bt a S S') (h1 : s ≠ a) (h2 : ps ≠ a) (h3 : ∀ x ∈ r, x.2 ≠ a) : Ls S' s ps w l r := ⟨e.lst h1 h.st, h.pt.bt e h2 h3, h.nd⟩
structure Two (S : Sto) (p s ss st k ps : Nat) (xs : List D) (w l : Nat) (q r : List (Pt × Nat)) (w' l' : Nat) : Prop where
 P : Pl S p ss st k xs w l q
 L : Ls S s ps w' l' r
 kp : k ≠ ps
 qr : ∀ x ∈ q, ∀ y ∈ r, x.2 ≠ y.2
section
variable {S S' : Sto} {p s ss st k ps : Nat} {xs : List D} {w l w' l' : Nat} {q r : List (Pt × Nat)}
theorem Two.mono (h : Two S p s ss st k ps xs w l q r w' l') (e : SLe S S') : Two S' p s ss st k ps xs w l q r w' l' := ⟨h.P.mono e, h.L.mono e, h.kp, h.qr⟩
theorem Two.ss_s (h : Two S p s ss st k ps xs w l q r w' l') : ss ≠ s := lst_ne h.P.sl h.L.st fun e => by
 have := congrArg List.getLast? e
 simp at this
theorem Two.s_tup (h : Two S p s ss st k ps xs w l q r w' l') {a : Nat} {ys : List D} (ha : zH S a = some ys) (hy : ∀ d ∈ ys, ∃ zs, d = .tup zs) : a ≠ s := lst_ne ha h.L.st fun e => by
 obtain ⟨zs, e⟩ := hy (.int (w' : Int)) (by rw [e]; simp)
 cases e
theorem Two.p_s (h : Two S p s ss st k ps xs w l q r w' l') {a : Nat} {ys : List D} (ha : zH S a = some ys) : p ≠ a := qBb h.P.pl ha
theorem Two.st_s (h : Two S p s ss st k ps xs w l q r w' l') {a : Nat} {ys : List D} (ha : zH S a = some ys) : st ≠ a := qBb h.P.st ha
theorem Two.lt (h : Two S p s ss st k ps xs w l q r w' l') : p < S.length /\ ss < S.length /\ st < S.length /\ k < S.length /\ (∀ x ∈ q, x.2 < S.length) /\ s < S.length /\ ps < S.length /\ ∀ x ∈ r, x.2 < S.length :=
 ⟨qCj h.P.pl, qAe h.P.sl, qCj h.P.st, qAe h.P.kp.1, fun x hx => qAe (h.P.kp.2 x hx), qAe h.L.st, qAe h.L.pt.1, fun x hx => qAe (h.L.pt.2 x hx)⟩
theorem Two.setS (h : Two S p s ss st k ps xs w l q r w' l') {w2 l2 : Nat} (e : zH S' s = some [.int (w2 : Int), .ref ps, .int (l2 : Int)]) (b : Bt s S S') : Two S' p s ss st k ps xs w l q r w2 l2 :=
 ⟨h.P.bt b (h.p_s h.L.st) h.ss_s (h.st_s h.L.st) (h.s_tup h.P.kp.1 (pts_tup _)) fun x hx => h.s_tup (h.P.kp.2 x hx) (rats_tup _), ⟨e, h.L.pt.bt b (h.s_tup h.L.pt.1 (pts_tup _)) fun x hx => h.s_tup (h.L.pt.2 x hx) (rats_tup _), h.L.nd⟩, h.kp, h.qr⟩
end
structure Ok (n w l : Nat) (ts : List Pt) : Prop where
 len : ts.length <= n
 wide : w <= 12
 laid : l <= n
 nums : (ts.map (·.num)).Nodup
 each : ∀ t ∈ ts, t.num < l /\ t.row.length = w /\ (∀ x ∈ t.row, Le 150 x) /\ Le 70 t.want /\ Le 70 t.wt /\ 0 < t.wt.num
def Bo (S : Sto) (p s n w l : Nat) (ts : List Pt) : Prop := ∃ ss st k ps xs q r, Two S p s ss st k ps xs w l q r w l /\ q.map (·.1) = ts /\ r.map (·.1) = ts /\ xs.length <= n /\ Ok n w l ts
theorem Bo.mono {S S' : Sto} {p s n w l : Nat} {ts : List Pt} (h : Bo S p s n w l ts) (e : SLe S S') : Bo S' p s n w l ts := by
 obtain ⟨ss, st, k, ps, xs, q, r, h1, h2⟩ := h
 exact ⟨ss, st, k, ps, xs, q, r, h1.mono e, h2⟩
end Nm
end
section
namespace Nm
open Np PySem
section
variable {S : Sto} {p s n w l : Nat} {ts : List Pt}
theorem qAb {A B : DSt} {δ : DS} {Q : Fl -> Sto -> Prop} (P : DS -> Sto -> Prop) (h : W (A δ S) fun fl S' => ∃ δ', fl = .nx δ' /\ P δ' S') (k : ∀ δ' S', P δ' S' -> W (B δ' S') Q) : W (seqS A B δ S) Q := by
 unfold seqS
 rw [W_bnd]
 refine h.mono ?_
 rintro fl S' ⟨δ', rfl, hp⟩
 exact k δ' S' hp
end
end Nm
end
section
namespace Nm
open Np PySem
theorem PtR.keep {S S' : Sto} {t : Nat} {as bs : List Nat} {P H : List (List Rat)} (h : PtR S t as bs P H) (k : ∀ x, x = t \/ x ∈ as \/ x ∈ bs -> zH S' x = zH S x) : PtR S' t as bs P H :=
 ⟨by rw [k t (.inl rfl)]; exact h.at', h.la, h.lb, h.lh, fun i a r h1 h2 => by
  show zH S' a = _
  rw [k a (.inr (.inl (zK h1)))]
  exact h.left i a r h1 h2, fun i a r h1 h2 => by
  show zH S' a = _
  rw [k a (.inr (.inr (zK h1)))]
  exact h.shs i a r h1 h2⟩
theorem wpos {ws : List Rat} {n : Nat} (hw : ws.length = n) (h : ∀ x ∈ ws, 0 < x) : ∀ c, c < n -> 0 < Vf ws c := fun c hc => h _ (qFr (by omega))
theorem snoc_at (rows : List (List Rat)) (row : List Rat) : (rows ++ [row])[rows.length]? = some row := by simp
theorem gsR_init (rows : List (List Rat)) (row ws : List Rat) : (gsR (rows ++ [row]) ws).P.take rows.length = (gsR rows ws).P /\ (gsR (rows ++ [row]) ws).H.take rows.length = (gsR rows ws).H := by
 have := gsR_pre ws (rows ++ [row]) (i := rows.length) (rows ++ [row]).length (by simp) (jAx _)
 rw [jDi] at this
 simpa using this
theorem ex_snoc {α : Type} {xs : List α} {m : Nat} (h : xs.length = m + 1) : ∃ ys y, xs = ys ++ [y] /\ ys.length = m := by
 have hne : xs ≠ [] := fun z => by rw [z] at h; cases h
 exact ⟨xs.dropLast, xs.getLast hne, (List.dropLast_concat_getLast hne).symm, by simp [h]⟩
theorem memT_nats (k : Nat) : ∀ fs : List Nat, memT (.int (k : Int)) (fs.map fun (i : Nat) => Np.T.int (i : Int)) = decide (k ∈ fs)
 | [] => by simp [memT]
 | f :: fs => by
  simp only [jBb, memT, memT_nats k fs, eqT]
  by_cases h : k = f
  ·subst h; simp
  ·have : ¬ ((k : Int) = (f : Int)) := by omega
   by_cases h2 : k ∈ fs <;> simp [h, h2, this]
theorem qFm {S : Sto} {a k : Nat} {fs : List Nat} (h : zH S a = some (fs.map natD)) : inD (.int (k : Int)) (.ref a) S = ok (.bl (decide (k ∈ fs))) S := by
 have e : rdl (rd 8 S) (fs.map natD) = some (fs.map fun (i : Nat) => Np.T.int (i : Int)) := qE8 natD (fun i => Np.T.int (i : Int)) (fun i => qDf 8 S i) fs
 have h8 : rd 8 S (.int (k : Int)) = some (.int (k : Int)) := qDf 8 S k
 unfold inD inA
 simp only [h, h8, e, memT_nats]
 simp
theorem qC7 {b n : Nat} {T : List (List Rat)} (h : LeT b T) (hb : 0 < b) : LeT b (qAo T n) := fun r hr x hx => by
 obtain ⟨i, _, rfl⟩ := jB9.mp hr
 obtain ⟨q, hq, rfl⟩ := jB9.mp hx
 exact le_getD (h q hq) hb i
theorem qE1 {S : Sto} {f : Nat} {c fl : Str} {v : D} {fs : List (Str × D)} {δ : DS} {Q : Fl -> Sto -> Prop} (h : qAu S f = some (c, fs)) (hl : fs.length < 900) (k : ∀ S', S'.length = S.length -> qAu S' f = some (c, putD fl v fs) -> (∀ b xs, zH S b = some xs -> zH S' b = some xs) -> (∀ S0, SLe S0 S -> S0.length <= f -> SLe S0 S') -> Q (.nx δ) S') : W (setfA c fl v δ (.ref f) S) Q := by
 have e : setfA c fl v δ (.ref f) S = ok (.nx δ) (S.set f (.ins c (putD fl v fs))) := by
  unfold setfA
  simp only [h]
  rw [if_pos ⟨trivial, hl⟩]
 refine W.intro e (k _ (by simp) ?_ (fun b xs hb => (Bt.set f _).lst (qBb h hb).symm hb) fun S0 l hf => l.set hf _)
 have := qCj h
 simp [qAu, this]
def tpD (x : Pt × Nat) : D := .tup [.ref x.2, ratD x.1.want, ratD x.1.wt]
abbrev ftF (w : Nat) (c wa we pa : Nat) (nr : D) : List (Str × D) := [(("wide" : Str), .int (w : Int)), (("columns" : Str), .ref c), (("wants" : Str), .ref wa), (("weights" : Str), .ref we), (("parts" : Str), .ref pa), (("near" : Str), nr)]
structure FtA (S : Sto) (f w : Nat) (ts : List Pt) (c wa we pa n1 n2 : Nat) (cs as bs : List Nat) : Prop where
 ins : qAu S f = some (("Fit" : Str), ftF w c wa we pa (.tup [.ref n1, .ref n2]))
 col : TabR S c cs (qAo (ts.map (·.row)) w)
 wan : RowA S wa (ts.map (·.want))
 wei : RowA S we (ts.map (·.wt))
 par : PtR S pa as bs (gsR (qAo (ts.map (·.row)) w) (ts.map (·.wt))).P (gsR (qAo (ts.map (·.row)) w) (ts.map (·.wt))).H
 nea : RowA S n1 (zR (gsR (qAo (ts.map (·.row)) w ++ [ts.map (·.want)]) (ts.map (·.wt))).P w)
 sha : RowA S n2 (zR (gsR (qAo (ts.map (·.row)) w ++ [ts.map (·.want)]) (ts.map (·.wt))).H w)
theorem FtA.mono {S S' : Sto} {f w c wa we pa n1 n2 : Nat} {ts : List Pt} {cs as bs : List Nat} (h : FtA S f w ts c wa we pa n1 n2 cs as bs) (l : SLe S S') : FtA S' f w ts c wa we pa n1 n2 cs as bs :=
 ⟨l.ins h.ins, ⟨l.lst h.col.1, h.col.2.1, fun i b r h1 h2 => l.lst (h.col.2.2 i b r h1 h2)⟩, l.lst h.wan, l.lst h.wei, h.par.le l, l.lst h.nea, l.lst h.sha⟩
theorem gb_8 {rows : List (List Rat)} {ws : List Rat} {n : Nat} (hR : Wide rows n) (hw : ws.length = n) (hp : ∀ c, c < n -> 0 < Vf ws c) (hb : LeT 150 rows) (hq : ∀ x ∈ ws, Le 70 x) (hn : n <= 8) (hl : rows.length <= 5) : GB rows ws 200000 402000 := by
 have e1 : 150 * n + 1 <= 1201 := by omega
 have e2 : 70 * n + 1 + 3 + 1 <= 565 := by omega
 have hmono : ∀ k u e u' e', u <= u' -> e <= e' -> vt u e k <= vt u' e' k := by
  intro k u e u' e' h1 h2
  induction k with
  | zero => exact jAx _
  | succ k ih => simp only [vt]; omega
 have h4 : vt (150 * n + 1) (70 * n + 1 + 3 + 1) (rows.length - 1) <= vt 1201 565 4 := jAj (hmono _ _ _ _ _ e1 e2) (qDr _ _ (by omega))
 have e4 : vt 1201 565 4 <= 190000 := by decide
 refine gs_GB (s := 3) hR hw hp hb hq (by omega) ?_ ?_ <;> omega
theorem rat_pos {x : Rat} (h : 0 < x.num) : 0 < x := by
 have := Rat.num_nonneg (q := x)
 rcases Rat.le_iff_lt_or_eq.mp (this.mp (by omega)) with z | z
 ·exact z
 ·rw [<- z] at h
  exact absurd h (by decide)
theorem GB.mono {rows : List (List Rat)} {ws : List Rat} {V A V' A' : Nat} (h : GB rows ws V A) (h1 : V <= V') (h2 : A <= A') : GB rows ws V' A' := ⟨fun r hr x hx => (h.P r hr x hx).mono h1, fun r hr x hx => (h.H r hr x hx).mono h1, fun i sh long h3 h4 x hx => (h.M i sh long h3 h4 x hx).mono h1, fun k j h3 h4 => (h.A k j h3 h4).mono h2⟩
abbrev colP (w : Nat) (ts : List Pt) : List (List Rat) := qAo (ts.map (·.row)) w
structure Sml (w : Nat) (ts : List Pt) : Prop where
 wide : w <= 12
 len : ts.length <= 60
 each : ∀ t ∈ ts, t.row.length = w /\ (∀ x ∈ t.row, Le 150 x) /\ Le 70 t.want /\ Le 70 t.wt /\ 0 < t.wt.num
 ex : ∃ V A, GB (colP w ts) (ts.map (·.wt)) V A /\ GB (colP w ts ++ [ts.map (·.want)]) (ts.map (·.wt)) V A /\ (V + V + 221) * (ts.length + 1) <= 20000000 /\ (V + A + 1) * (w + 1) <= 20000000 /\ V <= 20000000
theorem Sml.pos {w : Nat} {ts : List Pt} (h : Sml w ts) : ∀ c, c < ts.length -> 0 < Vf (ts.map (·.wt)) c := wpos (by simp) fun x hx => by
 obtain ⟨t, ht, rfl⟩ := jB9.mp hx
 exact rat_pos (h.each t ht).2.2.2.2
theorem pos_of {ts : List Pt} (h : ∀ t ∈ ts, 0 < t.wt.num) : ∀ c, c < ts.length -> 0 < Vf (ts.map (·.wt)) c := wpos (by simp) fun x hx => by
 obtain ⟨t, ht, rfl⟩ := jB9.mp hx
 exact rat_pos (h t ht)
theorem Sml.mk' {w B Q V A : Nat} {ts : List Pt} (hw : w <= 12) (hl : ts.length <= 60) (hB : 0 < B) (hB' : B <= 150) (hQ : Q <= 70) (each : ∀ t ∈ ts, t.row.length = w /\ (∀ x ∈ t.row, Le B x) /\ Le 70 t.want /\ Le Q t.wt /\ 0 < t.wt.num) (hwa : ∀ t ∈ ts, Le B t.want)
  (gb : ∀ rows : List (List Rat), Wide rows ts.length -> LeT B rows -> (∀ x ∈ ts.map (·.wt), Le Q x) -> (∀ c, c < ts.length -> 0 < Vf (ts.map (·.wt)) c) -> rows.length <= w + 1 -> GB rows (ts.map (·.wt)) V A) (c1 : (V + V + 221) * (ts.length + 1) <= 20000000) (c2 : (V + A + 1) * (w + 1) <= 20000000) (c3 : V <= 20000000) : Sml w ts := by
 have W0 : Wide (colP w ts) ts.length := by
  have := qCg (ts.map (·.row)) w
  rwa [jBd] at this
 have R0 : LeT B (colP w ts) := qC7 (fun r hr x hx => by
  obtain ⟨t, ht, rfl⟩ := jB9.mp hr
  exact (each t ht).2.1 x hx) hB
 have q0 : ∀ x ∈ ts.map (·.wt), Le Q x := fun x hx => by
  obtain ⟨t, ht, rfl⟩ := jB9.mp hx
  exact (each t ht).2.2.2.1
 have p0 := pos_of fun t ht => (each t ht).2.2.2.2
 have cl : (colP w ts).length = w := qA3 _ _
 refine ⟨hw, hl, fun t ht => ?_, V, A, gb _ W0 R0 q0 p0 (by omega), gb _ (fun r hr => ?_) (fun r hr => ?_) q0 p0 (by rw [jBu, cl]; simp), c1, c2, c3⟩
 ·obtain ⟨a, b, c, d, e⟩ := each t ht
  exact ⟨a, fun x hx => (b x hx).mono hB', c, d.mono hQ, e⟩
 ·rcases jAp.mp hr with hr | hr
  ·exact W0 r hr
  ·rw [jCj.mp hr]; simp
 ·rcases jAp.mp hr with hr | hr
  ·exact R0 r hr
  ·rw [jCj.mp hr]
   intro x hx
   obtain ⟨t, ht, rfl⟩ := jB9.mp hx
   exact hwa t ht
theorem Sml.of8 {w : Nat} {ts : List Pt} (hw : w <= 4) (hl : ts.length <= 8) (each : ∀ t ∈ ts, t.row.length = w /\ (∀ x ∈ t.row, Le 150 x) /\ Le 70 t.want /\ Le 70 t.wt /\ 0 < t.wt.num) : Sml w ts :=
 Sml.mk' (B := 150) (Q := 70) (V := 200000) (A := 402000) (by omega) (by omega) (by decide) (by decide) (by decide) each (fun t ht => (each t ht).2.2.1.mono (by decide)) (fun rows hR hb hq hp hl' => gb_8 hR (by simp) hp hb hq hl (by omega)) (by omega) (by omega) (by decide)
theorem are_points_w {S : Sto} {a w : Nat} {q : List (Pt × Nat)} (ha : zH S a = some (q.map tpD)) (hr : ∀ x ∈ q, RowA S x.2 x.1.row) (h : Sml w (q.map (·.1))) : W (F.are_points [.ref a, .int (w : Int)] S) fun d S' => d = .bl true /\ SLe S S' := by
 have hl := h.len
 rw [jBd] at hl
 (unfold F.are_points; refine Np.W_fnF rfl ?_; unfold Den.are_points; simp_all [])
 simp_all [qBj ha]
 refine W_compX (base := [some (.ref a), some (.int (w : Int))]) (k := 1) (fun x => [some x]) (q.map tpD) (fun _ d => d = .bl true) (fun _ => True) (qA4 [some (.ref a), some (.int (w : Int))]) (fun _ _ => trivial) ?_ ?_ ?_
 ·simp_all [qAk ha]
  exact ⟨by rw [qAs ha]; exact jAx _, by rw [qAs ha]; simp; omega, SLe.rfl, fun i S'' l => qBs (l.lst ha) i⟩
 ·intro x S' hx l
  obtain ⟨y, hy, rfl⟩ := jB9.mp hx
  obtain ⟨g1, g2, g3, g4, g5⟩ := h.each y.1 (jB9.mpr ⟨y, hy, rfl⟩)
  have hw := h.wide
  unfold tpD
  simp_all []
  have := is_point_w (want := y.1.want) (l.lst (hr y hy)) (by omega) (g4.sm (by decide)) g5
  rw [g1] at this
  exact this.mono fun d S'' h => h
 ·intro ds S' l hd he
  have : ∀ d ∈ ds, d = .bl true := fun d hm => by
   obtain ⟨i, hi, rfl⟩ := jDj hm
   exact he i ((q.map tpD)[i]'(by omega)) _ (jEn _) (jEn hi)
  simp_all [qDq (qAd S' ds) (qF3 this)]
  exact ⟨trivial, l.push _⟩
theorem comp_tp {e : DE} {base : DS} {S : Sto} {a : Nat} {q : List (Pt × Nat)} {g : Pt × Nat -> D} {it : DI} (hit : it base S = ok (.one a) S) (ha : zH S a = some (q.map tpD)) (hl : q.length <= 1000000) (he : ∀ x, e (base ++ [some (tpD x)]) S = ok (g x) S) (hg : ∃ g' : D -> D, ∀ x, g' (tpD x) = g x) :
  qAj it 1 (setG base.length) e base S = ok (.ref S.length) (S ++ [.lst (q.map g)]) := by
 obtain ⟨g', hg⟩ := hg
 rw [qC3 _ (qA4 base) hit (Has.one ha) (by rw [qAs ha, jBd]; exact hl) (fun _ _ => trivial) (f := g') fun x hx => by
  obtain ⟨y, hy, rfl⟩ := jB9.mp hx
  rw [hg]
  exact he y]
 rw [jCc]
 rw [show (g' ∘ tpD) = g from funext hg]
def at0 : D -> D
 | .tup (x :: _) => x
 | x => x
def at1 : D -> D
 | .tup (_ :: x :: _) => x
 | x => x
def at2 : D -> D
 | .tup (_ :: _ :: x :: _) => x
 | x => x
theorem fit_mk {S : Sto} {a w : Nat} {q : List (Pt × Nat)} (ha : zH S a = some (q.map tpD)) (hr : ∀ x ∈ q, RowA S x.2 x.1.row) (h : Sml w (q.map (·.1))) : W (mkA "Fit" F.Fit___init__ [.ref a, .int (w : Int)] S) fun d S' => SLe S S' /\ ∃ f c wa we pa n1 n2 cs as bs, d = .ref f /\ (S.length <= f /\ S.length <= n2) /\ FtA S' f w (q.map (·.1)) c wa we pa n1 n2 cs as bs := by
 have hl := h.len
 have hw := h.wide
 rw [jBd] at hl
 generalize hts : q.map (·.1) = ts at h
 have lts : ts.length = q.length := by rw [<- hts]; simp
 have hpos := h.pos
 have R0 : LeT 150 (ts.map (·.row)) := fun r hr x hx => by
  obtain ⟨t, ht, rfl⟩ := jB9.mp hr
  exact (h.each t ht).2.1 x hx
 have W0 : Wide (ts.map (·.row)) w := fun r hr => by
  obtain ⟨t, ht, rfl⟩ := jB9.mp hr
  exact (h.each t ht).1
 have hq70 : ∀ x ∈ ts.map (·.wt), Le 70 x := fun x hx => by
  obtain ⟨t, ht, rfl⟩ := jB9.mp hx
  exact (h.each t ht).2.2.2.1
 have hwant : ∀ x ∈ ts.map (·.want), Le 150 x := fun x hx => by
  obtain ⟨t, ht, rfl⟩ := jB9.mp hx
  exact (h.each t ht).2.2.1.mono (by decide)
 have e : W (F.Fit___init__ [.ref S.length, .ref a, .int (w : Int)] (S ++ [O.ins "Fit" []])) fun d S' => d = .non /\ SLe S S' /\ ∃ c wa we pa n1 n2 cs as bs, S.length <= n2 /\ FtA S' S.length w ts c wa we pa n1 n2 cs as bs := by
  unfold F.Fit___init__
  refine W_fnF rfl ?_
  rw [W_outF]
  unfold Den.Fit___init__
  have l0 : SLe S (S ++ [O.ins "Fit" []]) := SLe.app _
  refine qAb (fun δ' S' => δ' = [some (.ref S.length), some (.ref a), some (.int (w : Int))] /\ SLe (S ++ [O.ins "Fit" []]) S') ?_ ?_
  ·simp_all [is_wide_eq (show w <= 12 by omega)]
   refine (are_points_w (l0.lst ha) (fun x hx => l0.lst (hr x hx)) (by rw [hts]; exact h)).mono ?_
   rintro d S' ⟨rfl, l⟩
   simp_all []
   exact ⟨_, rfl, rfl, l⟩
  rintro _ S1 ⟨rfl, l1⟩
  have i1 : qAu S1 S.length = some (("Fit" : Str), []) := l1.ins (ins_push S _ _)
  refine qAb (fun δ' S' => δ' = [some (.ref S.length), some (.ref a), some (.int (w : Int))] /\ SLe S S' /\ qAu S' S.length = some (("Fit" : Str), [(("wide" : Str), D.int (w : Int))])) ?_ ?_
  ·simp_all [qCt, setfK]
   refine qE1 i1 (by decide) fun S' _ i _ k => ?_
   exact ⟨_, rfl, rfl, k _ (l0.trans l1) (jAx _), i⟩
  rintro _ S2 ⟨rfl, l2, i2⟩
  refine qAb (fun δ' S' => δ' = [some (.ref S.length), some (.ref a), some (.int (w : Int))] /\ SLe S S' /\ ∃ c cs, qAu S' S.length = some (("Fit" : Str), [(("wide" : Str), D.int (w : Int)), (("columns" : Str), .ref c)]) /\ TabR S' c cs (qAo (ts.map (·.row)) w)) ?_ ?_
  ·have c1 := comp_tp (base := [some (.ref S.length), some (.ref a), some (.int (w : Int))]) (it := itE itL (vr 1)) (e := op2 ixD (vr 3) (cst (.int 0))) (g := fun x => .ref x.2) (by simp only [Np.itA, Np.itE, Np.yH, Np.aConsK, Np.aNil, Np.consK, Np.vr, Np.cst, jC6, jCb, Np.bnd_ok]; exact qAk (l2.lst ha)) (l2.lst ha) (by omega) (fun _ => rfl) ⟨at0, fun _ => rfl⟩
   simp only [jA7, jC4, jC7] at c1
   simp_all [qCt, setfK, c1]
   have tb : TabR (S2 ++ [.lst (q.map fun x => D.ref x.2)]) S2.length (q.map (·.2)) (ts.map (·.row)) := by
    refine ⟨by rw [qAd, jCc]; rfl, by simp [lts], fun i b r hb hr' => ?_⟩
    rw [jBs] at hb
    rw [<- hts, jCc, jBs] at hr'
    cases ei : q[i]? with
    | none => rw [ei] at hb; cases hb
    | some y =>
     rw [ei] at hb hr'
     obtain rfl := Option.some.inj hb
     obtain rfl := Option.some.inj hr'
     exact (SLe.rfl.push _).lst (l2.lst (hr y (jBt ei)))
   refine turned_w tb W0 (by simp; omega) (by omega) fun S3 c cs l3 ft => ?_
   have l23 := (SLe.app (S := S2) [.lst (q.map fun x => D.ref x.2)]).trans l3
   have i3 := l23.ins i2
   refine qE1 i3 (by simp) fun S' _ i kl k => ?_
   exact ⟨_, rfl, rfl, k _ (l2.trans l23) (jAx _), c, cs, i, ⟨kl _ _ ft.tab.1, ft.tab.2.1, fun i b r h1 h2 => kl _ _ (ft.tab.2.2 i b r h1 h2)⟩⟩
  rintro _ S3 ⟨rfl, l3, c, cs, i3, tc⟩
  refine qAb (fun δ' S' => δ' = [some (.ref S.length), some (.ref a), some (.int (w : Int))] /\ SLe S S' /\ TabR S' c cs (qAo (ts.map (·.row)) w) /\ ∃ wa, qAu S' S.length = some (("Fit" : Str), [(("wide" : Str), D.int (w : Int)), (("columns" : Str), .ref c), (("wants" : Str), .ref wa)]) /\ RowA S' wa (ts.map (·.want))) ?_ ?_
  ·have c1 := comp_tp (base := [some (.ref S.length), some (.ref a), some (.int (w : Int))]) (it := itE itL (vr 1)) (e := op2 ixD (vr 3) (cst (.int 1))) (g := fun x => ratD x.1.want) (by simp only [Np.itA, Np.itE, Np.yH, Np.aConsK, Np.aNil, Np.consK, Np.vr, Np.cst, jC6, jCb, Np.bnd_ok]; exact qAk (l3.lst ha)) (l3.lst ha) (by omega) (fun _ => rfl) ⟨at1, fun _ => rfl⟩
   simp only [jA7, jC4, jC7] at c1
   simp_all [qCt, setfK, c1]
   have la : SLe S3 (S3 ++ [.lst (q.map fun x => ratD x.1.want)]) := SLe.app _
   refine qE1 (la.ins i3) (by simp) fun S' _ i kl k => ?_
   refine ⟨_, rfl, rfl, k _ (l3.trans la) (jAx _), ⟨kl _ _ (la.lst tc.1), tc.2.1, fun i b r h1 h2 => kl _ _ (la.lst (tc.2.2 i b r h1 h2))⟩, S3.length, i, kl _ _ ?_⟩
   rw [qAd, <- hts, jCc, jCc]
   rfl
  rintro _ S4 ⟨rfl, l4, tc, wa, i4, ra⟩
  refine qAb (fun δ' S' => δ' = [some (.ref S.length), some (.ref a), some (.int (w : Int))] /\ SLe S S' /\ TabR S' c cs (qAo (ts.map (·.row)) w) /\ RowA S' wa (ts.map (·.want)) /\ ∃ we, qAu S' S.length = some (("Fit" : Str), [(("wide" : Str), D.int (w : Int)), (("columns" : Str), .ref c), (("wants" : Str), .ref wa), (("weights" : Str), .ref we)]) /\ RowA S' we (ts.map (·.wt))) ?_ ?_
  ·have c1 := comp_tp (base := [some (.ref S.length), some (.ref a), some (.int (w : Int))]) (it := itE itL (vr 1)) (e := op2 ixD (vr 3) (cst (.int 2))) (g := fun x => ratD x.1.wt) (by simp only [Np.itA, Np.itE, Np.yH, Np.aConsK, Np.aNil, Np.consK, Np.vr, Np.cst, jC6, jCb, Np.bnd_ok]; exact qAk (l4.lst ha)) (l4.lst ha) (by omega) (fun _ => rfl) ⟨at2, fun _ => rfl⟩
   simp only [jA7, jC4, jC7] at c1
   simp_all [qCt, setfK, c1]
   have la : SLe S4 (S4 ++ [.lst (q.map fun x => ratD x.1.wt)]) := SLe.app _
   refine qE1 (la.ins i4) (by simp) fun S' _ i kl k => ?_
   refine ⟨_, rfl, rfl, k _ (l4.trans la) (jAx _), ⟨kl _ _ (la.lst tc.1), tc.2.1, fun i b r h1 h2 => kl _ _ (la.lst (tc.2.2 i b r h1 h2))⟩, kl _ _ (la.lst ra), S4.length, i, kl _ _ ?_⟩
   rw [qAd, <- hts, jCc, jCc]
   rfl
  rintro _ S5 ⟨rfl, l5, tc, ra, we, i5, rw5⟩
  have hRw : Wide (qAo (ts.map (·.row)) w) ts.length := by
   have := qCg (ts.map (·.row)) w
   rwa [jBd] at this
  have hRl : (qAo (ts.map (·.row)) w).length = w := qA3 _ _
  have hRb : LeT 150 (qAo (ts.map (·.row)) w) := qC7 R0 (by decide)
  have hR2 : Wide (qAo (ts.map (·.row)) w ++ [ts.map (·.want)]) ts.length := fun r hr => by
   rcases jAp.mp hr with hr | hr
   ·exact hRw r hr
   ·rw [jCj.mp hr]; simp
  have hb2 : LeT 150 (qAo (ts.map (·.row)) w ++ [ts.map (·.want)]) := fun r hr => by
   rcases jAp.mp hr with hr | hr
   ·exact hRb r hr
   ·rw [jCj.mp hr]; exact hwant
  have hwl : (ts.map (·.wt)).length = ts.length := by simp
  obtain ⟨V, A, B, B', c1, c2, c3⟩ := h.ex
  have hB1 : (150 + V + 70 + 1) * (ts.length + 1) <= 20000000 := jAj (jEp _ (by omega)) c1
  have hB2 : (V + V + 70 + 1) * (ts.length + 1) <= 20000000 := jAj (jEp _ (by omega)) c1
  have hB3 : (V + A + 1) * ((qAo (ts.map (·.row)) w).length + 1) <= 20000000 := by rw [hRl]; exact c2
  refine qAb (fun δ' S' => δ' = [some (.ref S.length), some (.ref a), some (.int (w : Int))] /\ SLe S S' /\ TabR S' c cs (qAo (ts.map (·.row)) w) /\ RowA S' wa (ts.map (·.want)) /\ RowA S' we (ts.map (·.wt)) /\ ∃ pa as bs, qAu S' S.length = some (("Fit" : Str), [(("wide" : Str), D.int (w : Int)), (("columns" : Str), .ref c), (("wants" : Str), .ref wa), (("weights" : Str), .ref we), (("parts" : Str), .ref pa)]) /\ PtR S' pa as bs (gsR (qAo (ts.map (·.row)) w) (ts.map (·.wt))).P (gsR (qAo (ts.map (·.row)) w) (ts.map (·.wt))).H) ?_ ?_
  ·simp_all [qCt, setfK, qBk i5 (show jBa ("columns" : Str) [(("wide" : Str), D.int (w : Int)), (("columns" : Str), .ref c), (("wants" : Str), .ref wa), (("weights" : Str), .ref we)] = some (.ref c) from rfl), qBk i5 (show jBa ("weights" : Str) [(("wide" : Str), D.int (w : Int)), (("columns" : Str), .ref c), (("wants" : Str), .ref wa), (("weights" : Str), .ref we)] = some (.ref we) from rfl)]
   refine lefts_w tc rw5 hRw hwl hpos hRb hq70 B hB1 hB2 hB3 (by omega) (by omega) fun S6 pa as bs l6 n6 pt _ _ => ?_
   refine qE1 (l6.ins i5) (by simp) fun S' _ i kl k => ?_
   refine ⟨_, rfl, rfl, k _ (l5.trans l6) (jAx _), ⟨kl _ _ (l6.lst tc.1), tc.2.1, fun i b r h1 h2 => kl _ _ (l6.lst (tc.2.2 i b r h1 h2))⟩, kl _ _ (l6.lst ra), kl _ _ (l6.lst rw5), pa, as, bs, i, ⟨kl _ _ pt.at', pt.la, pt.lb, pt.lh, fun i a r h1 h2 => kl _ _ (pt.left i a r h1 h2), fun i a r h1 h2 => kl _ _ (pt.shs i a r h1 h2)⟩⟩
  rintro _ S6 ⟨rfl, l6, tc, ra, rw6, pa, as, bs, i6, pt⟩
  obtain ⟨eP, eH⟩ := qEy (ws := ts.map (·.wt)) (snoc_at (qAo (ts.map (·.row)) w) (ts.map (·.want)))
  obtain ⟨iP, iH⟩ := gsR_init (qAo (ts.map (·.row)) w) (ts.map (·.want)) (ts.map (·.wt))
  rw [iP] at eP eH
  rw [iH] at eH
  have hPl := (qAn (ts.map (·.wt)) (qAo (ts.map (·.row)) w)).1
  simp_all [qCt, setfK, qBk i6 (show jBa ("wants" : Str) [(("wide" : Str), D.int (w : Int)), (("columns" : Str), .ref c), (("wants" : Str), .ref wa), (("weights" : Str), .ref we), (("parts" : Str), .ref pa)] = some (.ref wa) from rfl), qBk i6 (show jBa ("parts" : Str) [(("wide" : Str), D.int (w : Int)), (("columns" : Str), .ref c), (("wants" : Str), .ref wa), (("weights" : Str), .ref we), (("parts" : Str), .ref pa)] = some (.ref pa) from rfl), qBk i6 (show jBa ("weights" : Str) [(("wide" : Str), D.int (w : Int)), (("columns" : Str), .ref c), (("wants" : Str), .ref wa), (("weights" : Str), .ref we), (("parts" : Str), .ref pa)] = some (.ref we) from rfl)]
  refine parted_w (n := ts.length) (k := (qAo (ts.map (·.row)) w).length) (m := 150) (V := V) (A := A) (q := 70) ra pt rw6 (by simp) hwl hpos (qCd hRw) (fun j sh hj => qBy hj) hPl hwant B.P B.H (fun x hx => ?_) hq70 (fun rr hr x hx => ?_) hB1 hB2 hB3 (by omega) (by omega) fun S7 n1 n2 l7 _ nn2 _ r1 r2 => ?_
  ·obtain ⟨l, hl, rfl⟩ := jB9.mp hx
   obtain ⟨j, hj⟩ := jDz hl
   have hjl : j < (qAo (ts.map (·.row)) w).length := by rw [<- hPl]; exact (jAr.mp hj).1
   have := B'.A (qAo (ts.map (·.row)) w).length j (by simp) hjl
   unfold gsA at this
   rw [yD (snoc_at (qAo (ts.map (·.row)) w) (ts.map (·.want))), <- qEs hjl, iP, yD hj] at this
   exact this
  ·obtain ⟨sh, hsh, rfl⟩ := jB9.mp hr
   obtain ⟨j, hj⟩ := jDz hsh
   have hjl : j < (qAo (ts.map (·.row)) w).length := by rw [<- (qAn (ts.map (·.wt)) (qAo (ts.map (·.row)) w)).2]; exact (jAr.mp hj).1
   exact B.M j sh (qAo (ts.map (·.row)) w).length hj (by omega) x hx
  ·refine qE1 (l7.ins i6) (by simp) fun S' _ i kl k => ?_
   have r1' : RowA S7 n1 (zR (gsR (qAo (ts.map (·.row)) w ++ [ts.map (·.want)]) (ts.map (·.wt))).P w) := by
    have := yD eP
    rw [hRl, jBd] at this
    rw [this]
    exact r1
   have r2' : RowA S7 n2 (zR (gsR (qAo (ts.map (·.row)) w ++ [ts.map (·.want)]) (ts.map (·.wt))).H w) := by
    have e := yD eH
    have r2 := r2
    rw [<- e, hRl] at r2
    exact r2
   refine ⟨rfl, k _ (l6.trans l7) (jAx _), c, wa, we, pa, n1, n2, cs, as, bs, jAj l6.len nn2, ⟨i, ⟨kl _ _ (l7.lst tc.1), tc.2.1, fun i b r h1 h2 => kl _ _ (l7.lst (tc.2.2 i b r h1 h2))⟩, kl _ _ (l7.lst ra), kl _ _ (l7.lst rw6), ⟨kl _ _ (l7.lst pt.at'), pt.la, pt.lb, pt.lh, fun i a r h1 h2 => kl _ _ (l7.lst (pt.left i a r h1 h2)), fun i a r h1 h2 => kl _ _ (l7.lst (pt.shs i a r h1 h2))⟩, kl _ _ r1', kl _ _ r2'⟩⟩
 obtain ⟨d, S', e0, rfl, h1, c, wa, we, pa, n1, n2, cs, as, bs, hn2, h2⟩ := e.out
 unfold mkA
 rw [e0]
 show W (some (.ok (D.ref S.length) S')) _
 rw [W_ok]
 exact ⟨h1, S.length, c, wa, we, pa, n1, n2, cs, as, bs, rfl, ⟨jAx _, hn2⟩, h2⟩
def BoX (S : Sto) (p s n w l : Nat) (ts : List Pt) (M : List Nat) (xs : List D) (st : Nat) : Prop := ∃ ss k ps q r, Two S p s ss st k ps xs w l q r w l /\ q.map (·.1) = ts /\ r.map (·.1) = ts /\ xs.length <= n /\ Ok n w l ts /\ M = ss :: s :: ps :: r.map (·.2)
theorem BoX.mono {S S' : Sto} {p s n w l : Nat} {ts : List Pt} {M : List Nat} {xs : List D} {st : Nat} (h : BoX S p s n w l ts M xs st) (e : SLe S S') : BoX S' p s n w l ts M xs st := by
 obtain ⟨ss, k, ps, q, r, T, h2⟩ := h
 exact ⟨ss, k, ps, q, r, T.mono e, h2⟩
def Sub (ts' ts : List Pt) : Prop := ∀ t ∈ ts', ∃ u ∈ ts, t.want = u.want /\ t.wt = u.wt /\ ∀ x ∈ t.row, x ∈ u.row
def Left (S S' : Sto) (M M' : List Nat) : Prop := Bts M S S' /\ ∀ a ∈ M', a ∈ M \/ S.length <= a
abbrev gPa (w : Nat) (ts : List Pt) : List (List Rat) := (gsR (colP w ts) (ts.map (·.wt))).P
abbrev gHa (w : Nat) (ts : List Pt) : List (List Rat) := (gsR (colP w ts) (ts.map (·.wt))).H
def stl (r : List Rat) : Bool := r.all fun x => decide (x = 0)
def qBf (w : Nat) (ts : List Pt) : List Nat := (jAg w).filter fun i => stl (zR (gPa w ts) i)
def wayL (w : Nat) (ts : List Pt) : List (List Rat) := (qBf w ts).map fun k => molR (zR (gHa w ts) k) w
abbrev nearR (w : Nat) (ts : List Pt) : List Rat := zR (gsR (colP w ts ++ [ts.map (·.want)]) (ts.map (·.wt))).P w
abbrev shaR (w : Nat) (ts : List Pt) : List Rat := zR (gsR (colP w ts ++ [ts.map (·.want)]) (ts.map (·.wt))).H w
section
variable {w : Nat} {ts : List Pt}
theorem colP_len : (colP w ts).length = w := qA3 _ _
theorem qFs : (gPa w ts).length = w := by rw [(qAn _ _).1]; exact qA3 _ _
theorem qFt : (gHa w ts).length = w := by rw [(qAn _ _).2]; exact qA3 _ _
theorem Sml.wideC (h : Sml w ts) : Wide (colP w ts) ts.length := by
 have := qCg (ts.map (·.row)) w
 rwa [jBd] at this
theorem Sml.leC (h : Sml w ts) : LeT 150 (colP w ts) := qC7 (fun r hr x hx => by
  obtain ⟨t, ht, rfl⟩ := jB9.mp hr
  exact (h.each t ht).2.1 x hx) (by decide)
theorem Sml.leW (h : Sml w ts) : ∀ x ∈ ts.map (·.wt), Le 70 x := fun x hx => by
 obtain ⟨t, ht, rfl⟩ := jB9.mp hx
 exact (h.each t ht).2.2.2.1
theorem gP_wide (h : Sml w ts) : Wide (gPa w ts) ts.length := qCd h.wideC
theorem near_mem : nearR w ts ∈ (gsR (colP w ts ++ [ts.map (·.want)]) (ts.map (·.wt))).P := by
 have hl := (qAn (ts.map (·.wt)) (colP w ts ++ [ts.map (·.want)])).1
 rw [jBu, colP_len] at hl
 obtain ⟨r, hr⟩ := zQ (show w < (gsR (colP w ts ++ [ts.map (·.want)]) (ts.map (·.wt))).P.length by rw [hl]; simp)
 show zR _ w ∈ _
 rw [yD hr]
 exact jBt hr
end
theorem qF6 {src : Src} {g : DG} {t : DT} {e : DE} {base : DS} {k : Nat} {S0 : Sto} (vals : D -> List (Option D)) {xs : List D} {P : D -> Prop} (p : D -> Bool) (f : D -> D) (hg : Tg g k vals base P) (hs : ∀ i S', SLe S0 S' -> src.get S' i = some xs[i]?) (hP : ∀ x ∈ xs, P x)
  (step : ∀ x S', x ∈ xs -> SLe S0 S' -> W (t (base ++ vals x) S') fun b S2 => SLe S' S2 /\ b = p x /\ (p x = true -> W (e (base ++ vals x) S2) fun d S3 => d = f x /\ SLe S2 S3)) :
  ∀ n i os S', SLe S0 S' -> os.length = k -> i <= xs.length -> xs.length <= i + n -> W (qBd src g t e n i (base ++ os) S') fun ds S2 => SLe S' S2 /\ ds = ((xs.drop i).filter p).map f
 | 0, i, os, S', hS, ho, hi, hn => by
  unfold qBd
  rw [hs i S' hS, jCo (by omega), W_ok]
  exact ⟨SLe.rfl, by rw [jDy (by omega)]; rfl⟩
 | n + 1, i, os, S', hS, ho, hi, hn => by
  unfold qBd
  rw [hs i S' hS]
  by_cases h : i < xs.length
  ·have hx : xs[i] ∈ xs := jDl h
   rw [jEn h, List.drop_eq_getElem_cons h]
   show W (bnd (g xs[i] (base ++ os) S') (compIK t e (qBd src g t e n (i + 1)))) _
   obtain ⟨e1, e2⟩ := hg xs[i] os S' ho (hP _ hx)
   rw [e1, bnd_ok]
   unfold compIK
   rw [W_bnd]
   refine (step _ S' hx hS).mono ?_
   rintro b S2 ⟨l2, rfl, hb⟩
   cases hp : p xs[i] with
   | true =>
    show W (bnd (e (base ++ vals xs[i]) S2) (qEj (qBd src g t e n (i + 1)) (base ++ vals xs[i]))) _
    rw [W_bnd]
    refine (hb hp).mono ?_
    rintro d S3 ⟨rfl, l3⟩
    unfold qEj
    rw [W_bnd]
    refine (qF6 vals p f hg hs hP step n (i + 1) (vals xs[i]) S3 (hS.trans (l2.trans l3)) e2 h (by omega)).mono ?_
    rintro ds S4 ⟨l4, rfl⟩
    unfold consK
    rw [W_ok]
    exact ⟨l2.trans (l3.trans l4), by rw [List.filter_cons_of_pos hp]; rfl⟩
   | false =>
    show W (qBd src g t e n (i + 1) (base ++ vals xs[i]) S2) _
    refine (qF6 vals p f hg hs hP step n (i + 1) (vals xs[i]) S2 (hS.trans l2) e2 h (by omega)).mono ?_
    rintro ds S4 ⟨l4, rfl⟩
    exact ⟨l2.trans l4, by rw [List.filter_cons_of_neg (by simp [hp])]⟩
  ·rw [jCo (by omega)]
   show W (some (.ok [] S')) _
   rw [W_ok]
   exact ⟨SLe.rfl, by rw [jDy (by omega)]; rfl⟩
theorem W_compF {it : DI} {g : DG} {t : DT} {e : DE} {base : DS} {k : Nat} {S : Sto} {Q : D -> Sto -> Prop} (vals : D -> List (Option D)) (xs : List D) (P : D -> Prop) (p : D -> Bool) (f : D -> D) (hg : Tg g k vals base P) (hP : ∀ x ∈ xs, P x)
  (hit : W (it base S) fun src S' => xs.length <= src.len S' /\ src.len S' <= 1000000 /\ SLe S S' /\ ∀ i S'', SLe S' S'' -> src.get S'' i = some xs[i]?)
  (step : ∀ x S', x ∈ xs -> SLe S S' -> W (t (base ++ vals x) S') fun b S2 => SLe S' S2 /\ b = p x /\ (p x = true -> W (e (base ++ vals x) S2) fun d S3 => d = f x /\ SLe S2 S3))
  (fin : ∀ S' b, SLe S S' -> S.length <= b -> zH S' b = some ((xs.filter p).map f) -> Q (.ref b) S') : W (qEk it k g t e base S) Q := by
 obtain ⟨src, S0, e0, h1, h2, h3, h4⟩ := hit.out
 unfold qEk
 rw [e0, bnd_ok]
 unfold compIL
 rw [if_pos h2, W_bnd, W_noer]
 refine (qF6 vals p f hg h4 hP (fun x S' hx hS => step x S' hx (h3.trans hS)) _ 0 (jBk k none) S0 SLe.rfl (by simp) (jBg _) (by omega)).mono ?_
 rintro ds S2 ⟨l2, rfl⟩
 exact W.intro rfl (fin _ _ ((h3.trans l2).push _) (h3.trans l2).len (by rw [qAd]; rfl))
def enmG (xs : List D) : List D := (jAg xs.length).map fun i => D.tup [.int (i : Nat), xs.getD i .non]
theorem qFo {S : Sto} {a : Nat} {xs : List D} (h : zH S a = some xs) (i : Nat) : (Src.enm a).get S i = some (enmG xs)[i]? := by
 show (match zH S a with | some xs => some (enm1 i xs[i]?) | none => none) = _
 rw [h]
 show some (enm1 i xs[i]?) = _
 unfold enmG
 by_cases hi : i < xs.length
 ·simp [enm1, hi]
 ·simp [enm1, hi, jCo (show xs.length <= i by omega)]
section
variable {S : Sto} {f w c wa we pa n1 n2 : Nat} {ts : List Pt} {cs as bs : List Nat}
theorem FtA.fl (h : FtA S f w ts c wa we pa n1 n2 cs as bs) {x : Str} {d : D} (e : (ftF w c wa we pa (.tup [.ref n1, .ref n2])).lookup x = some d) : fldD "Fit" x (.ref f) S = ok d S := qBk h.ins e
theorem FtA.me (h : FtA S f w ts c wa we pa n1 n2 cs as bs) {m : Str} {Fm : List D -> Sto -> R D} {as' : DA} {δ : DS} (e : (ftF w c wa we pa (.tup [.ref n1, .ref n2])).lookup m = none) : methK "Fit" m Fm as' δ (.ref f) S = bnd (as' δ S) (qBe Fm (.ref f)) := methK_eq h.ins e
theorem told_w (h : FtA S f w ts c wa we pa n1 n2 cs as bs) : W (F.Fit_told [.ref f] S) fun d S' => SLe S S' /\ ∃ b, d = .ref b /\ RowA S' b (shaR w ts) /\ S.length <= b := by
 (unfold F.Fit_told; refine Np.W_fnF rfl ?_; unfold Den.Fit_told; simp_all [])
 simp_all [h.fl (x := "near") rfl, show ixD (.tup [.ref n1, .ref n2]) (.int 1) S = ok (.ref n2) S from rfl]
 refine qAw (qFh h.sha) fun S1 b l1 n1 r1 => ?_
 exact ⟨l1, b, rfl, r1, n1⟩
theorem squares_w (h : FtA S f w ts c wa we pa n1 n2 cs as bs) (hs : Sml w ts) : W (F.Fit_squares [.ref f] S) fun d S' => SLe S S' /\ d = ratD (dotW (nearR w ts) (nearR w ts) (ts.map (·.wt))) := by
 have hl := hs.len
 have nl : (nearR w ts).length = ts.length := qCd (n := ts.length) (rows := colP w ts ++ [ts.map (·.want)]) (fun r hr => by
  rcases jAp.mp hr with hr | hr
  ·exact hs.wideC r hr
  ·rw [jCj.mp hr]; simp) _ near_mem
 (unfold F.Fit_squares; refine Np.W_fnF rfl ?_; unfold Den.Fit_squares; simp_all [])
 simp_all [h.fl (x := "near") rfl, h.fl (x := "weights") rfl, show ixD (.tup [.ref n1, .ref n2]) (.int 0) S = ok (.ref n1) S from rfl]
 obtain ⟨V, A, _, g2, c1, _⟩ := hs.ex
 exact square_w h.nea h.wei (fun x hx => g2.P _ near_mem x hx) hs.leW (by rw [nl]; exact jAj (jEp _ (by omega)) c1) (by rw [nl]; omega)
theorem PtR.ix {S : Sto} {t : Nat} {as bs : List Nat} {P H : List (List Rat)} (h : PtR S t as bs P H) {i : Nat} (hi : i < P.length) : ∃ a b, (jDd (fun a b => D.tup [.ref a, .ref b]) as bs)[i]? = some (.tup [.ref a, .ref b]) /\ RowA S a (zR P i) /\ RowA S b (zR H i) := by
 obtain ⟨a, ha⟩ := zQ (show i < as.length by rw [h.la]; exact hi)
 obtain ⟨b, hb⟩ := zQ (show i < bs.length by rw [h.lb]; exact hi)
 obtain ⟨r, hr⟩ := zQ hi
 obtain ⟨z, hz⟩ := zQ (show i < H.length by rw [h.lh]; exact hi)
 exact ⟨a, b, by rw [jDe, ha, hb], by rw [yD hr]; exact h.left i a r ha hr, by rw [yD hz]; exact h.shs i b z hb hz⟩
theorem free2_w (h : FtA S f w ts c wa we pa n1 n2 cs as bs) (hs : Sml w ts) : W (F.Fit_free [.ref f] S) fun d S' => SLe S S' /\ ∃ b, d = .ref b /\ zH S' b = some ((qBf w ts).map natD) /\ S.length <= b := by
 have hw := hs.wide
 have zl : (jDd (fun a b => D.tup [.ref a, .ref b]) as bs).length = w := by
  have h1 := h.par.la
  have h2 := h.par.lb
  rw [qFs] at h1 h2
  simp [h1, h2]
 (unfold F.Fit_free; refine Np.W_fnF rfl ?_; unfold Den.Fit_free; simp_all [])
 refine W_compF _ (enmG (jDd (fun a b => D.tup [.ref a, .ref b]) as bs)) _ (fun x => match x with | .tup (.int i :: _) => stl (zR (gPa w ts) i.toNat) | _ => false) (fun x => match x with | .tup (y :: _) => y | x => x) (tg_two [some (.ref f)]) (fun x hx => ?_) ?_ ?_ ?_
 ·obtain ⟨i, _, rfl⟩ := jB9.mp hx
  exact ⟨_, _, rfl⟩
 ·simp_all [h.fl (x := "parts") rfl, qEe h.par.at', itA]
  exact ⟨by rw [qFi h.par.at']; simp [enmG], by rw [qFi h.par.at', zl]; omega, SLe.rfl, fun i S'' l => qFo (l.lst h.par.at') i⟩
 ·intro x S' hx l
  obtain ⟨i, hi, rfl⟩ := jB9.mp hx
  rw [jAi, zl] at hi
  obtain ⟨a, b, e, ra, rb⟩ := h.par.ix (i := i) (by rw [qFs]; exact hi)
  have eg : (jDd (fun a b => D.tup [.ref a, .ref b]) as bs).getD i .non = .tup [.ref a, .ref b] := by rw [jD5, e]; rfl
  rw [eg]
  have hl : (zR (gPa w ts) i).length <= 1000000 := by
   obtain ⟨r, hr⟩ := zQ (show i < (gPa w ts).length by rw [qFs]; exact hi)
   rw [yD hr, gP_wide hs r (jBt hr)]
   have := hs.len
   omega
  obtain ⟨o, eo⟩ := qD9 (l.lst ra) hl
  show W (tv (fnE F.is_still (yH (op2 ixD (vr 2) (cst (.int 0))) aNil)) [some (.ref f), some (.int (i : Nat)), some (.tup [.ref a, .ref b])] S') _
  simp_all [show ixD (.tup [.ref a, .ref b]) (.int 0) S' = ok (.ref a) S' from rfl, eo]
  exact ⟨SLe.app _, by simp [stl], fun _ => W.intro rfl ⟨rfl, SLe.rfl⟩⟩
 ·intro S' b l n e
  refine ⟨l, b, rfl, ?_, n⟩
  rw [e]
  unfold enmG qBf
  rw [zl, List.filter_map, jCc]
  rfl
theorem free_w (h : FtA S f w ts c wa we pa n1 n2 cs as bs) (hs : Sml w ts) : W (F.Fit_free [.ref f] S) fun d S' => SLe S S' /\ ∃ b, d = .ref b /\ zH S' b = some ((qBf w ts).map natD) := (free2_w h hs).mono fun d S' ⟨l, b, e, r, _⟩ => ⟨l, b, e, r⟩
theorem ways2_w (h : FtA S f w ts c wa we pa n1 n2 cs as bs) (hs : Sml w ts) : W (F.Fit_ways [.ref f] S) fun d S' => SLe S S' /\ ∃ b ds, d = .ref b /\ FT S.length S' b ds (wayL w ts) := by
 have hw := hs.wide
 obtain ⟨V, A, gb, _, _, _, c3⟩ := hs.ex
 have fl : (qBf w ts).length <= w := by
  have := jEq (fun i => stl (zR (gPa w ts) i)) (jAg w)
  rwa [jD1] at this
 (unfold F.Fit_ways; refine Np.W_fnF rfl ?_; unfold Den.Fit_ways; simp_all [])
 refine qF5 _ ((qBf w ts).map natD) (wayL w ts) _ (qA4 [some (.ref f)]) (fun _ _ => trivial) (by simp [wayL]) ?_ ?_ ?_
 ·simp_all [qAp, h.me (m := "free") rfl, qBe]
  refine (free_w h hs).mono ?_
  rintro d S1 ⟨l1, b, rfl, e1⟩
  simp_all [qAk e1]
  exact ⟨by rw [qAs e1]; exact jAx _, by rw [qAs e1]; simp; omega, l1, fun i S'' l => qBs (l.lst e1) i⟩
 ·intro i x r S' hx hr l
  rw [jBs] at hx
  unfold wayL at hr
  rw [jBs] at hr
  cases hk : (qBf w ts)[i]? with
  | none => rw [hk] at hx; cases hx
  | some k =>
   rw [hk] at hx hr
   obtain rfl := Option.some.inj hx
   obtain rfl := Option.some.inj hr
   have hkw : k < w := jAi.mp (jAh.mp (jBt hk)).1
   have h' := h.mono l
   obtain ⟨a, b, e, ra, rb⟩ := h'.par.ix (i := k) (by rw [qFs]; exact hkw)
   obtain ⟨z, hz⟩ := zQ (show k < (gHa w ts).length by rw [qFt]; exact hkw)
   have hzl := qBy hz
   rw [yD hz] at rb
   show W (fnE F.mix_of_left _ [some (.ref f), some (.int (k : Nat))] S') _
   rw [show ((fun k => molR (zR (gHa w ts) k) w) k) = molR z w from congrArg (molR · w) (yD hz)]
   simp_all [h'.fl (x := "parts") rfl, h'.fl (x := "wide") rfl, qAg h'.par.at' e, show ixD (.tup [.ref a, .ref b]) (.int 1) S' = ok (.ref b) S' from rfl]
   exact qC1 rb (by omega) (by omega) (fun x hx => gb.H z (jBt hz) x hx) c3 fun S2 b' l2 n2 r2 => ⟨b', rfl, n2, l2, r2⟩
 ·intro S' b ds l ft
  exact ⟨l, b, ds, rfl, ft⟩
theorem ways_w (h : FtA S f w ts c wa we pa n1 n2 cs as bs) (hs : Sml w ts) : W (F.Fit_ways [.ref f] S) fun d S' => SLe S S' /\ ∃ b ds, d = .ref b /\ TabR S' b ds (wayL w ts) := (ways2_w h hs).mono fun d S' ⟨l, b, ds, e, ft⟩ => ⟨l, b, ds, e, ft.tab⟩
end
end Nm
end
section
namespace Nm
open Np PySem
theorem tup3f (x y z : D) (S : Sto) : tupD [x, y, z] S = ok (.tup [x, y, z]) S := rfl
section
variable {S : Sto} {p ss st k : Nat} {xs : List D} {w l : Nat} {q : List (Pt × Nat)} {ts : List Pt}
theorem qB0 (h : Pl S p ss st k xs w l q) (e : q.map (·.1) = ts) (hs : Sml w ts) : W (F.Plane_fit [.ref p] S) fun d S' => SLe S S' /\ ∃ f c wa we pa n1 n2 cs as bs, d = .ref f /\ FtA S' f w ts c wa we pa n1 n2 cs as bs /\ S.length <= n2 := by
 have hl := hs.len
 have lq : q.length = ts.length := by rw [<- e]; simp
 unfold F.Plane_fit
 refine W_fnF rfl ?_
 rw [W_outF]
 unfold Den.Plane_fit
 refine qAb (fun δ' S' => S' = S /\ δ' = [some (.ref p), some (.ref st)]) ?_ ?_
 ·simp_all [h.f1, h.f2]
  exact ⟨_, rfl, trivial, rfl⟩
 rintro _ S' ⟨e', rfl⟩
 obtain rfl : S = S' := e'.symm
 have c1 : qAj (itE itL (op1 (fldD "State" "kept") (vr 1))) 1 (setG 2) (slE (vr 2) (atP (cst (.int 1))) noP) [some (.ref p), some (.ref st)] S = ok (.ref S.length) (S ++ [.lst (q.map tpD)]) := by
  refine (qC3 (fun x => [some x]) (xs := q.map ptD) (f := fun x => match x with | .tup (_ :: r) => .tup r | x => x) (qA4 [some (.ref p), some (.ref st)]) (src := .one k) (by simp only [itE, op1, vr, jC6, jCb, bnd_ok, h.f5, qAk h.kp.1]) (Has.one h.kp.1) (by rw [qAs h.kp.1]; simp; omega) (fun _ _ => trivial) fun x hx => by
   obtain ⟨y, _, rfl⟩ := jB9.mp hx
   rfl).trans ?_
  rw [jCc]
  rfl
 simp_all [mkE, c1]
 have la : SLe S (S ++ [.lst (q.map tpD)]) := SLe.app _
 simp_all [qBk (la.ins h.st) (show (stF (.int (w : Int)) (.int (l : Int)) (.ref k)).lookup ("wide" : Str) = some (.int (w : Int)) from rfl)]
 refine (fit_mk (qAd S _) (fun x hx => la.lst (h.kp.2 x hx)) (by rw [e]; exact hs)).mono ?_
 rintro d S1 ⟨l1, f, c, wa, we, pa, n1, n2, cs, as, bs, rfl, ⟨_, hn2⟩, F⟩
 rw [e] at F
 exact ⟨la.trans l1, f, c, wa, we, pa, n1, n2, cs, as, bs, rfl, F, jAj la.len hn2⟩
theorem plane_told_w (h : Pl S p ss st k xs w l q) (e : q.map (·.1) = ts) (hs : Sml w ts) : W (F.Plane_told [.ref p] S) fun d S' => SLe S S' /\ ∃ b, d = .ref b /\ RowA S' b (shaR w ts) /\ S.length <= b := by
 (unfold F.Plane_told; refine Np.W_fnF rfl ?_; unfold Den.Plane_told; simp_all [])
 simp_all [qAp, h.meth (m := "fit") rfl, qBe]
 refine (qB0 h e hs).mono ?_
 rintro d S1 ⟨l1, f, c, wa, we, pa, n1, n2, cs, as, bs, rfl, F, _⟩
 simp_all [F.me (m := "told") rfl, qBe]
 exact (told_w F).mono fun d S2 ⟨l2, b, e, r, n⟩ => ⟨l1.trans l2, b, e, r, jAj l1.len n⟩
theorem plane_free_w (h : Pl S p ss st k xs w l q) (e : q.map (·.1) = ts) (hs : Sml w ts) : W (F.Plane_free [.ref p] S) fun d S' => SLe S S' /\ ∃ b, d = .ref b /\ zH S' b = some ((qBf w ts).map natD) := by
 (unfold F.Plane_free; refine Np.W_fnF rfl ?_; unfold Den.Plane_free; simp_all [])
 simp_all [qAp, h.meth (m := "fit") rfl, qBe]
 refine (qB0 h e hs).mono ?_
 rintro d S1 ⟨l1, f, c, wa, we, pa, n1, n2, cs, as, bs, rfl, F, _⟩
 simp_all [F.me (m := "free") rfl, qBe]
 exact (free_w F hs).mono fun d S2 ⟨l2, r⟩ => ⟨l1.trans l2, r⟩
theorem plane_ways_w (h : Pl S p ss st k xs w l q) (e : q.map (·.1) = ts) (hs : Sml w ts) : W (F.Plane_ways [.ref p] S) fun d S' => SLe S S' /\ ∃ b ds, d = .ref b /\ TabR S' b ds (wayL w ts) := by
 (unfold F.Plane_ways; refine Np.W_fnF rfl ?_; unfold Den.Plane_ways; simp_all [])
 simp_all [qAp, h.meth (m := "fit") rfl, qBe]
 refine (qB0 h e hs).mono ?_
 rintro d S1 ⟨l1, f, c, wa, we, pa, n1, n2, cs, as, bs, rfl, F, _⟩
 simp_all [F.me (m := "ways") rfl, qBe]
 exact (ways_w F hs).mono fun d S2 ⟨l2, r⟩ => ⟨l1.trans l2, r⟩
theorem qDw (h : Pl S p ss st k xs w l q) (e : q.map (·.1) = ts) (hs : Sml w ts) : W (F.Plane_squares [.ref p] S) fun d S' => SLe S S' /\ d = ratD (dotW (nearR w ts) (nearR w ts) (ts.map (·.wt))) := by
 (unfold F.Plane_squares; refine Np.W_fnF rfl ?_; unfold Den.Plane_squares; simp_all [])
 simp_all [qAp, h.meth (m := "fit") rfl, qBe]
 refine (qB0 h e hs).mono ?_
 rintro d S1 ⟨l1, f, c, wa, we, pa, n1, n2, cs, as, bs, rfl, F, _⟩
 simp_all [F.me (m := "squares") rfl, qBe]
 exact (squares_w F hs).mono fun d S2 ⟨l2, r⟩ => ⟨l1.trans l2, r⟩
end
def Sm (ts us : List Pt) : Prop := us.map (·.row) = ts.map (·.row) /\ us.map (·.want) = ts.map (·.want) /\ us.map (·.wt) = ts.map (·.wt)
theorem Sm.len {ts us : List Pt} (h : Sm ts us) : us.length = ts.length := by
 have := congrArg jBn h.1
 simpa using this
theorem Sm.each {ts us : List Pt} (h : Sm ts us) {P : List Rat -> Rat -> Rat -> Prop} (k : ∀ t ∈ ts, P t.row t.want t.wt) : ∀ u ∈ us, P u.row u.want u.wt := fun u hu => by
 obtain ⟨i, hi⟩ := jDz hu
 obtain ⟨t, ht⟩ := zQ (show i < ts.length by rw [<- h.len]; exact (jAr.mp hi).1)
 have e1 := congrArg (·[i]?) h.1
 have e2 := congrArg (·[i]?) h.2.1
 have e3 := congrArg (·[i]?) h.2.2
 simp only [jBs, hi, ht, jCe, Option.some.injEq] at e1 e2 e3
 rw [e1, e2, e3]
 exact k t (jBt ht)
end Nm
end
section
namespace Nm
open Np PySem
def Tt (x : Rat) : Prop := Le 4 x \/ (x.den = 1 /\ x.num.natAbs < 2 ^ 19)
theorem Tt.le {x : Rat} (h : Tt x) : Le 24 x := by
 rcases h with h | ⟨h1, h2⟩
 ·exact h.mono (by decide)
 ·exact ⟨jAd h2 (by decide), by rw [h1]; decide⟩
theorem Tt.add {x y : Rat} (h : Tt x) (k : Tt y) : Le 24 (x + y) := by
 have hx : x.num.natAbs < 2 ^ 19 /\ x.den < 16 /\ (x.num.natAbs < 16 \/ x.den = 1) := by
  rcases h with h | ⟨h1, h2⟩
  ·exact ⟨jAd h.1 (by decide), h.2, .inl h.1⟩
  ·exact ⟨h2, by omega, .inr h1⟩
 have hy : y.num.natAbs < 2 ^ 19 /\ y.den < 16 /\ (y.num.natAbs < 16 \/ y.den = 1) := by
  rcases k with h | ⟨h1, h2⟩
  ·exact ⟨jAd h.1 (by decide), h.2, .inl h.1⟩
  ·exact ⟨h2, by omega, .inr h1⟩
 have dx := x.den_pos
 have dy := y.den_pos
 rw [qCo]
 have b1 : (x.num * (y.den : Int)).natAbs <= 2 ^ 19 * 15 := by
  rw [jCu, jCt]
  exact jEi (by omega) (by omega)
 have b2 : (y.num * (x.den : Int)).natAbs <= 2 ^ 19 * 15 := by
  rw [jCu, jCt]
  exact jEi (by omega) (by omega)
 have b3 : x.den * y.den <= 15 * 15 := jEi (by omega) (by omega)
 have b4 := jCx (x.num * (y.den : Int)) (y.num * (x.den : Int))
 have e : ((x.den : Int) * (y.den : Int)).natAbs = x.den * y.den := by rw [jCu, jCt, jCt]
 refine Le.divInt' (jD2 (by omega) (by omega)) ?_ ?_
 ·have : (2 : Nat) ^ 24 = 16777216 := by decide
  have : (2 : Nat) ^ 19 = 524288 := by decide
  omega
 ·rw [e]
  have : (2 : Nat) ^ 24 = 16777216 := by decide
  omega
def Tg (ts : List Pt) : Prop := ∀ t ∈ ts, (∀ x ∈ t.row, Le 24 x) /\ Le 24 t.want /\ Le 3 t.wt
theorem Sub.tg {ts ts' : List Pt} (h : Sub ts' ts) (k : Tg ts) : Tg ts' := fun t ht => by
 obtain ⟨u, hu, e1, e2, e3⟩ := h t ht
 obtain ⟨k1, k2, k3⟩ := k u hu
 exact ⟨fun x hx => k1 x (e3 x hx), by rw [e1]; exact k2, by rw [e2]; exact k3⟩
theorem W_orE1 {g h : DE} {δ : DS} {S : Sto} {Q : D -> Sto -> Prop} (k : W (g δ S) Q) : W (orE g h δ S) Q := by
 obtain ⟨d, S', e, q⟩ := k.out
 unfold orE
 rw [e]
 exact W.intro rfl q
theorem W_orE2 {g h : DE} {δ : DS} {S : Sto} {Q : D -> Sto -> Prop} (e : g δ S = none) (k : W (h δ S) Q) : W (orE g h δ S) Q := by
 unfold orE
 rw [e]
 exact k
def Tl (S : Sto) (a w : Nat) (ts : List Pt) : Prop := ∀ S' x y z, SLe S S' ->
 W (orE (qAp "Plane" "told" F.Plane_told (vr 0) aNil) (qAp "Fit" "told" F.Fit_told (vr 0) aNil) [some (.ref a), x, y, z] S') (fun d S'' => SLe S' S'' /\ ∃ b, d = .ref b /\ RowA S'' b (shaR w ts) /\ S'.length <= b) /\
 W (orE (qAp "Plane" "free" F.Plane_free (vr 0) aNil) (qAp "Fit" "free" F.Fit_free (vr 0) aNil) [some (.ref a), x, y, z] S') (fun d S'' => SLe S' S'' /\ ∃ b, d = .ref b /\ zH S'' b = some ((qBf w ts).map natD)) /\
 W (orE (qAp "Plane" "ways" F.Plane_ways (vr 0) aNil) (qAp "Fit" "ways" F.Fit_ways (vr 0) aNil) [some (.ref a), x, y, z] S') (fun d S'' => SLe S' S'' /\ ∃ b ds, d = .ref b /\ TabR S'' b ds (wayL w ts)) /\
 W (orE (qAp "Plane" "squares" F.Plane_squares (vr 0) aNil) (qAp "Fit" "squares" F.Fit_squares (vr 0) aNil) [some (.ref a), x, y, z] S') (fun d S'' => SLe S' S'' /\ d = ratD (dotW (nearR w ts) (nearR w ts) (ts.map (·.wt))))
theorem Pl.tl {S : Sto} {p ss st k : Nat} {xs : List D} {w l : Nat} {q : List (Pt × Nat)} {ts : List Pt} (h : Pl S p ss st k xs w l q) (e : q.map (·.1) = ts) (hs : Sml w ts) : Tl S p w ts := fun S' x y z l' => by
 have h' := h.mono l'
 refine ⟨W_orE1 ?_, W_orE1 ?_, W_orE1 ?_, W_orE1 ?_⟩
 ·simp_all [qAp, h'.meth (m := "told") rfl, qBe]
  exact plane_told_w h' e hs
 ·simp_all [qAp, h'.meth (m := "free") rfl, qBe]
  exact plane_free_w h' e hs
 ·simp_all [qAp, h'.meth (m := "ways") rfl, qBe]
  exact plane_ways_w h' e hs
 ·simp_all [qAp, h'.meth (m := "squares") rfl, qBe]
  exact qDw h' e hs
theorem qDn {S : Sto} {a : Nat} {fs : List (Str × D)} (h : qAu S a = some (("Fit" : Str), fs)) {m : Str} {Fm : List D -> Sto -> R D} {x y z : Option D} : qAp "Plane" m Fm (vr 0) aNil [some (.ref a), x, y, z] S = none := by
 show methK "Plane" m Fm aNil _ (.ref a) S = none
 unfold methK
 simp only [h]
 rw [if_neg (fun z => absurd z.1 (by decide +kernel))]
section
variable {S : Sto} {f w c wa we pa n1 n2 : Nat} {ts : List Pt} {cs as bs : List Nat}
theorem FtA.tl (h : FtA S f w ts c wa we pa n1 n2 cs as bs) (hs : Sml w ts) : Tl S f w ts := fun S' x y z l' => by
 have h' := h.mono l'
 refine ⟨W_orE2 (qDn h'.ins) ?_, W_orE2 (qDn h'.ins) ?_, W_orE2 (qDn h'.ins) ?_, W_orE2 (qDn h'.ins) ?_⟩
 ·simp_all [qAp, h'.me (m := "told") rfl, qBe]
  exact told_w h'
 ·simp_all [qAp, h'.me (m := "free") rfl, qBe]
  exact free_w h' hs
 ·simp_all [qAp, h'.me (m := "ways") rfl, qBe]
  exact ways_w h' hs
 ·simp_all [qAp, h'.me (m := "squares") rfl, qBe]
  exact squares_w h' hs
end
end Nm
end
section
namespace Nm
open Np PySem
theorem Two.insM {S : Sto} {p s ss st k ps : Nat} {xs : List D} {w l w' l' : Nat} {q r : List (Pt × Nat)} (T : Two S p s ss st k ps xs w l q r w' l') {x : Nat} {c : Str} {fs : List (Str × D)} (hx : qAu S x = some (c, fs)) : x ∉ ss :: s :: ps :: r.map (·.2) := fun z => by
 simp only [jAo] at z
 rcases z with z | z | z | z
 ·exact qBb hx T.P.sl z
 ·exact qBb hx T.L.st z
 ·exact qBb hx T.L.pt.1 z
 ·obtain ⟨y, hy, e⟩ := jB9.mp z
  exact qBb hx (T.L.pt.2 y hy) e.symm
def K6 (S : Sto) (M : List Nat) (v : D) : Prop := v = .non \/ ∃ (kl f tl n2 : Nat) (row : List Rat) (w c wa we pa n1 : Nat), v = .ref kl /\ zH S kl = some [.ref f, .ref tl] /\ qAu S f = some (("Fit" : Str), ftF w c wa we pa (.tup [.ref n1, .ref n2])) /\ RowA S n2 row /\ RowA S tl row /\ row.length <= 1000 /\ kl ∉ M /\ tl ∉ M /\ n2 ∉ M
theorem K6.mono {S S' : Sto} {M : List Nat} {v : D} (h : K6 S M v) (l : SLe S S') : K6 S' M v := by
 rcases h with h | ⟨kl, f, tl, n2, row, w, c, wa, we, pa, n1, e, h1, h2, h3, h4, h5⟩
 ·exact .inl h
 ·exact .inr ⟨kl, f, tl, n2, row, w, c, wa, we, pa, n1, e, l.lst h1, l.ins h2, l.lst h3, l.lst h4, h5⟩
theorem K6.left {S S' : Sto} {p s n w l : Nat} {ts : List Pt} {M M' : List Nat} {xs : List D} {st : Nat} {v : D} (h : K6 S M v) (B : BoX S p s n w l ts M xs st) (L : Left S S' M M') : K6 S' M' v := by
 rcases h with h | ⟨kl, f, tl, n2, row, w, c, wa, we, pa, n1, e, h1, h2, h3, h4, h5, h6, h7, h8⟩
 ·exact .inl h
 ·obtain ⟨ss, k, ps, q, r, T, _, _, _, _, rfl⟩ := B
  have nm : ∀ a, a < S.length -> a ∉ ss :: s :: ps :: r.map (·.2) -> a ∉ M' := fun a ha hn hm => by
   rcases L.2 a hm with z | z
   ·exact hn z
   ·omega
  exact .inr ⟨kl, f, tl, n2, row, w, c, wa, we, pa, n1, e, L.1.lst h6 h1, L.1.ins (T.insM h2) h2, L.1.lst h8 h3, L.1.lst h7 h4, h5, nm _ (qAe h1) h6, nm _ (qAe h4) h7, nm _ (qAe h3) h8⟩
theorem W_if_t {t : DT} {A B : DSt} {δ : DS} {S : Sto} {Q : Fl -> Sto -> Prop} (h : W (t δ S) fun b S' => b = true /\ S' = S) (k : W (A δ S) Q) : W (ifS t A B δ S) Q := by
 unfold ifS
 rw [W_bnd]
 refine h.mono ?_
 rintro b S' ⟨rfl, rfl⟩
 exact k
def Pd : Nat -> (Nat -> Rat) -> Rat
 | 0, _ => 1
 | n + 1, f => f 0 * Pd n fun i => f (i + 1)
theorem qF8 : ∀ (n : Nat) (f : Nat -> Rat), Pd (n + 1) f = Pd n f * f n
 | 0, f => by show f 0 * 1 = 1 * f 0; grind
 | n + 1, f => by
  show f 0 * Pd (n + 1) (fun i => f (i + 1)) = f 0 * Pd n (fun i => f (i + 1)) * f (n + 1)
  rw [qF8 n]
  grind
theorem Pd_congr {f g : Nat -> Rat} : ∀ {n : Nat}, (∀ i, i < n -> f i = g i) -> Pd n f = Pd n g
 | 0, _ => rfl
 | n + 1, h => by
  rw [qF8, qF8, Pd_congr (n := n) fun i hi => h i (by omega), h n (by omega)]
theorem det_colz : ∀ {n : Nat} {A : Nat -> Nat -> Rat}, (∀ i, i <= n -> A i 0 = 0) -> det (n + 1) A = 0
 | n, A, h => by
  show Sg (n + 1) _ = 0
  rw [zM (g := fun _ => 0) fun j hj => ?_, qAv]
  by_cases j0 : j = 0
  ·subst j0
   rw [h 0 (by omega)]
   grind
  ·match n, h, hj with
   | 0, _, hj => omega
   | n + 1, h, hj =>
    rw [det_colz (n := n) fun i hi => ?_]
    ·grind
    ·show A (i + 1) (skip j 0) = 0
     rw [show skip j 0 = 0 by unfold skip; rw [if_pos (by omega)]]
     exact h (i + 1) (by omega)
theorem det_up : ∀ {n : Nat} {A : Nat -> Nat -> Rat}, (∀ i c, i < n -> c < i -> A i c = 0) -> det n A = Pd n fun i => A i i
 | 0, _, _ => rfl
 | n + 1, A, h => by
  show Sg (n + 1) _ = _
  rw [Sg_one (k := 0) (by omega) fun j hj j0 => ?_]
  ·show sgn 0 * A 0 0 * det n (fun i c => A (i + 1) (skip 0 c)) = A 0 0 * Pd n fun i => A (i + 1) (i + 1)
   have e : ∀ c, skip 0 c = c + 1 := fun c => by unfold skip; rw [if_neg (by omega)]
   rw [det_up (n := n) fun i c hi hc => by rw [e]; exact h (i + 1) (c + 1) (by omega) (by omega), show sgn 0 = 1 from rfl, Pd_congr (n := n) (g := fun i => A (i + 1) (i + 1)) fun i _ => by rw [e]]
   grind
  ·match n, h, hj with
   | 0, _, hj => omega
   | n + 1, h, hj =>
    rw [det_colz (n := n) fun i hi => ?_]
    ·grind
    ·show A (i + 1) (skip j 0) = 0
     rw [show skip j 0 = 0 by unfold skip; rw [if_pos (by omega)]]
     exact h (i + 1) 0 (by omega) (by omega)
theorem qFv {n r : Nat} {A : Nat -> Nat -> Rat} {h : Nat -> Rat} (hr : r < n) : ∀ m, m <= r -> det n (upd A r fun c => A r c - Sg m fun j => A j c * h j) = det n A
 | 0, _ => yF fun i c _ _ => by
  by_cases e : i = r
  ·subst e
   rw [zX]
   show A i c - 0 = A i c
   grind
  ·rw [zO e]
 | m + 1, hm => by
  have hmr : m ≠ r := by omega
  have e0 : det n (upd A r fun c => A m c) = 0 := det_alt (A := upd A r fun c => A m c) (i := r) (j := m) hr (by omega) (Ne.symm hmr) fun c => by rw [zX, zO hmr]
  rw [qEf (r := r) (B := upd A r fun c => A r c - Sg m fun j => A j c * h j) (C := upd A r fun c => A m c) (p := 1) (q := - h m) hr (fun i c e => ⟨by rw [zO e, zO e], by rw [zO e, zO e]⟩) fun c => ?_, qFv hr m (by omega), e0]
  ·grind
  ·rw [zX, zX, zX]
   show A r c - (Sg m (fun j => A j c * h j) + A m c * h m) = _
   generalize Sg m (fun j => A j c * h j) = z
   grind
theorem det_last : ∀ {m : Nat} {A : Nat -> Nat -> Rat}, (∀ j, j < m -> A m j = 0) -> det (m + 1) A = det m A * A m m
 | 0, A, _ => by
  show (0 : Rat) + sgn 0 * A 0 0 * 1 = 1 * A 0 0
  rw [show sgn 0 = 1 from rfl]
  grind
 | m + 1, A, h => by
  show Sg (m + 1 + 1) (fun j => sgn j * A 0 j * det (m + 1) (fun i c => A (i + 1) (skip j c))) = Sg (m + 1) (fun j => sgn j * A 0 j * det m (fun i c => A (i + 1) (skip j c))) * A (m + 1) (m + 1)
  have e1 : ∀ j, j < m + 1 -> det (m + 1) (fun i c => A (i + 1) (skip j c)) = det m (fun i c => A (i + 1) (skip j c)) * A (m + 1) (m + 1) := fun j hj => by
   rw [det_last (m := m) (A := fun i c => A (i + 1) (skip j c)) fun c hc => ?_]
   ·rw [show skip j m = m + 1 by unfold skip; rw [if_neg (by omega)]]
   ·exact h _ (by unfold skip; split <;> omega)
  have e2 : det (m + 1) (fun i c => A (i + 1) (skip (m + 1) c)) = 0 := by
   rw [yF (B := fun i c => if i = m then 0 else A (i + 1) (skip (m + 1) c)) fun i c hi hc => ?_]
   ·exact det_row0 (r := m) (by omega) fun c => by rw [if_pos rfl]
   ·by_cases e : i = m
    ·subst e
     rw [if_pos rfl]
     exact h _ (by unfold skip; split <;> omega)
    ·rw [if_neg e]
  show Sg (m + 1) _ + sgn (m + 1) * A 0 (m + 1) * det (m + 1) (fun i c => A (i + 1) (skip (m + 1) c)) = _
  rw [e2, zM (g := fun j => (sgn j * A 0 j * det m (fun i c => A (i + 1) (skip j c))) * A (m + 1) (m + 1)) fun j hj => by rw [e1 j hj]; grind]
  have : ∀ (k : Nat) (f : Nat -> Rat) (x : Rat), Sg k (fun j => f j * x) = Sg k f * x := fun k f x => by
   induction k with
   | zero => show (0 : Rat) = 0 * x; grind
   | succ k ih => show Sg k _ + f k * x = (Sg k f + f k) * x; rw [ih]; grind
  rw [this]
  grind
def dB (B : Nat) : Nat -> Nat
 | 0 => 1
 | n + 1 => (n + 1) * (B * dB B n)
def Zb (B : Nat) (x : Rat) : Prop := ∃ z : Int, x = (z : Rat) /\ z.natAbs <= B
theorem Zb.mul {B C : Nat} {x y : Rat} (h : Zb B x) (k : Zb C y) : Zb (B * C) (x * y) := by
 obtain ⟨a, rfl, ha⟩ := h
 obtain ⟨b, rfl, hb⟩ := k
 exact ⟨a * b, by rw [jEh], by rw [jCu]; exact jEi ha hb⟩
theorem Zb.add {B C : Nat} {x y : Rat} (h : Zb B x) (k : Zb C y) : Zb (B + C) (x + y) := by
 obtain ⟨a, rfl, ha⟩ := h
 obtain ⟨b, rfl, hb⟩ := k
 exact ⟨a + b, by rw [jEd], jAj (jCx a b) (Nat.add_le_add ha hb)⟩
theorem Zb.mono {B C : Nat} {x : Rat} (h : Zb B x) (l : B <= C) : Zb C x := by
 obtain ⟨a, e, ha⟩ := h
 exact ⟨a, e, jAj ha l⟩
theorem Zb.sg {C : Nat} {f : Nat -> Rat} : ∀ {n : Nat}, (∀ j, j < n -> Zb C (f j)) -> Zb (n * C) (Sg n f)
 | 0, _ => ⟨0, rfl, by simp⟩
 | n + 1, h => ((Zb.sg (n := n) fun j hj => h j (by omega)).add (h n (by omega))).mono (by rw [jB4]; exact jAx _)
theorem zb_sgn (j : Nat) : Zb 1 (sgn j) := by
 unfold sgn
 split
 ·exact ⟨1, rfl, by decide⟩
 ·exact ⟨-1, rfl, by decide⟩
theorem zb_det {B : Nat} : ∀ {n : Nat} {A : Nat -> Nat -> Rat}, (∀ i c, i < n -> c < n -> Zb B (A i c)) -> Zb (dB B n) (det n A)
 | 0, _, _ => ⟨1, rfl, jAx 1⟩
 | n + 1, A, h => by
  refine Zb.sg fun j hj => ?_
  have := ((zb_sgn j).mul (h 0 j (by omega) hj)).mul (zb_det (n := n) (A := fun i c => A (i + 1) (skip j c)) fun i c hi hc => h _ _ (by omega) (skip_lt hc))
  rw [Nat.one_mul] at this
  exact this
section
open Classical
variable {n k : Nat} {w : Nat -> Rat} {R L H : Nat -> Nat -> Rat}
noncomputable def mxG (n : Nat) (w : Nat -> Rat) (R L : Nat -> Nat -> Rat) (i j : Nat) : Rat := if (∀ c, c < n -> L j c = 0) then (if i = j then 1 else 0) else dt n w (R i) (R j)
noncomputable def mxT (n : Nat) (w : Nat -> Rat) (R L : Nat -> Nat -> Rat) (i j : Nat) : Rat := if (∀ c, c < n -> L j c = 0) then (if i = j then 1 else 0) else dt n w (L i) (R j)
theorem mx_row (g : GS n w R L H k) {i : Nat} (hi : i < k) (j : Nat) : mxT n w R L i j = mxG n w R L i j - Sg i fun l => mxG n w R L l j * H i l := by
 unfold mxT mxG
 by_cases z : ∀ c, c < n -> L j c = 0
 ·simp only [if_pos z]
  have : (Sg i fun l => (if l = j then (1 : Rat) else 0) * H i l) = 0 := by
   rw [zM (g := fun _ => 0) fun l hl => ?_, qAv]
   by_cases e : l = j
   ·subst e
    rw [g.free i l hi hl z]
    grind
   ·rw [if_neg e]
    grind
  rw [this]
  grind
 ·simp only [if_neg z]
  rw [<- dt_mix, <- dt_sub]
  refine qA8 (fun c _ => ?_) fun c _ => rfl
  rw [g.mix i hi c]
  generalize Sg i (fun j => R j c * H i j) = q
  grind
theorem det_rows {M T h : Nat -> Nat -> Rat} (e : ∀ i, i < k -> ∀ j, T i j = M i j - Sg i fun l => M l j * h i l) : det k M = det k T := by
 have step : ∀ r, r <= k -> det k (fun i c => if i < r then M i c else T i c) = det k T := by
  intro r
  induction r with
  | zero => intro _; exact yF fun i c _ _ => by rw [if_neg (by omega)]
  | succ r ih =>
   intro hr
   rw [<- ih (by omega), <- qFv (A := fun i c => if i < r + 1 then M i c else T i c) (h := h r) (n := k) (r := r) (by omega) r (jAx _)]
   refine yF fun i c hi hc => ?_
   by_cases q : i = r
   ·subst q
    rw [zX, if_neg (jAe _), if_pos (by omega), e i hi c]
    congr 1
    exact zM fun j hj => by rw [if_pos (by omega)]
   ·rw [zO q]
    by_cases z : i < r
    ·rw [if_pos z, if_pos (by omega)]
    ·rw [if_neg z, if_neg (by omega)]
 have e1 := step k (jAx _)
 rw [yF (B := M) fun i c hi _ => by rw [if_pos hi]] at e1
 exact e1
theorem mxT_low (g : GS n w R L H k) {i j : Nat} (hi : i < k) (hj : j < i) : mxT n w R L i j = 0 := by
 unfold mxT
 by_cases z : ∀ c, c < n -> L j c = 0
 ·rw [if_pos z, if_neg (by omega)]
 ·rw [if_neg z, dt_comm]
  exact g.upright hi hj
theorem mx_det (g : GS n w R L H k) : det k (mxG n w R L) = Pd k fun i => mxT n w R L i i := by
 rw [det_rows (fun i hi j => mx_row g hi j), det_up fun i c hi hc => mxT_low g hi hc]
theorem mxT_pos (g : GS n w R L H k) (hw : ∀ c, c < n -> 0 < w c) {i : Nat} (hi : i < k) : 0 < mxT n w R L i i := by
 unfold mxT
 by_cases z : ∀ c, c < n -> L i c = 0
 ·rw [if_pos z, if_pos rfl]; decide
 ·rw [if_neg z]
  have e : dt n w (L i) (R i) = dt n w (L i) (L i) := by
   rw [dt_comm, qA8 (f' := fun c => L i c + Sg i fun j => R j c * H i j) (fun c _ => g.mix i hi c) (fun c _ => rfl), dt_add, dt_mix, zM (g := fun _ => 0) fun j hj => by rw [g.upright hi hj, jD4], qAv]
   grind
  rw [e]
  have : ∃ c, c < n /\ L i c ≠ 0 := Classical.byContradiction fun h => z fun c hc => Classical.byContradiction fun h2 => h ⟨c, hc, h2⟩
  obtain ⟨c, hc, h2⟩ := this
  exact dt_pos hw hc h2
theorem Pd_pos {f : Nat -> Rat} : ∀ {m : Nat}, (∀ i, i < m -> 0 < f i) -> 0 < Pd m f
 | 0, _ => by show (0 : Rat) < 1; decide
 | m + 1, h => by
  rw [qF8]
  exact Rat.mul_pos (Pd_pos (m := m) fun i hi => h i (by omega)) (h m (by omega))
theorem cram {m : Nat} (g : GS n w R L H (m + 1)) (c : Nat) : det (m + 1) (fun i j => if j < m then mxG n w R L i j else R i c) = det m (mxG n w R L) * L m c := by
 rw [<- qFv (r := m) (h := H m) (by omega) m (jAx _), det_last fun j hj => ?_]
 ·have e1 : upd (fun i j => if j < m then mxG n w R L i j else R i c) m (fun c' => (if c' < m then mxG n w R L m c' else R m c) - Sg m fun j => (if c' < m then mxG n w R L j c' else R j c) * H m j) m m = L m c := by
   rw [zX]
   simp only [jAe, if_false]
   have e := g.mix m (by omega) c
   show R m c - (Sg m fun j => R j c * H m j) = L m c
   generalize hq : (Sg m fun j => R j c * H m j) = q
   rw [hq] at e
   rw [e]
   grind
  rw [e1]
  congr 1
  exact yF fun i j hi hj => by rw [zO (by omega), if_pos hj]
 ·rw [zX, if_pos hj, zM (g := fun l => mxG n w R L l j * H m l) fun l _ => by rw [if_pos hj], <- mx_row g (by omega) j]
  exact mxT_low g (by omega) hj
theorem zb_dt {b q : Nat} {f h : Nat -> Rat} (hf : ∀ c, c < n -> Zb b (f c)) (hh : ∀ c, c < n -> Zb b (h c)) (hq : ∀ c, c < n -> Zb q (w c)) : Zb (n * (b * b * q)) (dt n w f h) := Zb.sg fun c hc => ((hf c hc).mul (hh c hc)).mul (hq c hc)
theorem gs_whole {b q B N m : Nat} (g : GS n w R L H (m + 1)) (hw : ∀ c, c < n -> 0 < w c) (hR : ∀ i c, i <= m -> Zb b (R i c)) (hq : ∀ c, c < n -> Zb q (w c)) (hB : n * (b * b * q) <= B) (hB1 : 1 <= B) (hb : b <= B) (hN : dB B (m + 1) < 2 ^ N) (hN' : dB B m < 2 ^ N) (c : Nat) : Le N (L m c) := by
 have zm : ∀ i j, i <= m -> j < m -> Zb B (mxG n w R L i j) := fun i j hi hj => by
  unfold mxG
  split
  ·split
   ·exact ⟨1, rfl, hB1⟩
   ·exact ⟨0, rfl, jBg _⟩
  ·exact (zb_dt (fun c _ => hR i c hi) (fun c _ => hR j c (by omega)) hq).mono hB
 obtain ⟨x, ex, hx⟩ := zb_det (B := B) (n := m + 1) (A := fun i j => if j < m then mxG n w R L i j else R i c) fun i j hi hj => by
  by_cases z : j < m
  ·rw [if_pos z]; exact zm i j (by omega) z
  ·rw [if_neg z]; exact (hR i c (by omega)).mono hb
 obtain ⟨y, ey, hy⟩ := zb_det (B := B) (n := m) (A := mxG n w R L) fun i j hi hj => zm i j (by omega) hj
 have e := cram g c
 have gm := g.cut (m := m) (by omega)
 have py : 0 < det m (mxG n w R L) := by
  rw [mx_det gm]
  exact Pd_pos fun i hi => mxT_pos gm hw hi
 rw [ex, ey] at e
 rw [ey] at py
 have y0 : 0 < y := Rat.intCast_pos.mp py
 have : L m c = jCp x y := by
  rw [jEe, e]
  have : (y : Rat) ≠ 0 := fun z => by rw [z] at py; exact absurd py (by decide)
  grind
 rw [this]
 exact Le.divInt' y0 (by omega) (by omega)
end
section
variable {rows : List (List Rat)} {ws : List Rat} {n : Nat}
theorem gX_GS (hR : Wide rows n) (hw : ws.length = n) (hp : ∀ c, c < n -> 0 < Vf ws c) : GS n (Vf ws) (gY rows n) (gX rows ws n) (ent (gsR rows ws).H) rows.length := by
 have g := gs_GS hR hw hp rows.length (jAx _)
 have eX : ∀ j c, c < n -> gX rows ws n j c = ent (gsR rows ws).P j c := fun j c hc => by unfold gX; rw [if_pos hc]
 refine ⟨fun i hi c => ?_, g.low, fun i j hi hj hn => ?_, fun i j hi hj z => g.free i j hi hj fun c hc => by rw [<- eX j c hc]; exact z c hc⟩
 ·by_cases hc : c < n
  ·have e := g.mix i hi c
   have eY : ∀ j, gY rows n j c = ent rows j c := fun j => by unfold gY; rw [if_pos hc]
   rw [eX i c hc, eY i, zM (g := fun j => ent rows j c * ent (gsR rows ws).H i j) fun j _ => by rw [eY j]]
   exact e
  ·have eY : ∀ j, gY rows n j c = if c - n = j then 1 else 0 := fun j => by unfold gY; rw [if_neg hc]
   have e1 : gX rows ws n i c = (if c - n = i then 1 else 0) - ent (gsR rows ws).H i (c - n) := by unfold gX; rw [if_neg hc]
   rw [e1, eY i]
   by_cases hl : c - n < i
   ·rw [Sg_one (k := c - n) hl fun j _ hj => by rw [eY j, if_neg (fun z => hj z.symm)]; grind, eY, if_pos rfl]
    generalize ent (gsR rows ws).H i (c - n) = q
    grind
   ·rw [zM (g := fun _ => 0) fun j hj => by rw [eY j, if_neg (by omega)]; grind, qAv, g.low i (c - n) hi (by omega)]
    grind
 ·rw [qA8 (eX i) (eX j)]
  exact g.up i j hi hj hn
theorem Zb.le {B N : Nat} {x : Rat} (h : Zb B x) (hB : B < 2 ^ N) (hN : 0 < N) : Le N x := by
 obtain ⟨z, rfl, hz⟩ := h
 exact ⟨jCg hz hB, by show (1 : Nat) < 2 ^ N; exact jC1 (by omega)⟩
theorem zb_ent {b : Nat} (hz : ∀ r ∈ rows, ∀ x ∈ r, Zb b x) (i c : Nat) : Zb b (ent rows i c) := by
 have z0 : Zb b 0 := ⟨0, rfl, jBg _⟩
 cases hr : rows[i]? with
 | none =>
  rw [qCw, show zR rows i = [] by unfold zR; rw [jD5, hr]; rfl]
  exact z0
 | some r =>
  rw [qA2 hr]
  by_cases hc : c < r.length
  ·have : r.getD c 0 ∈ r := by rw [jD5, jEn hc]; exact jDl hc
   exact hz r (jBt hr) _ this
  ·rw [jD5, jCo (by omega)]
   exact z0
theorem gs_GBw {b q B N A : Nat} (hR : Wide rows n) (hw : ws.length = n) (hp : ∀ c, c < n -> 0 < Vf ws c) (hz : ∀ r ∈ rows, ∀ x ∈ r, Zb b x) (hq : ∀ x ∈ ws, Zb q x) (hb1 : 1 <= b) (hB : n * (b * b * q) <= B) (hbB : b <= B) (hN : ∀ m, m <= rows.length -> dB B m < 2 ^ N) (hN0 : 0 < N) (hbN : b < 2 ^ N) (hqN : q < 2 ^ N) (hA : 2 * (1 + (3 * N + 1) * n) <= A) : GB rows ws N A := by
 have G := gX_GS (ws := ws) hR hw hp
 have zY : ∀ i c, Zb b (gY rows n i c) := fun i c => by
  unfold gY
  split
  ·exact zb_ent hz i c
  ·split
   ·exact ⟨1, rfl, hb1⟩
   ·exact ⟨0, rfl, jBg _⟩
 have zW : ∀ c, Zb q (Vf ws c) := fun c => by
  unfold Vf
  by_cases hc : c < ws.length
  ·have : ws.getD c 0 ∈ ws := by rw [jD5, jEn hc]; exact jDl hc
   exact hq _ this
  ·rw [jD5, jCo (by omega)]
   exact ⟨0, rfl, jBg _⟩
 have X : ∀ k, k < rows.length -> ∀ c, Le N (gX rows ws n k c) := fun k hk c =>
  gs_whole (G.cut (by omega)) hp (fun i c _ => zY i c) (fun c _ => zW c) hB (by omega) hbB (hN _ (by omega)) (hN _ (by omega)) c
 have hPl := (qAn ws rows).1
 have hHl := (qAn ws rows).2
 have hM : ∀ (i : Nat) sh, (gsR rows ws).H[i]? = some sh -> ∀ j, Le N ((if j = i then 1 else 0) - sh.getD j 0) := fun i sh hi j => by
  have hil : i < rows.length := by rw [<- hHl]; exact (jAr.mp hi).1
  have := X i hil (n + j)
  unfold gX at this
  rw [if_neg (by omega), jEo, qA2 hi] at this
  exact this
 refine ⟨fun r hr x hx => ?_, fun sh hsh x hx => ?_, fun i sh long hi hl x hx => ?_, fun k j hk hj => ?_⟩
 ·obtain ⟨k, hk⟩ := jDz hr
  have hkl : k < rows.length := by rw [<- hPl]; exact (jAr.mp hk).1
  obtain ⟨c, hc, rfl⟩ := qCi hx
  have := X k hkl c
  unfold gX at this
  rw [if_pos (by rw [<- qCd (ws := ws) hR r hr]; exact hc), qA2 hk] at this
  exact this
 ·obtain ⟨k, hk⟩ := jDz hsh
  obtain ⟨j, hj, rfl⟩ := qCi hx
  have := hM k sh hk j
  rw [qBy hk] at hj
  rw [if_neg (by omega)] at this
  have h2 := this.neg
  rw [show -(0 - sh.getD j 0) = sh.getD j 0 by grind] at h2
  exact h2
 ·obtain ⟨j, hj, rfl⟩ := qCi hx
  have hsl := qBy hi
  rw [qA9 (by omega)] at hj
  rw [qDm (by omega) j hj, hsl]
  exact hM i sh hi j
 ·have eP : ∀ c, c < n -> Le N (ent (gsR rows ws).P j c) := fun c hc => by
   have := X j (by omega) c
   unfold gX at this
   rw [if_pos hc] at this
   exact this
  have eR : ∀ c, Le N (ent rows k c) := fun c => (zb_ent hz k c).le hbN hN0
  have eW : ∀ c, Le N (Vf ws c) := fun c => (zW c).le hqN hN0
  have d : ∀ {f : Nat -> Rat}, (∀ c, c < n -> Le N (f c)) -> Le (1 + (3 * N + 1) * n) (dt n (Vf ws) f fun c => ent (gsR rows ws).P j c) := fun {f} hf => by
   have := Sg_le (N := N + N + N) (n := n) (f := fun c => f c * ent (gsR rows ws).P j c * Vf ws c) fun c hc => ((hf c hc).mul (eP c hc)).mul (eW c)
   rw [show N + N + N = 3 * N by omega] at this
   exact this
  rcases gs_A hR hw hp hk (show j < rows.length by omega) with ⟨_, g2⟩ | ⟨_, g2⟩
  ·rw [g2]
   exact Le.zero (by omega)
  ·rw [g2]
   exact ((d fun c _ => eR c).div (d eP) (by omega)).mono (by omega)
end
end Nm
end
section
namespace Nm
open Np PySem
theorem log2z {i : Int} {n : Nat} (h : i.natAbs < 2 ^ n) : i.natAbs.log2 <= n := qD5 h
theorem qD0 {i j : Int} (n : Nat) (hi : i.natAbs < 2 ^ n) (hj : j.natAbs < 2 ^ n) (hn : n <= 1000000) (S : Sto) : mulD (.int i) (.int j) S = ok (.int (i * j)) S := qAi (by have := log2z hi; have := log2z hj; omega) S
theorem spread_w (c : Int) {k : Nat} (hk : k <= 1000) (S : Sto) : ∃ m : Int, 0 <= m /\ m < 10 ^ 40 + 121 /\ F.k42_spread [.int c, .int (k : Int)] S = ok (.int m) S := by
 suffices h : W (F.k42_spread [.int c, .int (k : Int)] S) fun d S' => S' = S /\ ∃ m : Int, 0 <= m /\ m < 10 ^ 40 + 121 /\ d = .int m by
  obtain ⟨d, S', e, rfl, m, h1, h2, rfl⟩ := h.out
  exact ⟨m, h1, h2, e⟩
 have q40 : ∀ S, powD (.int 10) (.int 40) S = ok (.int (10 ^ 40)) S := fun S => qDv (by decide) S
 have e40 : (10 : Int) ^ 40 + 121 ≠ 0 := by decide
 obtain ⟨f1, f2⟩ := qA1 c (show (0 : Int) < 10 ^ 40 + 121 by decide)
 have b200 : (10 : Int) ^ 40 + 121 < 2 ^ 200 := by decide
 have k1 : (k : Int).natAbs < 2 ^ 200 := by
  have : (2 : Nat) ^ 200 > 10000000 := by decide
  omega
 have k2 : ((k : Int) * k).natAbs < 2 ^ 200 := by
  rw [jCu, jCt]
  exact jCg (jEi hk hk) (by decide)
 have k3 : ((k : Int) * k + 3 * k + 7).natAbs < 2 ^ 200 := by
  have h1 : (k * k : Nat) <= 1000 * 1000 := jEi hk hk
  have e : ((k : Int) * k + 3 * k + 7) = ((k * k + 3 * k + 7 : Nat) : Int) := by simp
  rw [e, jCt]
  have : (2 : Nat) ^ 200 > 10000000 := by decide
  omega
 (unfold F.k42_spread; refine Np.W_fnF rfl ?_; unfold Den.k42_spread; simp_all [])
 simp_all [q40, qAc e40, qD0 200 (show (c.fmod (10 ^ 40 + 121)).natAbs < 2 ^ 200 by omega) (show (31415926535897932384626433832795 : Int).natAbs < 2 ^ 200 by decide) (by decide), qD0 200 (show (k : Int).natAbs < 2 ^ 200 from k1) (show (k : Int).natAbs < 2 ^ 200 from k1) (by decide), qD0 200 (show (3 : Int).natAbs < 2 ^ 200 by decide) (show (k : Int).natAbs < 2 ^ 200 from k1) (by decide), qD0 200 k3 (show (2718281828459045235360287471 : Int).natAbs < 2 ^ 200 by decide) (by decide)]
 generalize c.fmod (10 ^ 40 + 121) * 31415926535897932384626433832795 + ((k : Int) * k + 3 * k + 7) * 2718281828459045235360287471 = z
 obtain ⟨g1, g2⟩ := qA1 z (show (0 : Int) < 10 ^ 40 + 121 by decide)
 exact ⟨trivial, _, g1, g2, rfl⟩
theorem qC0 {n : Int} (h0 : 0 <= n) (h1 : n < 10 ^ 40 + 121) {k : Nat} (hk : k <= 1000) (S : Sto) : ∃ m : Int, 0 <= m /\ m < 10 ^ 30 + 57 /\ F.k42_mixed [.int n, .int (k : Int)] S = ok (.int m) S := by
 suffices h : W (F.k42_mixed [.int n, .int (k : Int)] S) fun d S' => S' = S /\ ∃ m : Int, 0 <= m /\ m < 10 ^ 30 + 57 /\ d = .int m by
  obtain ⟨d, S', e, rfl, m, h1, h2, rfl⟩ := h.out
  exact ⟨m, h1, h2, e⟩
 have q30 : ∀ S, powD (.int 10) (.int 30) S = ok (.int (10 ^ 30)) S := fun S => qDv (by decide) S
 have e30 : (10 : Int) ^ 30 + 57 ≠ 0 := by decide
 have b200 : (10 : Int) ^ 40 + 121 < 2 ^ 200 := by decide
 have b30 : (10 : Int) ^ 30 + 57 < 2 ^ 200 := by decide
 have big : (2 : Nat) ^ 200 > 10000000 := by decide
 generalize hz : n * 69621 + ((k : Int) + 1) * 1000003 = z
 obtain ⟨f1, f2⟩ := qA1 z (show (0 : Int) < 10 ^ 30 + 57 by decide)
 (unfold F.k42_mixed; refine Np.W_fnF rfl ?_; unfold Den.k42_mixed; simp_all [])
 simp_all [q30, qAc e30, qD0 200 (show n.natAbs < 2 ^ 200 by omega) (show (69621 : Int).natAbs < 2 ^ 200 by decide) (by decide), qD0 200 (show ((k : Int) + 1).natAbs < 2 ^ 200 by omega) (show (1000003 : Int).natAbs < 2 ^ 200 by decide) (by decide), hz, qD0 200 (show (z.fmod (10 ^ 30 + 57)).natAbs < 2 ^ 200 by omega) (show (z.fmod (10 ^ 30 + 57)).natAbs < 2 ^ 200 by omega) (by decide)]
 generalize z.fmod (10 ^ 30 + 57) * z.fmod (10 ^ 30 + 57) = y
 obtain ⟨g1, g2⟩ := qA1 y (show (0 : Int) < 10 ^ 30 + 57 by decide)
 exact ⟨trivial, _, g1, g2, rfl⟩
theorem W_compR {it : DI} {g : DG} {e : DE} {base : DS} {k : Nat} {S : Sto} {Q : D -> Sto -> Prop} (Pr : Rat -> Prop) (vals : D -> List (Option D)) (xs : List D) (P : D -> Prop) (hg : Np.Tg g k vals base P) (hP : ∀ x ∈ xs, P x)
  (hit : W (it base S) fun src S' => xs.length <= src.len S' /\ src.len S' <= 1000000 /\ SLe S S' /\ ∀ i S'', SLe S' S'' -> src.get S'' i = some xs[i]?)
  (step : ∀ x S', x ∈ xs -> SLe S S' -> W (e (base ++ vals x) S') fun d S'' => SLe S' S'' /\ ∃ q, Pr q /\ d = ratD q)
  (fin : ∀ (qs : List Rat) S' b, SLe S S' -> S.length <= b -> qs.length = xs.length -> (∀ q ∈ qs, Pr q) -> RowA S' b qs -> Q (.ref b) S') : W (qAj it k g e base S) Q := by
 refine W_compX vals xs (fun _ d => ∃ q, Pr q /\ d = ratD q) P hg hP hit (fun x S' hx hS => (step x S' hx hS).mono fun d S'' ⟨h1, h2⟩ => ⟨h2, h1⟩) fun ds S' hS hl hd => ?_
 have h : ∃ qs : List Rat, ds = qs.map ratD /\ ∀ q ∈ qs, Pr q := by
  have : ∀ d ∈ ds, ∃ q, Pr q /\ d = ratD q := fun d hm => by
   obtain ⟨i, hi, rfl⟩ := jDj hm
   exact hd i (xs[i]'(by omega)) _ (by simp) (by simp [hi])
  clear hd hl
  induction ds with
  | nil => exact ⟨[], rfl, fun _ h => by cases h⟩
  | cons d ds ih =>
   obtain ⟨q, hq, rfl⟩ := this d (.head _)
   obtain ⟨qs, rfl, hqs⟩ := ih fun d hd => this d (.tail _ hd)
   exact ⟨q :: qs, rfl, fun p hp => by
    rcases jAo.mp hp with rfl | hp
    ·exact hq
    ·exact hqs p hp⟩
 obtain ⟨qs, rfl, hq⟩ := h
 exact fin qs _ _ (hS.push _) hS.len (by simpa using hl) hq (qAd S' _)
def GPt (S0 S' : Sto) (d : D) (P : Nat -> List Pt -> Prop) : Prop := SLe S0 S' /\ ∃ (b a w : Nat) (q : List (Pt × Nat)), d = .ref b /\ zH S' b = some [.int (w : Int), .ref a] /\ zH S' a = some (q.map tpD) /\ (∀ x ∈ q, RowA S' x.2 x.1.row) /\ P w (q.map (·.1))
def Pw (b v r : Nat) (w : Nat) (ts : List Pt) : Prop := ∀ t ∈ ts, t.row.length = w /\ (∀ x ∈ t.row, Zb b x) /\ Zb v t.want /\ Zb r t.wt /\ 0 < t.wt.num
theorem it_rng {base : DS} {S : Sto} {e : DE} {n : Nat} (he : e base S = ok (.int (n : Int)) S) (hn : n < 1000000) : W (itA qBv (yH e aNil) base S) fun src S' => ((jAg n).map fun i => D.int (i : Nat)).length <= src.len S' /\ src.len S' <= 1000000 /\ SLe S S' /\ ∀ i S'', SLe S' S'' -> src.get S'' i = some ((jAg n).map fun i => D.int (i : Nat))[i]? := by
 rw [it_rng1 (n := n) (by show bnd (e base S) _ = _; rw [he]; rfl) (by omega), qBa, W_ok]
 exact ⟨jAx _, by show jBn _ <= _; simp; omega, SLe.rfl, fun i S'' _ => rfl⟩
theorem broad42_w {n : Int} (h0 : 0 <= n) (h1 : n < 10 ^ 40 + 121) (S : Sto) : W (F.k42_broad [.int n] S) fun d S' => GPt S S' d fun w ts => w <= 12 /\ ts.length <= 14 /\ Pw 2 9 3 w ts := by
 obtain ⟨f1, f2⟩ := qA1 n (show (0 : Int) < 7 by decide)
 obtain ⟨w, hw⟩ : ∃ w : Nat, 6 + n.fmod 7 = (w : Int) := ⟨(6 + n.fmod 7).toNat, by omega⟩
 have e7 : (7 : Int) ≠ 0 := by decide
 have e2 : (2 : Int) ≠ 0 := by decide
 have e3 : (3 : Int) ≠ 0 := by decide
 have e14 : (14 : Int) ≠ 0 := by decide
 have e19 : (19 : Int) ≠ 0 := by decide
 have e112 : (112 : Int) ≠ 0 := by decide
 have e224 : (224 : Int) ≠ 0 := by decide
 have e1000 : (1000 : Int) ≠ 0 := by decide
 have e9 : (10 : Int) ^ 9 ≠ 0 := by decide
 have q9 : ∀ S, powD (.int 10) (.int 9) S = ok (.int (10 ^ 9)) S := fun S => qDv (by decide) S
 have b40 : (10 : Int) ^ 30 + 57 < 10 ^ 40 + 121 := by decide
 have ew4 : (w : Int) - 4 ≠ 0 := by omega
 have ew3 : (w : Int) + 3 ≠ 0 := by omega
 unfold F.k42_broad
 refine W_fnF rfl ?_
 rw [W_outF]
 unfold Den.k42_broad
 refine qAb (fun δ' S' => S' = S /\ δ' = [some (.int n), some (.int (w : Int)), none, none, none, none, none]) ?_ ?_
 ·simp_all [qAc e7, hw]
  exact ⟨_, rfl, trivial, rfl⟩
 rintro _ S' ⟨e', rfl⟩
 obtain rfl : S = S' := e'.symm
 refine qAb (fun δ' S' => SLe S S' /\ ∃ a, S.length <= a /\ δ' = [some (.int n), some (.int (w : Int)), some (.ref a), none, none, none, none] /\ zH S' a = some []) ?_ ?_
 ·simp_all []
  refine qAw (qAx (by simp) _) fun S1 a l1 n1 r1 => ?_
  exact ⟨_, rfl, l1, a, n1, rfl, r1⟩
 rintro _ S1 ⟨l1, a, n1, rfl, r1⟩
 refine qAb (fun δ' S' => SLe S S' /\ (∃ o3 o4 o5 o6, δ' = [some (.int n), some (.int (w : Int)), some (.ref a), o3, o4, o5, o6]) /\ ∃ q : List (Pt × Nat), zH S' a = some (q.map tpD) /\ (∀ x ∈ q, RowA S' x.2 x.1.row) /\ q.length = w + 2 /\ Pw 2 9 3 w (q.map (·.1))) ?_ ?_
 ·simp_all [show (w : Int) + 2 = ((w + 2 : Nat) : Int) by omega, qB9 (show w + 2 < 1000000 by omega), qBa]
  refine qBl ((jAg (w + 2)).map fun i => D.int (i : Nat)) (fun i δ S' => SLe S S' /\ (∃ o3 o4 o5 o6, δ = [some (.int n), some (.int (w : Int)), some (.ref a), o3, o4, o5, o6]) /\ ∃ q : List (Pt × Nat), zH S' a = some (q.map tpD) /\ (∀ x ∈ q, RowA S' x.2 x.1.row /\ x.2 ≠ a) /\ q.length = i /\ Pw 2 9 3 w (q.map (·.1))) (jAx _) ⟨l1, ⟨_, _, _, _, rfl⟩, [], r1, fun _ h => (by cases h), rfl, fun _ h => (by cases h)⟩ (fun i δ S' _ => rfl) ?_ ?_
  ·rintro i x δ S2 hx ⟨l2, ⟨o3, o4, o5, o6, rfl⟩, q, r2, hq, ql, pw⟩
   obtain ⟨rfl, hi⟩ := qAh hx
   refine W.intro (a := [some (.int n), some (.int (w : Int)), some (.ref a), some (.int (i : Nat)), o4, o5, o6]) (S := S2) rfl ?_
   obtain ⟨m, m0, m1, em⟩ := qC0 h0 h1 (k := 100 + i) (by omega) S2
   have em : F.k42_mixed [.int n, .int (100 + (i : Int))] S2 = ok (.int m) S2 := by
    have : (100 + (i : Int)) = ((100 + i : Nat) : Int) := by omega
    rw [this]; exact em
   have va := qAe r2
   refine qAb (fun δ' S' => S' = S2 /\ δ' = [some (.int n), some (.int (w : Int)), some (.ref a), some (.int (i : Nat)), some (.int m), o5, o6]) ?_ ?_
   ·simp_all [em]
    exact ⟨_, rfl, trivial, rfl⟩
   rintro _ S' ⟨rfl, rfl⟩
   refine qAb (fun δ' S3 => SLe S' S3 /\ ∃ c row, S'.length <= c /\ δ' = [some (.int n), some (.int (w : Int)), some (.ref a), some (.int (i : Nat)), some (.int m), some (.ref c), o6] /\ RowA S3 c row /\ row.length = w /\ ∀ x ∈ row, Zb 1 x) ?_ ?_
   ·simp_all []
    refine W_compR (Zb 1) _ ((jAg w).map fun i => D.int (i : Nat)) _ (qA4 [some (.int n), some (.int (w : Int)), some (.ref a), some (.int (i : Nat)), some (.int m), o5, o6]) (fun _ _ => trivial) (it_rng rfl (by omega)) ?_ ?_
    ·intro x S3 hx l3
     obtain ⟨j, hj, rfl⟩ := jB9.mp hx
     have hj := jAi.mp hj
     obtain ⟨y, y0, y1, ey⟩ := qC0 m0 (by omega) (k := 40 + j) (by omega) S3
     have ey : F.k42_mixed [.int m, .int (40 + (j : Int))] S3 = ok (.int y) S3 := by
      have : (40 + (j : Int)) = ((40 + j : Nat) : Int) := by omega
      rw [this]; exact ey
     obtain ⟨z1, z2⟩ := qA1 y (show (0 : Int) < 3 by decide)
     show W (fnE tupD _ [some (.int n), some (.int (w : Int)), some (.ref a), some (.int (i : Nat)), some (.int m), o5, o6, some (.int (j : Nat))] S3) _
     simp_all [ey, qAc e3, tup2]
     exact ⟨SLe.rfl, ((y.fmod 3 - 1 : Int) : Rat), ⟨_, rfl, by omega⟩, rfl⟩
    ·intro qs S3 c l3 n3 hl hz r3
     exact ⟨_, rfl, l3, c, qs, n3, rfl, r3, by simpa using hl, hz⟩
   rintro _ S3 ⟨l3, c, row, nc, rfl, rc, hrl, hrz⟩
   refine qAb (fun δ' S4 => SLe S' S4 /\ ∃ c row, S'.length <= c /\ δ' = [some (.int n), some (.int (w : Int)), some (.ref a), some (.int (i : Nat)), some (.int m), some (.ref c), o6] /\ RowA S4 c row /\ row.length = w /\ ∀ x ∈ row, Zb 1 x) ?_ ?_
   ·by_cases hlt : (i : Int) < (w : Int)
    ·simp_all [hlt, tup2]
     refine qAw (qAx (by simp) _) fun S4 z l4 n4 r4 => ?_
     refine qAw (qFg r4 (by omega)) fun S5 z5 l5 n5 r5 => ?_
     refine qAw (qAx (by simp) _) fun S6 z6 l6 n6 r6 => ?_
     refine qAw (qF4 (l6.lst r5) r6 (by simp; omega)) fun S7 z7 l7 n7 r7 => ?_
     have L7 := l4.trans (l5.trans (l6.trans l7))
     rw [show (i : Int) + 1 = ((i + 1 : Nat) : Int) by omega, slD_ref (L7.lst rc), cut_lo, W_ok]
     have la : SLe S7 (S7 ++ [O.lst ((row.map ratD).drop (i + 1))]) := SLe.app _
     refine qAw (qF4 (la.lst r7) (qAd S7 _) (by simp; omega)) fun S8 z8 l8 n8 r8 => ?_
     have v3 := l3.len
     have v7 := L7.len
     have v8 := la.len
     refine ⟨_, rfl, l3.trans (L7.trans (la.trans l8)), z8, jBk i 0 ++ [1] ++ row.drop (i + 1), by omega, rfl, ?_, by simp; omega, fun x hx => ?_⟩
     ·show zH S8 z8 = _
      rw [r8]
      simp only [jEk, List.map_replicate, List.map_drop, jBb, jB7]
     ·rcases jAp.mp hx with hx | hx
      ·rcases jAp.mp hx with hx | hx
       ·rw [(jDv.mp hx).2]; exact ⟨0, rfl, by decide⟩
       ·rw [jCj.mp hx]; exact ⟨1, rfl, by decide⟩
      ·exact hrz x (List.mem_of_mem_drop hx)
    ·simp_all [hlt]
     exact ⟨_, rfl, l3, c, row, nc, rfl, rc, hrl, hrz⟩
   rintro _ S4 ⟨l4, c, row, nc, rfl, rc, hrl, hrz⟩
   refine qAb (fun δ' S5 => SLe S' S5 /\ ∃ row o6', δ' = [some (.int n), some (.int (w : Int)), some (.ref a), some (.int (i : Nat)), some (.int m), some (.ref c), o6'] /\ RowA S5 c row /\ row.length = w /\ ∀ x ∈ row, Zb 2 x) ?_ ?_
   ·by_cases h7 : (n.fdiv 7).fmod 2 = 1
    ·obtain ⟨y1, y2⟩ := qA1 (n.fdiv 14) (show (0 : Int) < (w : Int) - 4 by omega)
     obtain ⟨p, hp⟩ : ∃ p : Nat, 4 + (n.fdiv 14).fmod ((w : Int) - 4) = (p : Int) := ⟨(4 + (n.fdiv 14).fmod ((w : Int) - 4)).toNat, by omega⟩
     have k0 : 0 < row.length := by omega
     have k1 : p - 1 < row.length := by omega
     have kp : p < row.length := by omega
     have g0 : (row.map ratD)[0]? = some (ratD row[0]) := by simp [k0]
     have g1 : (row.map ratD)[p - 1]? = some (ratD row[p - 1]) := by simp [k1]
     have z0 := hrz _ (jDl k0)
     have z1 := hrz _ (jDl k1)
     have s0 : sm row[0] := (z0.le (N := 2) (by decide) (by decide)).sm (by decide)
     have s1 : sm row[p - 1] := (z1.le (N := 2) (by decide) (by decide)).sm (by decide)
     simp_all [qAf e7, qAc e2, h7, qAf e14, qAc ew4, hp, ixD_at0 rc g0, show (p : Int) - 1 = ((p - 1 : Nat) : Int) by omega, qAg rc g1, qCa s0 s1, qCu, setXK]
     refine qEn rc (by simpa using kp) fun S5 _ kS _ r5 => ?_
     refine ⟨_, rfl, kS _ l4 nc, row.set p (row[0] + row[p - 1]), _, rfl, by show zH _ _ = _; rw [r5, jD0], by simp [hrl], fun x hx => ?_⟩
     rcases jD3 hx with hx | rfl
     ·exact (hrz x hx).mono (by decide)
     ·exact z0.add z1
    ·simp_all [qAf e7, qAc e2, h7]
     exact ⟨_, rfl, l4, row, _, rfl, rc, hrl, fun x hx => (hrz x hx).mono (by decide)⟩
   rintro _ S5 ⟨l5, row, o6', rfl, rc, hrl, hrz⟩
   obtain ⟨z1, z2⟩ := qA1 (m.fdiv 1000) (show (0 : Int) < 19 by decide)
   obtain ⟨y1, y2⟩ := qA1 (m.fdiv (10 ^ 9)) (show (0 : Int) < 3 by decide)
   have r3 := l5.lst r2
   simp_all [qB1 r3, qAf e1000, qAc e19, tup2, tup3f, q9, qAf e9, qAc e3]
   refine W_app r3 (by simp; omega) fun S6 _ k6 kk r6 => ?_
   have qa : ∀ y ∈ q, y.2 ≠ a := fun y hy => (hq y hy).2
   refine ⟨k6 _ (l2.trans l5) n1, ⟨_, _, _, _, rfl⟩, q ++ [(⟨0, row, (((m.fdiv 1000).fmod 19 - 9 : Int) : Rat), ((1 + (m.fdiv (10 ^ 9)).fmod 3 : Int) : Rat)⟩, c)], by rw [r6, jEk]; rfl, fun y hy => ?_, by simp [ql], fun t ht => ?_⟩
   ·rcases jAp.mp hy with hy | hy
    ·exact ⟨by show zH S6 y.2 = _; rw [kk _ (qa y hy)]; exact l5.lst (hq y hy).1, qa y hy⟩
    ·rw [jCj.mp hy]
     have hca : c ≠ a := by omega
     exact ⟨by show zH S6 c = _; rw [kk _ hca]; exact rc, hca⟩
   ·rw [jEk] at ht
    rcases jAp.mp ht with ht | ht
    ·exact pw t ht
    ·rw [jCj.mp ht]
     exact ⟨hrl, hrz, ⟨_, rfl, by omega⟩, ⟨_, rfl, by omega⟩, by show (0 : Int) < 1 + (m.fdiv (10 ^ 9)).fmod 3; omega⟩
  ·rintro δ S2 ⟨l2, hδ, q, r2, hq, ql, pw⟩
   exact ⟨_, rfl, l2, hδ, q, r2, fun x hx => (hq x hx).1, by simpa using ql, pw⟩
 rintro _ S2 ⟨l2, ⟨o3, o4, o5, o6, rfl⟩, q, r2, hq, ql, pw⟩
 by_cases h112 : (n.fdiv 112).fmod 2 = 1
 ·obtain ⟨z1, z2⟩ := qA1 (n.fdiv 224) (show (0 : Int) < (w : Int) + 3 by omega)
  obtain ⟨k, hk⟩ : ∃ k : Nat, (n.fdiv 224).fmod ((w : Int) + 3) = (k : Int) := ⟨((n.fdiv 224).fmod ((w : Int) + 3)).toNat, by omega⟩
  simp_all [qAf e112, qAc e2, h112, qAf e224, qAc ew3, hk, slE, slK, slD_ref r2, cut_hi]
  have la : SLe S2 (S2 ++ [O.lst ((q.map tpD).take k)]) := SLe.app _
  refine qAw (qAx (by simp) _) fun S3 b l3 n3 r3 => ?_
  refine ⟨l2.trans (la.trans l3), b, S2.length, w, q.take k, rfl, r3, l3.lst (by rw [List.map_take]; exact qAd S2 _), fun x hx => (la.trans l3).lst (hq x (jDp hx)), by omega, by simp; omega, fun t ht => pw t ?_⟩
  rw [List.map_take] at ht
  exact jDp ht
 ·simp_all [qAf e112, qAc e2, h112]
  refine qAw (qAx (by simp) _) fun S3 b l3 n3 r3 => ?_
  exact ⟨l2.trans l3, b, a, w, q, rfl, r3, l3.lst r2, fun x hx => l3.lst (hq x hx), by omega, by rw [jBd, ql]; omega, pw⟩
def Pn (B : Nat) (w : Nat) (ts : List Pt) : Prop := ∀ t ∈ ts, t.row.length = w /\ (∀ x ∈ t.row, Le B x) /\ Le 67 t.want /\ Le 3 t.wt /\ 0 < t.wt.num
theorem neg13 : D.tup [.int (-1), .int 3] = ratD (mkRat (-1) 3) := by
 show _ = D.tup [.int (mkRat (-1) 3).num, .int ((mkRat (-1) 3).den : Int)]
 rw [show (mkRat (-1) 3).num = -1 by decide, show (mkRat (-1) 3).den = 3 by decide]
 rfl
theorem negD_i (i : Int) (S : Sto) : negD (.int i) S = ok (.int (-i)) S := rfl
theorem dB_mono {B : Nat} (hB : 1 <= B) : ∀ {m n : Nat}, m <= n -> dB B m <= dB B n := fun {m n} h => by
 induction n with
 | zero => rw [show m = 0 by omega]; exact jAx _
 | succ n ih =>
  by_cases e : m = n + 1
  ·rw [e]; exact jAx _
  ·refine jAj (ih (by omega)) ?_
   show dB B n <= (n + 1) * (B * dB B n)
   have : 1 * (1 * dB B n) <= (n + 1) * (B * dB B n) := jEi (by omega) (jEi hB (jAx _))
   omega
theorem zb_turn {T : List (List Rat)} {w b : Nat} (h : ∀ r ∈ T, ∀ x ∈ r, Zb b x) : ∀ r ∈ qAo T w, ∀ x ∈ r, Zb b x := fun r hr x hx => by
 obtain ⟨j, _, rfl⟩ := jB9.mp hr
 unfold colR at hx
 obtain ⟨r', hr', rfl⟩ := jB9.mp hx
 by_cases hj : j < r'.length
 ·have : r'.getD j 0 ∈ r' := by rw [jD5, jEn hj]; exact jDl hj
  exact h r' hr' _ this
 ·rw [jD5, jCo (by omega)]
  exact ⟨0, rfl, jBg _⟩
theorem sml_whole {b q B N w : Nat} {ts : List Pt} (hw : w <= 12) (hl : ts.length <= 60) (h : Pw b b q w ts) (hb1 : 1 <= b) (hb : b < 16) (hq : q < 16) (hB : ts.length * (b * b * q) <= B) (hbB : b <= B) (hN : dB B (w + 1) < 2 ^ N) (h4 : 4 <= N) (hN' : N <= 200) : Sml w ts := by
 have bN : b < 2 ^ N := jAd (show b < 2 ^ 4 from hb) (jCr (by decide) h4)
 have qN : q < 2 ^ N := jAd (show q < 2 ^ 4 from hq) (jCr (by decide) h4)
 have W0 : Wide (colP w ts) ts.length := by
  have := qCg (ts.map (·.row)) w
  rwa [jBd] at this
 have cl : (colP w ts).length = w := qA3 _ _
 have p0 := pos_of fun t ht => (h t ht).2.2.2.2
 have z0 : ∀ r ∈ colP w ts, ∀ x ∈ r, Zb b x := zb_turn fun r hr x hx => by
  obtain ⟨t, ht, rfl⟩ := jB9.mp hr
  exact (h t ht).2.1 x hx
 have zq : ∀ x ∈ ts.map (·.wt), Zb q x := fun x hx => by
  obtain ⟨t, ht, rfl⟩ := jB9.mp hx
  exact (h t ht).2.2.2.1
 have dn : ∀ m, m <= w + 1 -> dB B m < 2 ^ N := fun m hm => jCg (dB_mono (by omega) hm) hN
 have al : (3 * N + 1) * ts.length <= 601 * 60 := jEi (by omega) hl
 refine ⟨hw, hl, fun t ht => ?_, N, 2 * (1 + 601 * 60), gs_GBw W0 (by simp) p0 z0 zq hb1 hB hbB (fun m hm => dn m (by omega)) (by omega) bN qN (by omega), gs_GBw (fun r hr => ?_) (by simp) p0 (fun r hr => ?_) zq hb1 hB hbB (fun m hm => dn m (by rw [jBu, cl] at hm; simpa using hm)) (by omega) bN qN (by omega), ?_, ?_, by omega⟩
 ·obtain ⟨a1, a2, a3, a4, a5⟩ := h t ht
  exact ⟨a1, fun x hx => ((a2 x hx).le (N := 4) hb (by decide)).mono (by decide), (a3.le (N := 4) hb (by decide)).mono (by decide), (a4.le (N := 4) hq (by decide)).mono (by decide), a5⟩
 ·rcases jAp.mp hr with hr | hr
  ·exact W0 r hr
  ·rw [jCj.mp hr]; simp
 ·rcases jAp.mp hr with hr | hr
  ·exact z0 r hr
  ·rw [jCj.mp hr]
   intro x hx
   obtain ⟨t, ht, rfl⟩ := jB9.mp hx
   exact (h t ht).2.2.1
 ·exact jAj (jEi (show N + N + 221 <= 621 by omega) (show ts.length + 1 <= 61 by omega)) (by decide)
 ·exact jAj (jEi (show N + 2 * (1 + 601 * 60) + 1 <= 100000 by omega) (show w + 1 <= 13 by omega)) (by decide)
theorem sml42 {w : Nat} {ts : List Pt} (h : (w <= 2 /\ ts.length <= 60 /\ Pw 9 9 1 w ts) \/ (w <= 12 /\ ts.length <= 14 /\ Pw 2 9 3 w ts) \/ (w <= 3 /\ ts.length <= 6 /\ Pn 139 w ts)) : Sml w ts := by
 rcases h with ⟨h1, h2, h3⟩ | ⟨h1, h2, h3⟩ | ⟨h1, h2, h3⟩
 ·exact sml_whole (b := 9) (q := 1) (B := 4860) (N := 40) (by omega) (by omega) h3 (by decide) (by decide) (by decide) (by omega) (by decide) (jCg (dB_mono (by decide) (show w + 1 <= 3 by omega)) (by decide)) (by decide) (by decide)
 ·refine sml_whole (b := 9) (q := 3) (B := 3402) (N := 190) (by omega) (by omega) (fun t ht => ?_) (by decide) (by decide) (by decide) (by omega) (by decide) (jCg (dB_mono (by decide) (show w + 1 <= 13 by omega)) (by decide +kernel)) (by decide) (by decide)
  obtain ⟨a1, a2, a3⟩ := h3 t ht
  exact ⟨a1, fun x hx => (a2 x hx).mono (by decide), a3⟩
 ·exact Sml.of8 (by omega) (by omega) fun t ht => by
   obtain ⟨a1, a2, a3, a4, a5⟩ := h3 t ht
   exact ⟨a1, fun x hx => (a2 x hx).mono (by decide), a3.mono (by decide), a4.mono (by decide), a5⟩
theorem ratio42_w (q : Rat) (S : Sto) : W (F.k42_ratio [ratD q] S) fun d S' => d = .bl true /\ S' = S := by
 have hd : (0 : Int) < (q.den : Int) := by have := q.den_pos; omega
 unfold F.k42_ratio
 refine W_fnF rfl ?_
 rw [W_outF]
 unfold Den.k42_ratio
 refine qAb (fun δ' S' => S' = S /\ δ' = [some (ratD q), none]) ?_ ?_
 ·unfold ratD
  simp_all []
  exact W.intro rfl ⟨_, rfl, rfl, rfl⟩
 rintro _ S' ⟨rfl, rfl⟩
 refine qAb (fun δ' S1 => S1 = S' /\ ∃ o, δ' = [some (ratD q), o]) ?_ ?_
 ·simp_all [show itT (ratD q) S' = ok (.fix [.int q.num, .int (q.den : Int)]) S' from rfl]
  refine qBl [.int q.num, .int (q.den : Int)] (fun i δ S1 => S1 = S' /\ ∃ o, δ = [some (ratD q), o]) (jAx _) ⟨rfl, _, rfl⟩ (fun i δ S' _ => rfl) ?_ ?_
  ·rintro i x δ S1 hx ⟨rfl, o, rfl⟩
   have hx : ∃ z : Int, x = .int z := by
    match i, hx with
    | 0, h => exact ⟨_, (Option.some.inj h).symm⟩
    | 1, h => exact ⟨_, (Option.some.inj h).symm⟩
    | i + 2, h => cases h
   obtain ⟨z, rfl⟩ := hx
   simp_all []
   exact ⟨rfl, _, rfl⟩
  ·rintro δ S1 ⟨rfl, o, rfl⟩
   exact ⟨_, rfl, rfl, o, rfl⟩
 rintro _ S1 ⟨rfl, o, rfl⟩
 simp_all [show ixD (ratD q) (.int 1) S1 = ok (.int (q.den : Int)) S1 from rfl, hd, show ixD (ratD q) (.int 0) S1 = ok (.int q.num) S1 from rfl, low_rat, eqD_rat]
section
variable {w : Nat} {ts : List Pt}
def thg (ts : List Pt) (c j : Nat) : Rat := ent (ts.map (·.row)) c j
abbrev wtF (ts : List Pt) : Nat -> Rat := Vf (ts.map (·.wt))
theorem thg_get {c : Nat} {t : Pt} (h : ts[c]? = some t) (j : Nat) : thg ts c j = t.row.getD j 0 := by
 unfold thg
 exact qA2 (by rw [jBs, h]; rfl)
theorem qCm {j c : Nat} (hj : j < w) (hc : c < ts.length) : ent (colP w ts) j c = thg ts c j := turn_ent hj (by simpa using hc)
theorem qEt {j : Nat} (hj : j < w) : zR (colP w ts) j = colR (ts.map (·.row)) j := by
 refine yD ?_
 unfold colP qAo
 rw [jBs, List.getElem?_range hj]
 rfl
theorem Sml.gs (h : Sml w ts) : GS ts.length (wtF ts) (ent (colP w ts)) (ent (gPa w ts)) (ent (gHa w ts)) w := gs_GS h.wideC (by simp) h.pos w (by rw [colP_len]; exact jAx _)
theorem qC2 {k : Nat} : k ∈ qBf w ts ↔ k < w /\ ∀ c, ent (gPa w ts) k c = 0 := by
 unfold qBf
 rw [jAh, jAi]
 refine and_congr_right fun hk => ?_
 show qCr (zR (gPa w ts) k) = true ↔ _
 rw [qBi]
 rfl
end
end Nm
end
section
namespace Nm
open Np PySem
section
variable {S : Sto} {f a w c wa we pa n1 n2 : Nat} {ts : List Pt} {q : List (Pt × Nat)} {cs as bs : List Nat}
theorem q_get {q : List (Pt × Nat)} {i : Nat} {y : Pt × Nat} (h : q[i]? = some y) : (q.map (·.1))[i]? = some y.1 := by rw [jBs, h]; rfl
theorem col_comp {base : DS} {S : Sto} {a w j : Nat} {q : List (Pt × Nat)} {it : DI} {ej : DE} (hit : it base S = ok (.one a) S) (ha : zH S a = some (q.map tpD)) (hl : q.length <= 1000000) (hr : ∀ x ∈ q, RowA S x.2 x.1.row) (hw : ∀ x ∈ q, x.1.row.length = w) (hj : j < w) (hej : ∀ o : D, ej (base ++ [some o]) S = ok (.int (j : Int)) S) (hv : ∀ o : D, vr base.length (base ++ [some o]) S = ok o S) :
  qAj it 1 (setG base.length) (op2 ixD (op2 ixD (vr base.length) (cst (.int 0))) ej) base S = ok (.ref S.length) (S ++ [.lst ((colR ((q.map (·.1)).map (·.row)) j).map ratD)]) := by
 refine qEi _ (qA4 base) hit (Has.one ha) (by rw [qAs ha, jBd]; exact hl) (fun _ _ => trivial) (by simp [colR]) fun i x z hx hz => ?_
 obtain ⟨y, hy, rfl⟩ := qAr hx
 have ym := jBt hy
 obtain ⟨v, hv'⟩ := zQ (xs := y.1.row) (i := j) (by rw [hw y ym]; exact hj)
 have ez : z = ratD v := by
  simp only [colR, jCc, jBs, hy, jCe, Function.comp] at hz
  rw [jD5, hv'] at hz
  exact (Option.some.inj hz).symm
 subst ez
 show op2 ixD _ _ (base ++ [some (tpD y)]) S = _
 simp only [op2, op2K, hv, bnd_ok, cst, hej, show ixD (tpD y) (.int 0) S = ok (.ref y.2) S from rfl, qAg (hr y ym) (map_get ratD hv')]
end
theorem lstG2 {S : Sto} {b : Nat} {x y : D} (h : zH S b = some [x, y]) (g1 g2 : DG) (δ : DS) : lstG [g1, g2] (.ref b) δ S = tupGs [g1, g2] [x, y] δ S := by
 unfold lstG
 simp only [h]
 rfl
end Nm
end
section
namespace Nm
open Np PySem
section
variable {w : Nat} {ts : List Pt}
theorem way_len {r : List Rat} (h : r ∈ wayL w ts) : r.length = w := by
 obtain ⟨k, hk, rfl⟩ := jB9.mp h
 obtain ⟨hk, _⟩ := qC2.mp hk
 obtain ⟨z, hz⟩ := zQ (show k < (gHa w ts).length by rw [qFt]; exact hk)
 refine qA9 ?_
 rw [yD hz, qBy hz]
 omega
theorem way_get {k j : Nat} (hk : k < w) (hj : j < w) : (molR (zR (gHa w ts) k) w).getD j 0 = (if j = k then 1 else 0) - ent (gHa w ts) k j := by
 obtain ⟨z, hz⟩ := zQ (show k < (gHa w ts).length by rw [qFt]; exact hk)
 have zl := qBy hz
 rw [yD hz, qDm (by omega) j hj, zl, qA2 hz]
theorem way_null (h : Sml w ts) {k : Nat} (hk : k ∈ qBf w ts) {c : Nat} (hc : c < ts.length) : (Sg w fun j => thg ts c j * (molR (zR (gHa w ts) k) w).getD j 0) = 0 := by
 obtain ⟨hk, h0⟩ := qC2.mp hk
 have e := h.gs.mix k hk c
 rw [h0 c, qCm hk hc, zM (g := fun j => thg ts c j * ent (gHa w ts) k j) fun j hj => by rw [qCm (by omega) hc]] at e
 rw [zM (g := fun j => (if j = k then thg ts c j else 0) - thg ts c j * ent (gHa w ts) k j) fun j hj => by rw [way_get hk hj]; by_cases z : j = k <;> simp [z] <;> grind]
 rw [qE2, qF7 hk, Sg_split (jAk hk) fun j hj => by rw [h.gs.low k j hk hj, jD8], e]
 grind
end
end Nm
end
section
namespace Nm
open Np PySem
section
variable {S : Sto} {a w : Nat} {ts : List Pt} {q : List (Pt × Nat)}
def valF (w : Nat) (ts : List Pt) (xs : List Rat) (c : Nat) : Rat := Sg w fun j => thg ts c j * xs.getD j 0
theorem dotR_val {c : Nat} {t : Pt} {xs : List Rat} (h : ts[c]? = some t) (h1 : t.row.length = w) (h2 : xs.length = w) : dotR t.row xs = valF w ts xs c := by
 rw [dotR_Sg h1 h2]
 exact zM fun j _ => by rw [thg_get h]
end
theorem free_len {w : Nat} {ts : List Pt} : (qBf w ts).length <= w := by
 have := jEq (fun i => stl (zR (gPa w ts) i)) (jAg w)
 rwa [jD1] at this
end Nm
end
section
namespace Nm
open Np PySem
abbrev Zi (x : List Int) (c : Nat) : Rat := ((x.getD c 0 : Int) : Rat)
structure Clr (n j : Nat) (C : Nat -> Nat -> Rat) (K : List (Nat × List Int)) : Prop where
 len : ∀ x ∈ K, x.2.length = n /\ x.1 < n /\ x.2.getD x.1 0 ≠ 0
 zero : ∀ (i i' : Nat) x x', i < i' -> K[i]? = some x -> K[i']? = some x' -> x'.2.getD x.1 0 = 0
 lin : ∀ x ∈ K, ∃ μ : Nat -> Rat, ∀ c, c < n -> Zi x.2 c = Sg j fun l => C l c * μ l
 span : ∀ ν : Nat -> Rat, (∀ x ∈ K, (Sg j fun l => C l x.1 * ν l) = 0) -> ∀ c, c < n -> (Sg j fun l => C l c * ν l) = 0
structure Prc (n j : Nat) (C : Nat -> Nat -> Rat) (K : List (Nat × List Int)) (i : Nat) (x : List Int) : Prop where
 len : x.length = n
 lin : ∃ (lam : Rat) (μ : Nat -> Rat), lam ≠ 0 /\ ∀ c, c < n -> Zi x c = C j c * lam + Sg j fun l => C l c * μ l
 zero : ∀ (i' : Nat) y, i' < i -> K[i']? = some y -> x.getD y.1 0 = 0
def clrR (x o : List Int) (a n : Nat) : List Int := (jAg n).map fun c => x.getD c 0 * o.getD a 0 - o.getD c 0 * x.getD a 0
theorem clrR_get {x o : List Int} {a n c : Nat} (h : c < n) : (clrR x o a n).getD c 0 = x.getD c 0 * o.getD a 0 - o.getD c 0 * x.getD a 0 := by simp [clrR, h]
section
variable {n j : Nat} {C : Nat -> Nat -> Rat} {K : List (Nat × List Int)}
theorem Clr.nil : Clr n 0 C [] := ⟨fun _ h => (by cases h), fun i i' x x' _ h => (by simp at h), fun _ h => (by cases h), fun ν _ c _ => rfl⟩
theorem Prc.step {i : Nat} {x : List Int} {y : Nat × List Int} (k : Clr n j C K) (p : Prc n j C K i x) (hy : K[i]? = some y) : Prc n j C K (i + 1) (clrR x y.2 y.1 n) := by
 obtain ⟨y1, y2, y3⟩ := k.len y (jBt hy)
 obtain ⟨μo, ho⟩ := k.lin y (jBt hy)
 obtain ⟨lam, μ, hl, hx⟩ := p.lin
 have yr : Zi y.2 y.1 ≠ 0 := fun z => y3 (by
  have : ((y.2.getD y.1 0 : Int) : Rat) = ((0 : Int) : Rat) := z
  exact jEf.mp this)
 refine ⟨by simp [clrR], ⟨lam * Zi y.2 y.1, fun l => μ l * Zi y.2 y.1 - μo l * Zi x y.1, fun z => ?_, fun c hc => ?_⟩, fun i' z hi' hz => ?_⟩
 ·rcases jD7.mp z with z | z
  ·exact hl z
  ·exact yr z
 ·have e : Zi (clrR x y.2 y.1 n) c = Zi x c * Zi y.2 y.1 - Zi y.2 c * Zi x y.1 := by
   show (((clrR x y.2 y.1 n).getD c 0 : Int) : Rat) = _
   rw [clrR_get hc, Rat.intCast_sub, jEh, jEh]
  rw [e, hx c hc, ho c hc, zM (g := fun l => (C l c * μ l) * Zi y.2 y.1 - (C l c * μo l) * Zi x y.1) (f := fun l => C l c * (μ l * Zi y.2 y.1 - μo l * Zi x y.1)) fun l _ => by grind, qE2, qAy, qAy]
  grind
 ·obtain ⟨z1, z2, z3⟩ := k.len z (jBt hz)
  rw [clrR_get z2]
  by_cases e : i' = i
  ·subst e
   rw [hy] at hz
   obtain rfl := Option.some.inj hz
   rw [Int.mul_comm]; omega
  ·rw [p.zero i' z (by omega) hz, k.zero i' i z y (by omega) hz hy]
   omega
theorem Clr.more {x : List Int} (k : Clr n j C K) (p : Prc n j C K K.length x) (z : ∀ c, c < n -> x.getD c 0 = 0) : Clr n (j + 1) C K := by
 obtain ⟨lam, μ, hl, hx⟩ := p.lin
 refine ⟨k.len, k.zero, fun y hy => ?_, fun ν hν c hc => ?_⟩
 ·obtain ⟨μo, ho⟩ := k.lin y hy
  refine ⟨fun l => if l < j then μo l else 0, fun c hc => ?_⟩
  have e : (Sg j fun l => C l c * if l < j then μo l else 0) = Sg j fun l => C l c * μo l := zM fun l hl' => by rw [if_pos hl']
  show Zi y.2 c = (Sg j fun l => C l c * if l < j then μo l else 0) + C j c * if j < j then μo j else 0
  rw [ho c hc, e, if_neg (by omega)]
  grind
 ·have x0 : ∀ c, c < n -> Zi x c = 0 := fun c hc => by
   show ((x.getD c 0 : Int) : Rat) = 0
   rw [z c hc]; rfl
  have key : ∀ c, c < n -> lam * (Sg (j + 1) fun l => C l c * ν l) = Sg j fun l => C l c * (lam * ν l - ν j * μ l) := fun c hc => by
   have e := hx c hc
   rw [x0 c hc] at e
   rw [Sg, zM (g := fun l => (C l c * ν l) * lam - (C l c * μ l) * ν j) (f := fun l => C l c * (lam * ν l - ν j * μ l)) fun l _ => by grind, qE2, qAy, qAy]
   grind
  have s := k.span (fun l => lam * ν l - ν j * μ l) (fun y hy => by rw [<- key y.1 (k.len y hy).2.1, hν y hy, jD8]) c hc
  rw [<- key c hc] at s
  rcases jD7.mp s with s | s
  ·exact absurd s hl
  ·exact s
theorem Clr.add {x : List Int} {a : Nat} (k : Clr n j C K) (p : Prc n j C K K.length x) (ha : a < n) (hx0 : x.getD a 0 ≠ 0) : Clr n (j + 1) C (K ++ [(a, x)]) := by
 obtain ⟨lam, μ, hl, hx⟩ := p.lin
 have xr : Zi x a ≠ 0 := fun z => hx0 (by
  have : ((x.getD a 0 : Int) : Rat) = ((0 : Int) : Rat) := z
  exact jEf.mp this)
 have pz : ∀ y ∈ K, x.getD y.1 0 = 0 := fun y hy => by
  obtain ⟨i, hi⟩ := jDz hy
  exact p.zero i y (jAr.mp hi).1 hi
 refine ⟨fun y hy => ?_, fun i i' y y' hii hy hy' => ?_, fun y hy => ?_, fun ν hν c hc => ?_⟩
 ·rcases jAp.mp hy with hy | hy
  ·exact k.len y hy
  ·rw [jCj.mp hy]; exact ⟨p.len, ha, hx0⟩
 ·have hi : i < K.length := by
   have := (jAr.mp hy').1
   simp at this
   omega
  rw [jBr hi] at hy
  by_cases h' : i' < K.length
  ·rw [jBr h'] at hy'
   exact k.zero i i' y y' hii hy hy'
  ·have := (jAr.mp hy').1
   simp at this
   have : i' = K.length := by omega
   subst this
   rw [jBp (jAx _)] at hy'
   simp at hy'
   subst hy'
   exact pz y (jBt hy)
 ·rcases jAp.mp hy with hy | hy
  ·obtain ⟨μo, ho⟩ := k.lin y hy
   refine ⟨fun l => if l < j then μo l else 0, fun c hc => ?_⟩
   have e : (Sg j fun l => C l c * if l < j then μo l else 0) = Sg j fun l => C l c * μo l := zM fun l hl' => by rw [if_pos hl']
   show Zi y.2 c = (Sg j fun l => C l c * if l < j then μo l else 0) + C j c * if j < j then μo j else 0
   rw [ho c hc, e, if_neg (by omega)]
   grind
  ·rw [jCj.mp hy]
   refine ⟨fun l => if l < j then μ l else lam, fun c hc => ?_⟩
   have e : (Sg j fun l => C l c * if l < j then μ l else lam) = Sg j fun l => C l c * μ l := zM fun l hl' => by rw [if_pos hl']
   show Zi x c = (Sg j fun l => C l c * if l < j then μ l else lam) + C j c * if j < j then μ j else lam
   rw [hx c hc, e, if_neg (by omega)]
   grind
 ·have key : ∀ c, c < n -> lam * (Sg (j + 1) fun l => C l c * ν l) = (Sg j fun l => C l c * (lam * ν l - ν j * μ l)) + ν j * Zi x c := fun c hc => by
   have e := hx c hc
   rw [Sg, zM (g := fun l => (C l c * ν l) * lam - (C l c * μ l) * ν j) (f := fun l => C l c * (lam * ν l - ν j * μ l)) fun l _ => by grind, qE2, qAy, qAy]
   grind
  have s := k.span (fun l => lam * ν l - ν j * μ l) fun y hy => by
   have e := key y.1 (k.len y hy).2.1
   rw [hν y (jAq _ hy), show Zi x y.1 = 0 by show ((x.getD y.1 0 : Int) : Rat) = 0; rw [pz y hy]; rfl] at e
   grind
  have ea := key a ha
  rw [hν (a, x) (jAy _ (.head _)), s a ha] at ea
  have nz : ν j = 0 := by
   have : ν j * Zi x a = 0 := by grind
   rcases jD7.mp this with z | z
   ·exact z
   ·exact absurd z xr
  have e := key c hc
  rw [s c hc, nz] at e
  have : lam * (Sg (j + 1) fun l => C l c * ν l) = 0 := by grind
  rcases jD7.mp this with z | z
  ·exact absurd z hl
  ·exact z
end
theorem clr_free {w j : Nat} {ts : List Pt} {K : List (Nat × List Int)} {x : List Int} (h : Sml w ts) (hj : j < w) (k : Clr ts.length j (fun l c => thg ts c l) K) (p : Prc ts.length j (fun l c => thg ts c l) K K.length x) : (∀ c, c < ts.length -> x.getD c 0 = 0) ↔ stl (zR (gPa w ts) j) = true := by
 obtain ⟨lam, μ, hl, hx⟩ := p.lin
 have g := h.gs
 have up : ∀ l, l < j -> dt ts.length (wtF ts) (fun c => thg ts c l) (ent (gPa w ts) j) = 0 := fun l hl => by
  rw [<- g.upright hj hl]
  exact qA8 (fun c hc => (qCm (by omega) hc).symm) fun _ _ => rfl
 have mx : ∀ c, c < ts.length -> thg ts c j = ent (gPa w ts) j c + Sg j fun l => thg ts c l * ent (gHa w ts) j l := fun c hc => by
  have := g.mix j hj c
  rw [qCm hj hc, zM (g := fun l => thg ts c l * ent (gHa w ts) j l) fun l hl => by rw [qCm (by omega) hc]] at this
  exact this
 have mz : ∀ s : Nat -> Rat, dt ts.length (wtF ts) (fun c => Sg j fun l => thg ts c l * s l) (ent (gPa w ts) j) = 0 := fun s => by
  rw [dt_mix ts.length j (wtF ts) (fun l c => thg ts c l), zM (g := fun _ => 0) fun l hl => by rw [up l hl, jD4], qAv]
 constructor
 ·intro z
  have e1 : dt ts.length (wtF ts) (fun c => thg ts c j) (ent (gPa w ts) j) = dt ts.length (wtF ts) (ent (gPa w ts) j) (ent (gPa w ts) j) := by
   rw [qA8 (g' := ent (gPa w ts) j) mx fun _ _ => rfl, dt_add, mz]
   show dt ts.length (wtF ts) (fun c => ent (gPa w ts) j c) _ + 0 = _
   grind
  have e2 : dt ts.length (wtF ts) (fun c => thg ts c j * lam + Sg j fun l => thg ts c l * μ l) (ent (gPa w ts) j) = 0 := by
   rw [qA8 (f' := fun _ => 0) (g' := ent (gPa w ts) j) (fun c hc => by
    rw [<- hx c hc]
    show ((x.getD c 0 : Int) : Rat) = 0
    rw [z c hc]; rfl) fun _ _ => rfl]
   unfold dt
   rw [zM (g := fun _ => 0) fun c _ => by grind, qAv]
  rw [dt_add, mz] at e2
  have e3 : dt ts.length (wtF ts) (fun c => thg ts c j * lam) (ent (gPa w ts) j) = dt ts.length (wtF ts) (fun c => thg ts c j) (ent (gPa w ts) j) * lam := by
   unfold dt
   rw [<- qAy]
   exact zM fun c _ => by grind
  rw [e3, e1] at e2
  have e4 : dt ts.length (wtF ts) (ent (gPa w ts) j) (ent (gPa w ts) j) = 0 := by
   have : dt ts.length (wtF ts) (ent (gPa w ts) j) (ent (gPa w ts) j) * lam = 0 := by grind
   rcases jD7.mp this with z | z
   ·exact z
   ·exact absurd z hl
  show qCr (zR (gPa w ts) j) = true
  rw [qBi]
  intro c
  show ent (gPa w ts) j c = 0
  by_cases hc : c < ts.length
  ·by_cases hz : ent (gPa w ts) j c = 0
   ·exact hz
   ·have := dt_pos (w := wtF ts) (f := ent (gPa w ts) j) h.pos hc hz
    rw [e4] at this
    exact absurd this (by decide)
  ·exact qDp (gP_wide h) (by omega)
 ·intro z c hc
  have l0 : ∀ c, ent (gPa w ts) j c = 0 := by
   have : qCr (zR (gPa w ts) j) = true := z
   rw [qBi] at this
   exact this
  have xe : ∀ c, c < ts.length -> Zi x c = Sg j fun l => thg ts c l * (lam * ent (gHa w ts) j l + μ l) := fun c hc => by
   rw [hx c hc]
   rw [mx c hc, l0 c, zM (g := fun l => (thg ts c l * ent (gHa w ts) j l) * lam + thg ts c l * μ l) (f := fun l => thg ts c l * (lam * ent (gHa w ts) j l + μ l)) fun l _ => by grind, Sg_add, qAy]
   grind
  have s := k.span (fun l => lam * ent (gHa w ts) j l + μ l) (fun y hy => by
   obtain ⟨i, hi⟩ := jDz hy
   have := p.zero i y (jAr.mp hi).1 hi
   rw [<- xe y.1 (k.len y hy).2.1]
   show ((x.getD y.1 0 : Int) : Rat) = 0
   rw [this]; rfl) c hc
  rw [<- xe c hc] at s
  have : ((x.getD c 0 : Int) : Rat) = ((0 : Int) : Rat) := s
  exact jEf.mp this
end Nm
end
section
namespace Nm
open Np PySem
section
variable {w : Nat} {ts : List Pt}
def pb (w : Nat) (ts : List Pt) (j c : Nat) : Rat := if stl (zR (gPa w ts) j) = true then 0 else ent (gPa w ts) j c * ent (gPa w ts) j c * wtF ts c * (1 / dt ts.length (wtF ts) (fun c => ent (gPa w ts) j c) fun c => ent (gPa w ts) j c)
end
end Nm
end
section
namespace Nm
open Np PySem
def Pn' (B : Nat) (w : Nat) (ts : List Pt) : Prop := ∀ t ∈ ts, t.row.length = w /\ (∀ x ∈ t.row, Le B x) /\ Le 4 t.want /\ Le 3 t.wt /\ 0 < t.wt.num
theorem thing44_w {n : Int} (h0 : 0 <= n) (S : Sto) : W (F.k44_thing [.int n] S) fun d S' => SLe S S' /\ ∃ q, d = ratD q /\ Le 4 q := by
 obtain ⟨h3, h4⟩ := qA1 n (show (0 : Int) < 19 by decide)
 obtain ⟨h1, h2⟩ := qA1 (n.fdiv 19) (show (0 : Int) < 8 by decide)
 (unfold F.k44_thing; refine Np.W_fnF rfl ?_; unfold Den.k44_thing; simp_all [])
 simp_all [qAc (show (19 : Int) ≠ 0 by decide), qAf (show (19 : Int) ≠ 0 by decide), qAc (show (8 : Int) ≠ 0 by decide)]
 refine qAw (qAx (by simp) _) fun S1 b l1 n1 r1 => ?_
 obtain ⟨c, c1, c2, c3⟩ := eight _ h1 h2 r1
 simp_all [c3, low_eq (show (0 : Int) < c by omega)]
 exact ⟨l1, _, rfl, Le.divInt' (by omega) (by omega) (by omega)⟩
theorem times_half {q : Rat} {j n : Nat} (hj : j < 8) (hq : Le n q) (hn : n <= 1000) (S : Sto) : ∃ p, Le (n + 4) p /\ F.k21_times [.tup [.int (j : Int), .int 2], ratD q] S = ok (ratD p) S := by
 refine ⟨jCp ((j : Int) * q.num) (2 * q.den), ?_, ?_⟩
 ·refine Le.divInt' (by have := qAq q; omega) ?_ ?_
  ·rw [jCu]
   have h1 : ((j : Int)).natAbs < 2 ^ 3 := by omega
   have := qB2 h1 hq.1
   exact jAd this (jCr (by decide) (by omega))
  ·rw [jCu]
   have h1 : ((2 : Int)).natAbs < 2 ^ 2 := by decide
   have h2 : ((q.den : Int)).natAbs < 2 ^ n := by rw [jCt]; exact hq.2
   have := qB2 h1 h2
   exact jAd this (jCr (by decide) (by omega))
 ·refine W_eq ?_
  have s := hq.sm (by omega)
  have m1 : ∀ S, mulD (.int (j : Int)) (.int q.num) S = ok (.int ((j : Int) * q.num)) S := fun S => qAi (by
   have := log2z (n := 3) (show ((j : Int)).natAbs < 2 ^ 3 by omega)
   have := s.1
   omega) S
  have m2 : ∀ S, mulD (.int 2) (.int (q.den : Int)) S = ok (.int (2 * (q.den : Int))) S := fun S => qAi (by
   have := log2z (i := 2) (n := 2) (by decide)
   have := s.2
   rw [jCt]
   omega) S
  (unfold F.k21_times; refine Np.W_fnF rfl ?_; unfold Den.k21_times; simp_all [])
  simp_all [show ixD (.tup [.int (j : Int), .int 2]) (.int 0) S = ok (.int (j : Int)) S from rfl, show ixD (.tup [.int (j : Int), .int 2]) (.int 1) S = ok (.int 2) S from rfl, m1, m2, low_eq (show (0 : Int) < 2 * q.den by have := qAq q; omega)]
def bb (i : Nat) : Nat := 9 * 2 ^ i - 5
theorem bb_succ (i : Nat) : bb (i + 1) = 2 * bb i + 5 := by
 have := jEr (show 2 ^ i ≠ 0 by simp)
 unfold bb
 rw [jCy]
 omega
theorem bb_4 (i : Nat) : 4 <= bb i := by
 have := jEr (show 2 ^ i ≠ 0 by simp)
 unfold bb
 omega
theorem bb_mono {i k : Nat} (h : i <= k) : bb i <= bb k := by
 have := jCr (show 0 < 2 by decide) h
 unfold bb
 omega
theorem shaped44_w {S : Sto} {c w : Nat} {row : List Rat} {sh ld : Int} (hc : RowA S c row) (hw : row.length = w) (hw4 : w <= 4) (hb : ∀ x ∈ row, Le 4 x) : W (F.k44_shaped [.ref c, .int sh, .int ld] S) fun d S' => d = .ref c /\ (∀ S0, SLe S0 S -> S0.length <= c -> SLe S0 S') /\ ∃ row', RowA S' c row' /\ row'.length = w /\ ∀ x ∈ row', Le 67 x := by
 unfold F.k44_shaped
 refine W_fnF rfl ?_
 rw [W_outF]
 unfold Den.k44_shaped
 refine qAb (fun δ' S' => S' = S /\ δ' = [some (.ref c), some (.int sh), some (.int ld), some (.int (w : Int)), none]) ?_ ?_
 ·simp_all [qAz hc, jBd, hw]
  exact ⟨_, rfl, trivial, rfl⟩
 rintro _ S1 ⟨rfl, rfl⟩
 refine qAb (fun δ' S' => (∀ S0, SLe S0 S1 -> S0.length <= c -> SLe S0 S') /\ ∃ o, δ' = [some (.ref c), some (.int sh), some (.int ld), some (.int (w : Int)), o] /\ ∃ row', RowA S' c row' /\ row'.length = w /\ ∀ x ∈ row', Le 67 x) ?_ ?_
 ·have hr : rng2D [.int 1, .int (w : Int)] S1 = ok (.fix ((jDg 1 (w - 1)).map fun i => D.int (i : Nat))) S1 := rng2D_nat (p := 1) (by decide) (by omega) S1
  simp_all [hr]
  refine qBl ((jDg 1 (w - 1)).map fun i => D.int (i : Nat)) (fun i δ S' => (∀ S0, SLe S0 S1 -> S0.length <= c -> SLe S0 S') /\ ∃ o, δ = [some (.ref c), some (.int sh), some (.int ld), some (.int (w : Int)), o] /\ ∃ row', RowA S' c row' /\ row'.length = w /\ ∀ x ∈ row', Le (bb i) x) (jAx _) ⟨fun S0 l _ => l, _, rfl, row, hc, hw, hb⟩ (fun i δ S' _ => rfl) ?_ ?_
  ·rintro i x δ S' hx ⟨k', o, rfl, r, rc, rl, rb⟩
   have hi : i < w - 1 := by simpa using (jAr.mp hx).1
   have ex : x = .int ((1 + i : Nat) : Int) := by
    rw [jBs, List.getElem?_range' hi] at hx
    simpa using (Option.some.inj hx).symm
   subst ex
   have e1 : ((1 + i : Nat) : Int) - 1 = (i : Int) := by omega
   have g0 : 0 < r.length := by omega
   have gi : i < r.length := by omega
   have gj : 1 + i < (r.map ratD).length := by simp; omega
   have x0 := rb _ (jDl g0)
   have xi := rb _ (jDl gi)
   have i0 : ∀ S, RowA S c r -> ixD (.ref c) (.int 0) S = ok (ratD r[0]) S := fun S h => qAg (i := 0) h (by simp [g0])
   have ii : ∀ S, RowA S c r -> ixD (.ref c) (.int (i : Int)) S = ok (ratD r[i]) S := fun S h => qAg h (by simp [gi])
   have bs := bb_succ i
   have b4 := bb_4 i
   have bi : bb i <= 67 := bb_mono (k := 3) (by omega)
   have keep : (∀ S0, SLe S0 S1 -> S0.length <= c -> SLe S0 S') /\ ∃ o, [some (D.ref c), some (.int sh), some (.int ld), some (.int (w : Int)), some (.int ((1 + i : Nat) : Int))] = [some (.ref c), some (.int sh), some (.int ld), some (.int (w : Int)), o] /\ ∃ row', RowA S' c row' /\ row'.length = w /\ ∀ x ∈ row', Le (bb (i + 1)) x := ⟨k', _, rfl, r, rc, rl, fun x hx => (rb x hx).mono (by omega)⟩
   have put : ∀ {v : Rat} {S'' : Sto}, Le (bb (i + 1)) v -> (∀ S0, SLe S0 S' -> S0.length <= c -> SLe S0 S'') -> zH S'' c = some ((r.map ratD).set (1 + i) (ratD v)) -> (∀ S0, SLe S0 S1 -> S0.length <= c -> SLe S0 S'') /\ ∃ o, [some (D.ref c), some (.int sh), some (.int ld), some (.int (w : Int)), some (.int ((1 + i : Nat) : Int))] = [some (.ref c), some (.int sh), some (.int ld), some (.int (w : Int)), o] /\ ∃ row', RowA S'' c row' /\ row'.length = w /\ ∀ x ∈ row', Le (bb (i + 1)) x := fun {v S''} lv kS rs => by
    refine ⟨fun S0 l h => kS S0 (k' S0 l h) h, _, rfl, r.set (1 + i) v, by show zH _ _ = _; rw [rs, jD0], by simp [rl], fun x hx => ?_⟩
    rcases jD3 hx with hx | rfl
    ·exact (rb x hx).mono (by omega)
    ·exact lv
   have L2 : Le 2 (2 : Rat) := ⟨by decide, by decide⟩
   have L3 : Le 2 (mkRat (-1) 3) := ⟨by decide, by decide⟩
   have y0 := L2.mul x0
   have y2 := L3.mul xi
   have e2 : (2 : Int) ≠ 0 := by decide
   by_cases s1 : sh = 1
   ·subst s1
    by_cases cj : ((1 + i : Nat) : Int) = (w : Int) - 1
    ·simp_all [jEs, cj, tup2, show D.tup [.int 2, .int 1] = ratD 2 from rfl, neg13, i0 _ rc, negD_i]
     rw [<- cj]
     simp_all [jEs, e1, ii _ rc, qBu (L2.sm (by decide)) (x0.sm (by omega)), qBu (L3.sm (by decide)) (xi.sm (by omega)), qCa (y0.sm (by omega)) (y2.sm (by omega)), qCu, setXK]
     refine qEn rc gj fun S'' _ kS _ rs => ?_
     simp_all [jEs]
     exact put ((y0.add y2).mono (by omega)) kS rs
    ·simp_all [jEs, cj]
     exact keep
   by_cases s2 : sh = 2
   ·subst s2
    by_cases cj : ((1 + i : Nat) : Int) = (w : Int).fdiv 2
    ·simp_all [jEs, qAf e2, cj, tup2, show D.tup [.int 2, .int 1] = ratD 2 from rfl, neg13, i0 _ rc, negD_i]
     rw [<- cj]
     simp_all [jEs, e1, ii _ rc, qBu (L2.sm (by decide)) (x0.sm (by omega)), qBu (L3.sm (by decide)) (xi.sm (by omega)), qCa (y0.sm (by omega)) (y2.sm (by omega)), qCu, setXK]
     refine qEn rc gj fun S'' _ kS _ rs => ?_
     simp_all [jEs]
     exact put ((y0.add y2).mono (by omega)) kS rs
    ·simp_all [jEs, qAf e2, cj]
     exact keep
   by_cases s3 : sh = 3
   ·subst s3
    have ew : (w : Int) - 1 ≠ 0 := by omega
    by_cases cj : ((1 + i : Nat) : Int) = 1 + ld.fmod ((w : Int) - 1)
    ·simp_all [jEs, qAc ew, cj, tup2]
     rw [<- cj]
     simp_all [jEs, qCu, setXK]
     refine qEn rc gj fun S'' _ kS _ rs => ?_
     simp_all [jEs]
     exact put (Le.zero (by omega)) kS rs
    ·simp_all [jEs, qAc ew, cj]
     exact keep
   by_cases s4 : sh = 4
   ·subst s4
    by_cases cj : ((1 + i : Nat) : Int).fmod 2 = 1
    ·simp_all [jEs, qAc e2, cj, e1, ii _ rc, qCu, setXK]
     refine qEn rc gj fun S'' _ kS _ rs => ?_
     simp_all [jEs]
     exact put (xi.mono (by omega)) kS rs
    ·simp_all [jEs, qAc e2, cj]
     exact keep
   by_cases s5 : sh = 5
   ·subst s5
    obtain ⟨p, lp, ep⟩ := times_half (j := 1 + i) (by omega) x0 (by omega) S'
    simp_all [jEs, tup2, i0 _ rc, ep, qCu, setXK]
    refine qEn rc gj fun S'' _ kS _ rs => ?_
    exact put (lp.mono (by omega)) kS rs
   simp_all [s1, s2, s3, s4, s5]
   exact keep
  ·rintro δ S' ⟨k', o, rfl, r, rc, rl, rb⟩
   refine ⟨_, rfl, k', o, rfl, r, rc, rl, fun x hx => (rb x hx).mono ?_⟩
   exact bb_mono (k := 3) (by simp; omega)
 rintro _ S2 ⟨k2, o, rfl, r, rc, rl, rb⟩
 by_cases s6 : sh = 6
 ·by_cases w0 : (0 : Int) < (w : Int)
  ·have g0 : 0 < (r.map ratD).length := by simp; omega
   simp_all [s6, w0, tup2, qCu, setXK]
   refine qEn (i := 0) rc g0 fun S'' _ kS _ rs => ?_
   simp_all []
   refine ⟨trivial, fun S0 l h => kS S0 (k2 S0 l h) h, r.set 0 0, by show zH _ _ = _; rw [rs, jD0], by simp [rl], fun x hx => ?_⟩
   rcases jD3 hx with hx | rfl
   ·exact rb x hx
   ·exact Le.zero (by decide)
  ·simp_all [s6, w0]
   exact ⟨trivial, k2, r, rc, rl, rb⟩
 ·simp_all [s6]
  exact ⟨trivial, k2, r, rc, rl, rb⟩
theorem three44 {b : Nat} {S : Sto} {j : Int} (i1 : 0 <= j) (i2 : j < 3) (hp : zH S b = some [.tup [.int 1, .int 1], .tup [.int 3, .int 1], .tup [.int 1, .int 2]]) : ∃ wt : Rat, Le 3 wt /\ 0 < wt.num /\ ixD (.ref b) (.int j) S = ok (ratD wt) S := by
 have : j = 0 \/ j = 1 \/ j = 2 := by omega
 rcases this with rfl | rfl | rfl
 ·exact ⟨1, ⟨by decide, by decide⟩, by decide, qAg (i := 0) hp rfl⟩
 ·exact ⟨3, ⟨by decide, by decide⟩, by decide, qAg (i := 1) hp rfl⟩
 ·exact ⟨mkRat 1 2, ⟨by decide, by decide⟩, by decide, qAg (i := 2) hp (by show some (D.tup [.int 1, .int 2]) = some (D.tup [.int (mkRat 1 2).num, .int ((mkRat 1 2).den : Int)]); rw [show (mkRat 1 2).num = 1 by decide, show (mkRat 1 2).den = 2 by decide]; rfl)⟩
def D44 (w : Nat) (ts : List Pt) : Prop := (w <= 12 /\ ts.length <= 14 /\ Pw 2 9 3 w ts) \/ (w <= 4 /\ ts.length <= 6 /\ Pn' 139 w ts)
theorem points44_w (ns : List Int) (S : Sto) : W (F.k44_points [.scr (ns.map D.int)] S) fun d S' => GPt S S' d D44 := by
 obtain ⟨c0, _, ec⟩ := qEl ns 0 S
 have ec : F.k11_cell_at [.scr (ns.map D.int), .int 0] S = ok (.int c0) S := ec
 obtain ⟨n, n0, n1, en⟩ := spread_w c0 (k := 0) (by omega) S
 have en : F.k42_spread [.int c0, .int 0] S = ok (.int n) S := en
 have q9 : ∀ S, powD (.int 10) (.int 9) S = ok (.int (10 ^ 9)) S := fun S => qDv (by decide) S
 have q12 : ∀ S, powD (.int 10) (.int 12) S = ok (.int (10 ^ 12)) S := fun S => qDv (by decide) S
 have e9 : (10 : Int) ^ 9 ≠ 0 := by decide
 have e12 : (10 : Int) ^ 12 ≠ 0 := by decide
 have e3 : (3 : Int) ≠ 0 := by decide
 have e5 : (5 : Int) ≠ 0 := by decide
 have e7 : (7 : Int) ≠ 0 := by decide
 have e8 : (8 : Int) ≠ 0 := by decide
 have e40 : (40 : Int) ≠ 0 := by decide
 have e2000 : (2000 : Int) ≠ 0 := by decide
 have d12 : n.fdiv (10 ^ 12) = n / 10 ^ 12 := Int.fdiv_eq_ediv_of_nonneg _ (by decide)
 have p12 : (10 : Int) ^ 12 = 1000000000000 := by decide
 have p40 : (10 : Int) ^ 40 + 121 = 10000000000000000000000000000000000000121 := by decide
 have dl : 0 <= n.fdiv (10 ^ 12) /\ n.fdiv (10 ^ 12) < 10 ^ 40 + 121 := by rw [d12, p12]; rw [p40] at n1 ⊢; omega
 unfold F.k44_points
 refine W_fnF rfl ?_
 rw [W_outF]
 unfold Den.k44_points
 refine qAb (fun δ' S' => S' = S /\ δ' = [some (.scr (ns.map D.int)), some (.int n), none, none, none, none, none]) ?_ ?_
 ·simp_all [ec, en]
  exact ⟨_, rfl, trivial, rfl⟩
 rintro _ S' ⟨e', rfl⟩
 obtain rfl : S = S' := e'.symm
 by_cases c2 : (n.fdiv (10 ^ 9)).fmod 8 = 2
 ·simp_all [q9, qAf e9, qAc e8, c2, q12, qAf e12]
  refine (broad42_w dl.1 dl.2 S).mono ?_
  rintro d S' ⟨l, b, a, w, q, h1, h2, h3, h4, h5⟩
  exact ⟨l, b, a, w, q, h1, h2, h3, h4, .inl h5⟩
 refine qAb (fun δ' S' => S' = S /\ δ' = [some (.scr (ns.map D.int)), some (.int n), none, none, none, none, none]) ?_ ?_
 ·simp_all [q9, qAf e9, qAc e8, c2]
  exact ⟨_, rfl, trivial, rfl⟩
 rintro _ S' ⟨e', rfl⟩
 obtain rfl : S = S' := e'.symm
 obtain ⟨f1, f2⟩ := qA1 n (show (0 : Int) < 5 by decide)
 obtain ⟨w, hw⟩ : ∃ w : Nat, n.fmod 5 = (w : Int) := ⟨(n.fmod 5).toNat, by omega⟩
 obtain ⟨g1, g2⟩ := qA1 (n.fdiv 40) (show (0 : Int) < 7 by decide)
 obtain ⟨k, hk⟩ : ∃ k : Nat, (n.fdiv 40).fmod 7 = (k : Int) := ⟨((n.fdiv 40).fmod 7).toNat, by omega⟩
 refine qAb (fun δ' S' => S' = S /\ δ' = [some (.scr (ns.map D.int)), some (.int n), some (.int (w : Int)), none, none, none, none]) ?_ ?_
 ·simp_all [qAc e5, hw]
  exact ⟨_, rfl, trivial, rfl⟩
 rintro _ S' ⟨e', rfl⟩
 obtain rfl : S = S' := e'.symm
 refine qAb (fun δ' S' => SLe S S' /\ ∃ a, S.length <= a /\ δ' = [some (.scr (ns.map D.int)), some (.int n), some (.int (w : Int)), some (.ref a), none, none, none] /\ zH S' a = some []) ?_ ?_
 ·simp_all []
  refine qAw (qAx (by simp) _) fun S1 a l1 n1 r1 => ?_
  exact ⟨_, rfl, l1, a, n1, rfl, r1⟩
 rintro _ S1 ⟨l1, a, na, rfl, r1⟩
 -- the first two rows are of at most 67 bits, the sums of them of 135
 refine qAb (fun δ' S' => SLe S S' /\ (∃ o4 o5 o6, δ' = [some (.scr (ns.map D.int)), some (.int n), some (.int (w : Int)), some (.ref a), o4, o5, o6]) /\ ∃ q : List (Pt × Nat), zH S' a = some (q.map tpD) /\ (∀ x ∈ q, RowA S' x.2 x.1.row /\ x.2 ≠ a) /\ q.length = k /\ Pn' 139 w (q.map (·.1))) ?_ ?_
 ·simp_all [qAf e40, qAc e7, hk, qB9 (show k < 1000000 by omega), qBa]
  refine qBl ((jAg k).map fun i => D.int (i : Nat)) (fun i δ S' => SLe S S' /\ (∃ o4 o5 o6, δ = [some (.scr (ns.map D.int)), some (.int n), some (.int (w : Int)), some (.ref a), o4, o5, o6]) /\ ∃ q : List (Pt × Nat), zH S' a = some (q.map tpD) /\ (∀ x ∈ q, RowA S' x.2 x.1.row /\ x.2 ≠ a) /\ q.length = i /\ Pn' 139 w (q.map (·.1)) /\ ∀ (j : Nat) x, j < 2 -> q[j]? = some x -> ∀ y ∈ x.1.row, Le 67 y) (jAx _) ⟨l1, ⟨_, _, _, rfl⟩, [], r1, fun _ h => (by cases h), rfl, fun _ h => (by cases h), fun j x _ h => (by simp at h)⟩ (fun i δ S' _ => rfl) ?_ ?_
  ·rintro i x δ S2 hx ⟨l2, ⟨o4, o5, o6, rfl⟩, q, r2, hq, ql, pw, p2⟩
   obtain ⟨rfl, hi⟩ := qAh hx
   refine W.intro (a := [some (.scr (ns.map D.int)), some (.int n), some (.int (w : Int)), some (.ref a), some (.int (i : Nat)), o5, o6]) (S := S2) rfl ?_
   obtain ⟨c, _, ecc⟩ := qEl ns (1 + i) S2
   obtain ⟨m, m0, m1, em⟩ := spread_w c (k := 1 + i) (by omega) S2
   have e1i : (1 + (i : Int)) = ((1 + i : Nat) : Int) := by omega
   have va := qAe r2
   refine qAb (fun δ' S' => S' = S2 /\ δ' = [some (.scr (ns.map D.int)), some (.int n), some (.int (w : Int)), some (.ref a), some (.int (i : Nat)), some (.int m), o6]) ?_ ?_
   ·simp_all [e1i, ecc, em]
    exact ⟨_, rfl, trivial, rfl⟩
   rintro _ S' ⟨rfl, rfl⟩
   refine qAb (fun δ' S3 => SLe S' S3 /\ ∃ c row, S'.length <= c /\ δ' = [some (.scr (ns.map D.int)), some (.int n), some (.int (w : Int)), some (.ref a), some (.int (i : Nat)), some (.int m), some (.ref c)] /\ RowA S3 c row /\ row.length = w /\ ∀ x ∈ row, Le 67 x) ?_ ?_
   ·simp_all []
    refine W_compR (Le 4) _ ((jAg w).map fun i => D.int (i : Nat)) _ (qA4 [some (.scr (ns.map D.int)), some (.int n), some (.int (w : Int)), some (.ref a), some (.int (i : Nat)), some (.int m), o6]) (fun _ _ => trivial) (it_rng rfl (by omega)) ?_ ?_
    ·intro x S3 hx l3
     obtain ⟨j, hj, rfl⟩ := jB9.mp hx
     have hj := jAi.mp hj
     obtain ⟨y, y0, y1, ey⟩ := qC0 m0 m1 (k := j) (by omega) S3
     show W (fnE F.k44_thing _ [some (.scr (ns.map D.int)), some (.int n), some (.int (w : Int)), some (.ref a), some (.int (i : Nat)), some (.int m), o6, some (.int (j : Nat))] S3) _
     simp_all [ey]
     refine (thing44_w y0 S3).mono ?_
     rintro d S4 ⟨l4, q, rfl, hq⟩
     exact ⟨l4, q, hq, rfl⟩
    ·intro qs S3 c l3 n3 hl hz r3
     simp_all [qAf e5, qAc e8, qAf e2000]
     refine (shaped44_w r3 (by simpa using hl) (by omega) hz).mono ?_
     rintro d S4 ⟨rfl, k4, row, r4, rl, rb⟩
     exact ⟨_, rfl, k4 _ l3 n3, c, row, n3, rfl, r4, rl, rb⟩
   rintro _ S3 ⟨l3, c, row, nc, rfl, rc, hrl, hrz⟩
   refine qAb (fun δ' S4 => SLe S' S4 /\ ∃ c row, S'.length <= c /\ δ' = [some (.scr (ns.map D.int)), some (.int n), some (.int (w : Int)), some (.ref a), some (.int (i : Nat)), some (.int m), some (.ref c)] /\ RowA S4 c row /\ row.length = w /\ (∀ x ∈ row, Le 139 x) /\ (i < 2 -> ∀ x ∈ row, Le 67 x)) ?_ ?_
   ·by_cases ci : (1 : Int) < ((i : Nat) : Int)
    ·by_cases cm : m.fmod 5 = 0
     ·have q0 : q[0]? = some q[0] := jEn (by omega)
      have q1 : q[1]? = some q[1] := jEn (by omega)
      have p0 : (q.map tpD)[0]? = some (tpD q[0]) := by rw [jBs, q0]; rfl
      have p1 : (q.map tpD)[1]? = some (tpD q[1]) := by rw [jBs, q1]; rfl
      have a1 := (pw q[0].1 (jB9.mpr ⟨q[0], jDl (by omega), rfl⟩)).1
      have b1 := (pw q[1].1 (jB9.mpr ⟨q[1], jDl (by omega), rfl⟩)).1
      have a2 := p2 0 _ (by decide) q0
      have b2 := p2 1 _ (by decide) q1
      have ra := l3.lst (hq q[0] (jDl (by omega))).1
      have rb := l3.lst (hq q[1] (jDl (by omega))).1
      refine W_if_t (by simp_all [ci, qAc e5, cm]) ?_
      simp_all []
      refine W_compR (Le 139) _ ((jAg w).map fun i => D.int (i : Nat)) _ (qA4 [some (.scr (ns.map D.int)), some (.int n), some (.int (w : Int)), some (.ref a), some (.int (i : Nat)), some (.int m), some (.ref c)]) (fun _ _ => trivial) (it_rng rfl (by omega)) ?_ ?_
      ·intro x S4 hx l4
       obtain ⟨j, hj, rfl⟩ := jB9.mp hx
       have hj := jAi.mp hj
       have ja : j < q[0].1.row.length := by omega
       have jb : j < q[1].1.row.length := by omega
       have xa := a2 _ (jDl ja)
       have xb := b2 _ (jDl jb)
       show W (fnE F.k21_plus _ [some (.scr (ns.map D.int)), some (.int n), some (.int (w : Int)), some (.ref a), some (.int (i : Nat)), some (.int m), some (.ref c), some (.int (j : Nat))] S4) _
       simp_all [ixD_at0 ((l3.trans l4).lst r2) p0, ixD_at1 ((l3.trans l4).lst r2) p1, tpD, show ixD (.tup [.ref q[0].2, ratD q[0].1.want, ratD q[0].1.wt]) (.int 0) S4 = ok (.ref q[0].2) S4 from rfl, show ixD (.tup [.ref q[1].2, ratD q[1].1.want, ratD q[1].1.wt]) (.int 0) S4 = ok (.ref q[1].2) S4 from rfl, qAg (l4.lst ra) (show (q[0].1.row.map ratD)[j]? = some (ratD q[0].1.row[j]) by simp [ja]), qAg (l4.lst rb) (show (q[1].1.row.map ratD)[j]? = some (ratD q[1].1.row[j]) by simp [jb]), qCa (xa.sm (by decide)) (xb.sm (by decide))]
       exact ⟨SLe.rfl, _, (xa.add xb).mono (by decide), rfl⟩
      ·intro qs S4 c4 l4 n4 hl' hz r4
       exact ⟨_, rfl, l3.trans l4, c4, qs, jAj l3.len n4, rfl, r4, by simpa using hl', hz, fun h => by omega⟩
     ·simp_all [ci, qAc e5, cm]
      exact ⟨_, rfl, l3, c, row, nc, rfl, rc, hrl, fun x hx => (hrz x hx).mono (by decide), fun _ => hrz⟩
    ·simp_all [ci]
     exact ⟨_, rfl, l3, c, row, nc, rfl, rc, hrl, fun x hx => (hrz x hx).mono (by decide), fun _ => hrz⟩
   rintro _ S4 ⟨l4, c, row, nc, rfl, rc, hrl, hrz, hr2⟩
   obtain ⟨y, y0, y1, ey⟩ := qC0 m0 m1 (k := 9) (by omega) S4
   have ey : F.k42_mixed [.int m, .int 9] S4 = ok (.int y) S4 := ey
   have r4 := l4.lst r2
   obtain ⟨t1, t2⟩ := qA1 (m.fdiv 5) (show (0 : Int) < 3 by decide)
   simp_all [qB1 r4, ey]
   refine (thing44_w y0 S4).mono ?_
   rintro d S5 ⟨l5, want, rfl, hwant⟩
   refine qAw (qAx (by simp) _) fun S6 b6 l6 n6 r6 => ?_
   obtain ⟨wt, w1, w2, w3⟩ := three44 t1 t2 r6
   have L6 := l4.trans (l5.trans l6)
   simp_all [qAf e5, qAc e3, w3, tup3f]
   refine W_app (L6.lst r2) (by simp; omega) fun S8 _ k8 kk r8 => ?_
   have qa : ∀ y ∈ q, y.2 ≠ a := fun y hy => (hq y hy).2
   refine ⟨k8 _ (l2.trans L6) na, ⟨_, _, _, rfl⟩, q ++ [(⟨0, row, want, wt⟩, c)], by rw [r8, jEk]; rfl, fun y hy => ?_, by simp [ql], fun t ht => ?_, fun j x hj hx => ?_⟩
   ·rcases jAp.mp hy with hy | hy
    ·exact ⟨by show zH S8 y.2 = _; rw [kk _ (qa y hy)]; exact L6.lst (hq y hy).1, qa y hy⟩
    ·rw [jCj.mp hy]
     have hca : c ≠ a := by omega
     exact ⟨by show zH S8 c = _; rw [kk _ hca]; exact (l5.trans l6).lst rc, hca⟩
   ·rw [jEk] at ht
    rcases jAp.mp ht with ht | ht
    ·exact pw t ht
    ·rw [jCj.mp ht]
     exact ⟨hrl, hrz, hwant, w1, w2⟩
   ·rcases qCk hx with ⟨_, h⟩ | ⟨rfl, rfl⟩
    ·exact p2 j x hj h
    ·exact hr2 (by omega)
  ·rintro δ S2 ⟨l2, hδ, q, r2, hq, ql, pw, _⟩
   exact ⟨_, rfl, l2, hδ, q, r2, hq, by simpa using ql, pw⟩
 rintro _ S2 ⟨l2, ⟨o4, o5, o6, rfl⟩, q, r2, hq, ql, pw⟩
 simp_all []
 refine qAw (qAx (by simp) _) fun S3 b l3 n3 r3 => ?_
 exact ⟨l2.trans l3, b, a, w, q, rfl, r3, l3.lst r2, fun x hx => l3.lst (hq x hx).1, .inr ⟨by omega, by rw [jBd, ql]; omega, pw⟩⟩
theorem sml44 {w : Nat} {ts : List Pt} (h : D44 w ts) : Sml w ts /\ ts.length <= 14 := by
 rcases h with ⟨h1, h2, h3⟩ | ⟨h1, h2, h3⟩
 ·exact ⟨sml42 (.inr (.inl ⟨h1, h2, h3⟩)), h2⟩
 ·exact ⟨Sml.of8 (by omega) (by omega) fun t ht => by
   obtain ⟨a1, a2, a3, a4, a5⟩ := h3 t ht
   exact ⟨a1, fun x hx => (a2 x hx).mono (by decide), a3.mono (by decide), a4.mono (by decide), a5⟩, by omega⟩
theorem W_compLs {it : DI} {g : DG} {e : DE} {base : DS} {k : Nat} {S : Sto} {Q : D -> Sto -> Prop} (vals : D -> List (Option D)) (xs : List D) (U : List (List D)) (P : D -> Prop) (hg : Np.Tg g k vals base P) (hP : ∀ x ∈ xs, P x) (hU : U.length = xs.length)
  (hit : W (it base S) fun src S' => xs.length <= src.len S' /\ src.len S' <= 1000000 /\ SLe S S' /\ ∀ i S'', SLe S' S'' -> src.get S'' i = some xs[i]?)
  (step : ∀ (i : Nat) x r S', xs[i]? = some x -> U[i]? = some r -> SLe S S' -> W (e (base ++ vals x) S') fun d S'' => ∃ c, d = .ref c /\ S'.length <= c /\ SLe S' S'' /\ zH S'' c = some r)
  (fin : ∀ S' c (cs : List Nat), SLe S S' -> S.length <= c -> zH S' c = some (cs.map D.ref) -> cs.length = U.length -> (∀ (i b : Nat) r, cs[i]? = some b -> U[i]? = some r -> zH S' b = some r) -> Q (.ref c) S') : W (qAj it k g e base S) Q := by
 obtain ⟨src, S0, e0, h1, h2, h3, h4⟩ := hit.out
 refine qDd vals xs (fun i acc S' => SLe S0 S' /\ ∃ cs : List Nat, acc = cs.map D.ref /\ cs.length = i /\ (∀ (j b : Nat) r, cs[j]? = some b -> U[j]? = some r -> zH S' b = some r)) P hP hg ?_ ?_ ?_
 ·rw [e0, W_ok]
  exact ⟨h1, h2, ⟨SLe.rfl, [], rfl, rfl, fun j b r h => (by simp at h)⟩, fun i acc S'' h => h4 i S'' h.1⟩
 ·rintro i x acc S' hx ha ⟨hS, cs, rfl, hl, hr⟩
  have hi : i < U.length := by rw [hU]; exact (jAr.mp hx).1
  obtain ⟨r, hri⟩ := zQ hi
  refine (step i x r S' hx hri (h3.trans hS)).mono ?_
  rintro d S'' ⟨c, rfl, hc, hS', hrow⟩
  refine ⟨hS.trans hS', cs ++ [c], by simp, by simp [hl], fun j b r' hb hr' => ?_⟩
  rcases qCk hb with ⟨_, h⟩ | ⟨rfl, rfl⟩
  ·exact hS'.lst (hr j b r' h hr')
  ·rw [hl] at hr'
   rw [hri] at hr'
   cases hr'
   exact hrow
 ·rintro acc S' ⟨hS, cs, rfl, hl, hr⟩ _
  exact fin _ _ cs ((h3.trans hS).push _) (h3.trans hS).len (qAd S' _) (by rw [hl, hU]) fun i b r h1 h2 => (SLe.app _).lst (hr i b r h1 h2)
def prD (xs : List Rat) : Int := (xs.map fun x => (x.den : Int)).foldl (· * ·) 1
theorem prD_take {xs : List Rat} {i : Nat} {x : Rat} (h : xs[i]? = some x) : prD (xs.take (i + 1)) = prD (xs.take i) * x.den := by
 unfold prD
 rw [jDh, h]
 simp
theorem prD_pos : ∀ (n : Nat) (xs : List Rat), xs.length = n -> 0 < prD xs
 | 0, xs, h => by rw [jEt h]; decide
 | n + 1, xs, h => by
  obtain ⟨ys, y, rfl, hl⟩ := ex_snoc h
  have := prD_pos n ys hl
  unfold prD at this ⊢
  rw [jEk, jDn]
  exact jD2 this (qAq y)
theorem prD_le {b : Nat} : ∀ (n : Nat) (xs : List Rat), xs.length = n -> (∀ x ∈ xs, Le b x) -> (prD xs).natAbs <= 2 ^ (b * n)
 | 0, xs, h, _ => by rw [jEt h]; exact jEr (by simp)
 | n + 1, xs, h, hb => by
  obtain ⟨ys, y, rfl, hl⟩ := ex_snoc h
  have := prD_le n ys hl fun x hx => hb x (jAq _ hx)
  have hy := (hb y (jAy _ (.head _))).2
  have e : prD (ys ++ [y]) = prD ys * y.den := by unfold prD; rw [jEk, jDn]; rfl
  rw [e, jCu, jCt, jDo, Nat.mul_one, jCw]
  exact jEi this (jAk hy)
theorem qFa : ∀ (n : Nat) (xs : List Rat), xs.length = n -> ∀ x ∈ xs, (x.den : Int) ∣ prD xs
 | 0, xs, h => by rw [jEt h]; intro x hx; cases hx
 | n + 1, xs, h => by
  obtain ⟨ys, y, rfl, hl⟩ := ex_snoc h
  intro x hx
  have e : prD (ys ++ [y]) = prD ys * y.den := by unfold prD; rw [jEk, jDn]; rfl
  rw [e]
  rcases jAp.mp hx with hx | hx
  ·exact Int.dvd_mul_of_dvd_left (qFa n ys hl x hx)
  ·rw [jCj.mp hx]
   exact Int.dvd_mul_left _ _
def whR (xs : List Rat) : List Int := xs.map fun x => x.num * (prD xs).fdiv x.den
theorem whR_get {xs : List Rat} {c : Nat} (h : c < xs.length) : Zi (whR xs) c = xs.getD c 0 * (prD xs : Rat) := by
 obtain ⟨x, hx⟩ := zQ h
 have hm := jBt hx
 obtain ⟨k, hk⟩ := qFa xs.length xs rfl x hm
 have hd := qAq x
 have e1 : (prD xs).fdiv x.den = k := by rw [hk]; exact jDc k (by omega)
 have e2 : (whR xs).getD c 0 = x.num * k := by
  unfold whR
  rw [jD5, jBs, hx]
  show x.num * (prD xs).fdiv x.den = _
  rw [e1]
 show (((whR xs).getD c 0 : Int) : Rat) = _
 rw [e2, jD5, hx, hk, jEh, jEh]
 show _ = x * (((x.den : Int) : Rat) * (k : Rat))
 have e3 : x * ((x.den : Int) : Rat) = (x.num : Rat) := by
  conv => lhs; lhs; rw [<- jCq x, jEe]
  rw [jC0, jEa, jD9 _ ((x.den : Int) : Rat), jEb _ (qDb hd), jEg]
 rw [<- jEa, e3]
theorem whR_le {b n : Nat} {xs : List Rat} (hl : xs.length <= n) (hb : ∀ x ∈ xs, Le b x) : ∀ z ∈ whR xs, z.natAbs < 2 ^ (b + b * n) := fun z hz => by
 obtain ⟨x, hx, rfl⟩ := jB9.mp hz
 obtain ⟨k, hk⟩ := qFa xs.length xs rfl x hx
 have hd := qAq x
 have e1 : (prD xs).fdiv x.den = k := by rw [hk]; exact jDc k (by omega)
 have p := prD_le xs.length xs rfl hb
 have p2 : 2 ^ (b * xs.length) <= 2 ^ (b * n) := jCr (by decide) (jDq _ hl)
 have k1 : k.natAbs <= (prD xs).natAbs := by
  rw [hk, jCu]
  exact jDr _ (by omega)
 rw [e1, jCu, jCw]
 have hn := (hb x hx).1
 exact jAd (Nat.mul_lt_mul_of_lt_of_le hn (jAj k1 (jAj p p2)) (jEr (by simp))) (jAx _)
theorem mulD_c {i j : Int} {a b : Nat} (hi : i.natAbs < 2 ^ a) (hj : j.natAbs < 2 ^ b) (hn : a + b <= 100000000) (S : Sto) : mulD (.int i) (.int j) S = ok (.int (i * j)) S := qAi (by have := log2z hi; have := log2z hj; omega) S
theorem whole44_w {S : Sto} {c : Nat} {xs : List Rat} (hc : RowA S c xs) (hl : xs.length <= 14) (hb : ∀ x ∈ xs, Le 150 x) : W (F.k44_whole_row [.ref c] S) fun d S' => ∃ b, d = .ref b /\ S.length <= b /\ SLe S S' /\ zH S' b = some ((whR xs).map D.int) := by
 have pb : ∀ i, (prD (xs.take i)).natAbs < 2 ^ 2101 := fun i => by
  have := prD_le (xs.take i).length (xs.take i) rfl fun x hx => hb x (jDp hx)
  have h2 : 2 ^ (150 * (xs.take i).length) <= 2 ^ 2100 := jCr (by decide) (by simp; omega)
  have h3 : 2 ^ 2100 < 2 ^ 2101 := jCz (by decide) (by decide)
  omega
 have db : ∀ x ∈ xs, ((x.den : Int)).natAbs < 2 ^ 150 := fun x hx => by rw [jCt]; exact (hb x hx).2
 unfold F.k44_whole_row
 refine W_fnF rfl ?_
 rw [W_outF]
 unfold Den.k44_whole_row
 refine qAb (fun δ' S' => S' = S /\ δ' = [some (.ref c), some (.int 1), none]) ?_ ?_
 ·simp_all []
  exact ⟨_, rfl, trivial, rfl⟩
 rintro _ S' ⟨rfl, rfl⟩
 refine qAb (fun δ' S1 => S1 = S' /\ ∃ o, δ' = [some (.ref c), some (.int (prD xs)), o]) ?_ ?_
 ·simp_all [qAk hc]
  refine qBl (xs.map ratD) (fun i δ S1 => S1 = S' /\ ∃ o, δ = [some (.ref c), some (.int (prD (xs.take i))), o]) (by rw [qAs hc]; exact jAx _) ⟨rfl, _, rfl⟩ ?_ ?_ ?_
  ·rintro i δ S1 ⟨rfl, _⟩
   exact qBs hc i
  ·rintro i d δ S1 hd ⟨rfl, o, rfl⟩
   obtain ⟨x, hx, rfl⟩ := qAr hd
   simp_all [mulD_c (pb i) (db x (zK hx)) (by decide)]
   exact ⟨rfl, _, by rw [prD_take hx]⟩
  ·rintro δ S1 ⟨rfl, o, rfl⟩
   refine ⟨_, rfl, rfl, o, ?_⟩
   rw [jDm (by simp)]
 rintro _ S1 ⟨rfl, o, rfl⟩
 have cc := qEi (base := [some (.ref c), some (.int (prD xs)), o]) (S := S1) (it := itE itL (vr 0)) (e := op2 mulD (op2 ixD (vr 3) (cst (.int 0))) (op2 qBc (vr 1) (op2 ixD (vr 3) (cst (.int 1))))) (zs := (whR xs).map D.int) _ (qA4 _) (by simp only [Np.itA, Np.itE, Np.yH, Np.aConsK, Np.aNil, Np.consK, Np.vr, Np.cst, jC6, jCb, Np.bnd_ok]; exact qAk hc) (Has.one hc) (by rw [qAs hc]; simp; omega) (fun _ _ => trivial) (by simp [whR]) fun i d z hd hz => by
  obtain ⟨x, hx, rfl⟩ := qAr hd
  obtain ⟨v, hv, rfl⟩ := qAr hz
  have hm := zK hx
  have e : v = x.num * (prD xs).fdiv x.den := by
   unfold whR at hv
   rw [jBs, hx] at hv
   exact (Option.some.inj hv).symm
  subst e
  have hd0 : (x.den : Int) ≠ 0 := by have := qAq x; omega
  obtain ⟨k, hk⟩ := qFa xs.length xs rfl x hm
  have e1 : (prD xs).fdiv x.den = k := by rw [hk]; exact jDc k hd0
  have kb : ((prD xs).fdiv x.den).natAbs < 2 ^ 2101 := by
   rw [e1]
   have : k.natAbs <= (prD xs).natAbs := by
    rw [hk, jCu]
    exact jDr _ (by omega)
   have p := pb xs.length
   rw [jDi] at p
   omega
  simp only [jC5, jB5, op2, op2K, vr, cst, jC6, jCb, bnd_ok, ix0, ix1, qAf hd0, mulD_c (hb x hm).1 kb (by decide)]
 simp only [jA7, jC4, jC7] at cc
 simp_all [cc]
 exact ⟨_, rfl, jAx _, SLe.app _, qAd _ _⟩
def cb (i : Nat) : Nat := 2 ^ i * 2251 - 1
theorem cb_succ (i : Nat) : cb (i + 1) = cb i + cb i + 1 := by
 have := jEr (show 2 ^ i ≠ 0 by simp)
 unfold cb
 rw [jCy]
 omega
theorem cb_le {i k : Nat} (h : i <= k) : cb i <= cb k := by
 have := jEp 2251 (jCr (show 0 < 2 by decide) h)
 unfold cb
 omega
theorem clr_le {x o : List Int} {a n i : Nat} (hx : ∀ z ∈ x, z.natAbs < 2 ^ cb i) (ho : ∀ z ∈ o, z.natAbs < 2 ^ cb i) : ∀ z ∈ clrR x o a n, z.natAbs < 2 ^ cb (i + 1) := fun z hz => by
 obtain ⟨c, _, rfl⟩ := jB9.mp hz
 have g : ∀ (y : List Int), (∀ z ∈ y, z.natAbs < 2 ^ cb i) -> ∀ c, (y.getD c 0).natAbs < 2 ^ cb i := fun y hy c => by
  by_cases h : c < y.length
  ·exact hy _ (by simp [h])
  ·rw [jD5, jCo (by omega)]
   exact jEr (by simp)
 have h1 := qB2 (g x hx c) (g o ho a)
 have h2 := qB2 (g o ho c) (g x hx a)
 rw [cb_succ, jCy]
 have := Int.natAbs_sub_le (x.getD c 0 * o.getD a 0) (o.getD c 0 * x.getD a 0)
 rw [jCu, jCu] at this
 omega
def kD (x : (Nat × List Int) × Nat) : D := .tup [.int (x.1.1 : Int), .ref x.2]
section
variable {S : Sto} {a w : Nat} {ts : List Pt} {q : List (Pt × Nat)}
theorem free44_w (hs : Sml w ts) (hn : ts.length <= 14) (ha : zH S a = some (q.map tpD)) (hr : ∀ x ∈ q, RowA S x.2 x.1.row) (hq : q.map (·.1) = ts) :
  W (F.k44_free [.ref a, .int (w : Int)] S) fun d S' => SLe S S' /\ ∃ b, d = .ref b /\ zH S' b = some ((qBf w ts).map natD) := by
 have hw := hs.wide
 have ql : q.length = ts.length := by rw [<- hq]; simp
 have qw : ∀ x ∈ q, x.1.row.length = w := fun x hx => (hs.each x.1 (by rw [<- hq]; exact jB9.mpr ⟨x, hx, rfl⟩)).1
 have cbt : cb 12 <= 10000000 := by decide
 have colb : ∀ j, j < w -> ∀ x ∈ colR (ts.map (·.row)) j, Le 150 x := fun j hj => by
  rw [<- qEt hj]
  exact rows_leT hs.leC j
 have coll : ∀ j, (colR (ts.map (·.row)) j).length = ts.length := fun j => by simp [colR]
 unfold F.k44_free
 refine W_fnF rfl ?_
 rw [W_outF]
 unfold Den.k44_free
 refine qAb (fun δ' S' => ∃ (b2 : Nat) (cs : List Nat), δ' = [some (.ref a), some (.int (w : Int)), some (.ref b2), none, none, none, none, none, none, none] /\ SLe S S' /\ zH S' b2 = some (cs.map D.ref) /\ cs.length = w /\ ∀ (j b : Nat), cs[j]? = some b -> zH S' b = some ((whR (colR (ts.map (·.row)) j)).map D.int)) ?_ ?_
 ·simp_all []
  refine W_compLs _ ((jAg w).map fun i => D.int (i : Nat)) ((jAg w).map fun j => (whR (colR (ts.map (·.row)) j)).map D.int) _ (qA4 [some (.ref a), some (.int (w : Int)), none, none, none, none, none, none, none, none]) (fun _ _ => trivial) (by simp) (it_rng rfl (by omega)) ?_ ?_
  ·intro j x r S' hx hr' l
   obtain ⟨rfl, hj⟩ := qAh hx
   obtain ⟨rfl, _⟩ := qAh hr'
   have cc := col_comp (base := [some (.ref a), some (.int (w : Int)), none, none, none, none, none, none, none, none, some (.int (j : Nat))]) (S := S') (it := itE itL (vr 0)) (ej := vr 10) (by simp only [Np.itA, Np.itE, Np.yH, Np.aConsK, Np.aNil, Np.consK, Np.vr, Np.cst, jC6, jCb, Np.bnd_ok]; exact qAk (l.lst ha)) (l.lst ha) (by omega) (fun x hx => l.lst (hr x hx)) qw hj (fun _ => rfl) fun _ => rfl
   simp only [jA7, jC4, jC7] at cc
   rw [hq] at cc
   show W (fnE F.k44_whole_row _ [some (.ref a), some (.int (w : Int)), none, none, none, none, none, none, none, none, some (.int (j : Nat))] S') _
   simp_all [cc]
   refine (whole44_w (qAd S' _) (by rw [coll]; exact hn) (colb j hj)).mono ?_
   rintro d S'' ⟨b, rfl, nb, l', r'⟩
   exact ⟨b, rfl, jAj (SLe.app _).len nb, (SLe.app _).trans l', r'⟩
  ·intro S' c cs l nc rc cl h
   refine ⟨_, rfl, c, cs, rfl, l, rc, by simpa using cl, fun j b hb => ?_⟩
   have hj : j < w := by
    have := (jAr.mp hb).1
    rw [cl] at this
    simpa using this
   exact h j b _ hb (by simp [hj])
 rintro _ S1 ⟨b2, cs, rfl, l1, r2, cl, hcs⟩
 refine qAb (fun δ' S' => ∃ b3, δ' = [some (.ref a), some (.int (w : Int)), some (.ref b2), some (.ref b3), none, none, none, none, none, none] /\ SLe S1 S' /\ S1.length <= b3 /\ zH S' b3 = some []) ?_ ?_
 ·simp_all []
  refine qAw (qAx (by simp) _) fun S2 b l2 n2 r2 => ?_
  exact ⟨_, rfl, b, rfl, l2, n2, r2⟩
 rintro _ S2 ⟨b3, rfl, l2, n3, r3⟩
 have b3l := qAe r3
 refine qAb (fun δ' S' => ∃ b4, δ' = [some (.ref a), some (.int (w : Int)), some (.ref b2), some (.ref b3), some (.ref b4), none, none, none, none, none] /\ SLe S2 S' /\ S2.length <= b4 /\ zH S' b4 = some []) ?_ ?_
 ·simp_all []
  refine qAw (qAx (by simp) _) fun S3 b l3 n3 r3 => ?_
  exact ⟨_, rfl, b, rfl, l3, n3, r3⟩
 rintro _ S3 ⟨b4, rfl, l3, n4, r4⟩
 have r3 := l3.lst r3
 have ne34 : b3 ≠ b4 := by omega
 have l13 := l2.trans l3
 refine qAb (fun δ' S' => SLe S1 S' /\ (∃ o5 o6 o7 o8 o9, δ' = [some (.ref a), some (.int (w : Int)), some (.ref b2), some (.ref b3), some (.ref b4), o5, o6, o7, o8, o9]) /\ zH S' b4 = some ((qBf w ts).map natD)) ?_ ?_
 ·have r2' := l13.lst r2
  simp_all [qEe r2']
  refine qBl (enmG (cs.map D.ref)) (fun j δ S' => SLe S1 S' /\ (∃ o5 o6 o7 o8 o9, δ = [some (.ref a), some (.int (w : Int)), some (.ref b2), some (.ref b3), some (.ref b4), o5, o6, o7, o8, o9]) /\ zH S' b4 = some (((jAg j).filter fun i => stl (zR (gPa w ts) i)).map natD) /\ ∃ K : List ((Nat × List Int) × Nat), zH S' b3 = some (K.map kD) /\ (∀ x ∈ K, zH S' x.2 = some (x.1.2.map D.int) /\ x.2 ≠ b3 /\ x.2 ≠ b4) /\ K.length <= j /\ Clr ts.length j (fun l c => thg ts c l) (K.map (·.1)) /\ ∀ (i : Nat) x, K[i]? = some x -> ∀ z ∈ x.1.2, z.natAbs < 2 ^ cb i) (by rw [qFi r2']; simp [enmG]) ⟨l13, ⟨_, _, _, _, _, rfl⟩, r4, [], r3, fun _ h => (by cases h), jAx _, Clr.nil, fun i x h => (by simp at h)⟩ ?_ ?_ ?_
  ·rintro j δ S' ⟨l', _⟩
   exact qFo (l'.lst r2) j
  ·rintro j x δ S' hx ⟨l', ⟨o5, o6, o7, o8, o9, rfl⟩, r4', K, r3', hK, Kl, clr, Kb⟩
   unfold enmG at hx
   obtain ⟨rfl, hj⟩ := qAh hx
   rw [jBd] at hj
   obtain ⟨cj, hcj⟩ := zQ hj
   have hjw : j < w := by omega
   rw [show (cs.map D.ref).getD j .non = .ref cj by rw [jD5, jBs, hcj]; rfl]
   refine W.intro (a := [some (.ref a), some (.int (w : Int)), some (.ref b2), some (.ref b3), some (.ref b4), some (.int (j : Nat)), some (.ref cj), o7, o8, o9]) (S := S') rfl ?_
   have rcj := l'.lst (hcs j cj hcj)
   have cj3 : cj < S1.length := qAe (hcs j cj hcj)
   -- cleared by all ahead
   refine qAb (fun δ' S4 => SLe S' S4 /\ ∃ (r6 : Nat) (o7 o8 : Option D) (xv : List Int), δ' = [some (.ref a), some (.int (w : Int)), some (.ref b2), some (.ref b3), some (.ref b4), some (.int (j : Nat)), some (.ref r6), o7, o8, o9] /\ zH S4 r6 = some (xv.map D.int) /\ r6 ≠ b3 /\ r6 ≠ b4 /\ Prc ts.length j (fun l c => thg ts c l) (K.map (·.1)) K.length xv /\ ∀ z ∈ xv, z.natAbs < 2 ^ cb K.length) ?_ ?_
   ·simp_all [qAk r3']
    refine qBl (K.map kD) (fun i δ S4 => SLe S' S4 /\ ∃ (r6 : Nat) (o7 o8 : Option D) (xv : List Int), δ = [some (.ref a), some (.int (w : Int)), some (.ref b2), some (.ref b3), some (.ref b4), some (.int (j : Nat)), some (.ref r6), o7, o8, o9] /\ zH S4 r6 = some (xv.map D.int) /\ r6 ≠ b3 /\ r6 ≠ b4 /\ Prc ts.length j (fun l c => thg ts c l) (K.map (·.1)) i xv /\ ∀ z ∈ xv, z.natAbs < 2 ^ cb i) (by rw [qAs r3']; exact jAx _) ⟨SLe.rfl, cj, _, _, _, rfl, rcj, by omega, by omega, ?_, ?_⟩ ?_ ?_ ?_
    ·refine ⟨by simp [whR, coll], ⟨(prD (colR (ts.map (·.row)) j) : Rat), fun _ => 0, qDb (prD_pos _ _ rfl), fun c hc => ?_⟩, fun i' y h => by omega⟩
     rw [whR_get (by rw [coll]; exact hc), zM (g := fun _ => 0) fun l _ => by grind, qAv]
     rw [<- qEt hjw, <- qCw, qCm hjw hc]
     grind
    ·exact whR_le (b := 150) (n := 14) (by rw [coll]; exact hn) (colb j hjw)
    ·rintro i δ S4 ⟨l4, _⟩
     exact qBs (l4.lst r3') i
    ·rintro i d δ S4 hd ⟨l4, r6, o7, o8, xv, rfl, rx, n63, n64, prc, xb⟩
     obtain ⟨y, hy, rfl⟩ := qAr hd
     have ym := zK hy
     obtain ⟨ro, _, _⟩ := hK y ym
     have ro := l4.lst ro
     have hy' : (K.map (·.1))[i]? = some y.1 := by rw [jBs, hy]; rfl
     have iK : i < K.length := (jAr.mp hy).1
     obtain ⟨y1, y2, y3⟩ := clr.len y.1 (jBt hy')
     have ob : ∀ z ∈ y.1.2, z.natAbs < 2 ^ cb i := Kb i y hy
     have xl := prc.len
     have cbi : cb i <= 10000000 := jAj (cb_le (show i <= 12 by omega)) cbt
     have cc := qEz (base := [some (.ref a), some (.int (w : Int)), some (.ref b2), some (.ref b3), some (.ref b4), some (.int (j : Nat)), some (.ref r6), some (.int (y.1.1 : Int)), some (.ref y.2), o9]) (S := S4) (as := yH (fnE lenD (yH (vr 6) aNil)) aNil) (n := ts.length) (zs := (clrR xv y.1.2 y.1.1 ts.length).map D.int) (e := op2 subD (op2 mulD (op2 ixD (vr 6) (vr 10)) (op2 ixD (vr 8) (vr 7))) (op2 mulD (op2 ixD (vr 8) (vr 10)) (op2 ixD (vr 6) (vr 7)))) (by simp only [yH, aConsK, consK, aNil, fnE, vr, jC6, jCb, bnd_ok, qAz rx, jBd, xl]) (by omega) (by simp [clrR]) fun k v hv => by
      obtain ⟨z, hz, rfl⟩ := qAr hv
      unfold clrR at hz
      obtain ⟨rfl, hk⟩ := qAh hz
      have gx : ∀ c, c < ts.length -> (xv.map D.int)[c]? = some (.int (xv.getD c 0)) := fun c hc => by simp [show c < xv.length by omega]
      have go : ∀ c, c < ts.length -> (y.1.2.map D.int)[c]? = some (.int (y.1.2.getD c 0)) := fun c hc => by simp [show c < y.1.2.length by omega]
      have bx : ∀ c, c < ts.length -> (xv.getD c 0).natAbs < 2 ^ cb i := fun c hc => xb _ (by simp [show c < xv.length by omega])
      have bo : ∀ c, c < ts.length -> (y.1.2.getD c 0).natAbs < 2 ^ cb i := fun c hc => ob _ (by simp [show c < y.1.2.length by omega])
      simp only [jC5, jB5, op2, op2K, vr, jC6, jCb, bnd_ok, qAg rx (gx k hk), qAg rx (gx y.1.1 y2), qAg ro (go k hk), qAg ro (go y.1.1 y2), mulD_c (bx k hk) (bo y.1.1 y2) (by omega), mulD_c (bo k hk) (bx y.1.1 y2) (by omega), subD_int]
     simp only [jA7, jC4, jC7] at cc
     unfold kD
     simp_all [tupG2, cc]
     have n3' := qAe (l4.lst r3')
     have n4' := qAe (l4.lst r4')
     exact ⟨l4.trans (SLe.app _), _, _, _, _, rfl, qAd _ _, by omega, by omega, prc.step clr hy', clr_le xb ob⟩
    ·rintro δ S4 ⟨l4, r6, o7, o8, xv, rfl, rx, n63, n64, prc, xb⟩
     rw [jBd] at prc xb
     exact ⟨_, rfl, l4, r6, o7, o8, xv, rfl, rx, n63, n64, prc, xb⟩
   rintro _ S4 ⟨l4, r6, o7, o8, xv, rfl, rx, n63, n64, prc, xb⟩
   have xl := prc.len
   have klen : (K.map (·.1)).length = K.length := by simp
   have gx : ∀ c, c < ts.length -> (xv.map D.int)[c]? = some (.int (xv.getD c 0)) := fun c hc => by simp [show c < xv.length by omega]
   have prc' : Prc ts.length j (fun l c => thg ts c l) (K.map (·.1)) (K.map (·.1)).length xv := by rw [klen]; exact prc
   have fr := clr_free hs hjw clr prc'
   -- where it is not nought
   refine qAb (fun δ' S5 => SLe S4 S5 /\ ∃ r9, δ' = [some (.ref a), some (.int (w : Int)), some (.ref b2), some (.ref b3), some (.ref b4), some (.int (j : Nat)), some (.ref r6), o7, o8, some (.ref r9)] /\ zH S5 r9 = some (((jAg ts.length).filter fun c => !decide (xv.getD c 0 = 0)).map natD)) ?_ ?_
   ·simp_all []
    refine W_compF _ ((jAg ts.length).map fun i => D.int (i : Nat)) _ (fun x => match x with | .int i => !decide (xv.getD i.toNat 0 = 0) | _ => false) id (qA4 [some (.ref a), some (.int (w : Int)), some (.ref b2), some (.ref b3), some (.ref b4), some (.int (j : Nat)), some (.ref r6), o7, o8, o9]) (fun _ _ => trivial) (it_rng (by simp only [fnE, yH, aConsK, consK, aNil, vr, jC6, jCb, bnd_ok, qAz rx, jBd, xl]) (by omega)) ?_ ?_
    ·intro x S5 hx l5
     obtain ⟨k, hk, rfl⟩ := jB9.mp hx
     have hk := jAi.mp hk
     show W (tv (op2 neD (op2 ixD (vr 6) (vr 10)) (cst (.int 0))) [some (.ref a), some (.int (w : Int)), some (.ref b2), some (.ref b3), some (.ref b4), some (.int (j : Nat)), some (.ref r6), o7, o8, o9, some (.int (k : Nat))] S5) _
     simp_all [qAg (l5.lst rx) (gx k hk)]
     exact ⟨SLe.rfl, by simp, fun _ => ⟨rfl, SLe.rfl⟩⟩
    ·intro S5 b l5 n5 e5
     refine ⟨_, rfl, l5, b, rfl, ?_⟩
     rw [e5, List.filter_map, jCc]
     rfl
   rintro _ S5 ⟨l5, r9, rfl, e9⟩
   have l45 := l4.trans l5
   have r3'' := l45.lst r3'
   have r4'' := l45.lst r4'
   have n1b4 : S1.length <= b4 := jAj l2.len n4
   have range_snoc : ∀ (p : Nat -> Bool), (jAg (j + 1)).filter p = (jAg j).filter p ++ (if p j = true then [j] else []) := fun p => by
    rw [List.range_succ, List.filter_append]
    by_cases h : p j = true
    ·rw [if_pos h]; simp [h]
    ·rw [if_neg h]; simp [h]
   unfold ifS
   rw [W_bnd]
   simp_all []
   refine qAw (qAx (by simp) _) fun S6 b6 l6 n6 r6' => ?_
   have r3s := l6.lst r3''
   have r4s := l6.lst r4''
   have L6 := l45.trans l6
   have eqn : eqD (.ref r9) (.ref b6) S6 = ok (.bl (decide ((jAg ts.length).filter (fun c => !decide (xv.getD c 0 = 0)) = []))) S6 := eqD_nats (l6.lst e9) (ys := []) r6'
   by_cases hz : (jAg ts.length).filter (fun c => !decide (xv.getD c 0 = 0)) = []
   ·have xz : ∀ c, c < ts.length -> xv.getD c 0 = 0 := fun c hc => by
     have := List.filter_eq_nil_iff.mp hz c (jAi.mpr hc)
     simpa using this
    have st := fr.mp xz
    simp_all [eqn, hz, qB1 r4s]
    refine W_app r4s (by
     have := jEq (fun i => stl (zR (gPa w ts) i)) (jAg j)
     rw [jD1] at this
     rw [jBd]
     omega) fun S7 _ k7 kk7 r7 => ?_
    refine ⟨k7 _ (l'.trans L6) n1b4, ⟨_, _, _, _, _, rfl⟩, ?_, K, by rw [kk7 b3 ne34]; exact r3s, fun x hx => ?_, by omega, clr.more prc' xz, Kb⟩
    ·rw [r7, range_snoc, if_pos st, jEk]
     rfl
    ·obtain ⟨h1, h2, h3⟩ := hK x hx
     exact ⟨by rw [kk7 x.2 h3]; exact L6.lst h1, h2, h3⟩
   ·obtain ⟨p, ps, hp⟩ := List.exists_cons_of_ne_nil hz
    have pm : p ∈ (jAg ts.length).filter (fun c => !decide (xv.getD c 0 = 0)) := by rw [hp]; exact .head _
    obtain ⟨pr, pz⟩ := jAh.mp pm
    have pr := jAi.mp pr
    have pz : xv.getD p 0 ≠ 0 := by simpa using pz
    have st : ¬ stl (zR (gPa w ts) j) = true := fun h => pz (fr.mpr h p pr)
    have ix9 : ixD (.ref r9) (.int 0) S6 = ok (.int (p : Int)) S6 := qAg (i := 0) (l6.lst e9) (by rw [hp]; rfl)
    simp_all [eqn, hz, qB1 r3s, ix9, tup2]
    refine W_app r3s (by rw [jBd]; omega) fun S7 _ k7 kk7 r7 => ?_
    refine ⟨k7 _ (l'.trans L6) n3, ⟨_, _, _, _, _, rfl⟩, ?_, K ++ [((p, xv), r6)], by rw [r7, jEk]; rfl, fun x hx => ?_, by simp; omega, ?_, fun i x hx => ?_⟩
    ·rw [kk7 b4 (Ne.symm ne34), r4s, range_snoc, if_neg st, jBh]
    ·rcases jAp.mp hx with hx | hx
     ·obtain ⟨h1, h2, h3⟩ := hK x hx
      exact ⟨by rw [kk7 x.2 h2]; exact L6.lst h1, h2, h3⟩
     ·rw [jCj.mp hx]
      exact ⟨by show zH S7 r6 = _; rw [kk7 r6 n63]; exact (l5.trans l6).lst rx, n63, n64⟩
    ·rw [jEk]
     exact clr.add prc' pr pz
    ·rcases qCk hx with ⟨_, h⟩ | ⟨rfl, rfl⟩
     ·exact Kb i x h
     ·exact xb
  ·rintro δ S' ⟨l', hδ, r4', _⟩
   refine ⟨_, rfl, l', hδ, ?_⟩
   rw [r4', show (enmG (cs.map D.ref)).length = w by simp [enmG, cl]]
   rfl
 rintro _ S4 ⟨l4, ⟨o5, o6, o7, o8, o9, rfl⟩, r4⟩
 simp_all []
 exact ⟨l1.trans l4, b4, rfl, r4⟩
end
end Nm
end
section
namespace Nm
open Np PySem
section
variable {S : Sto} {a w : Nat} {ts : List Pt} {q : List (Pt × Nat)}
theorem way_at {k : Nat} (h : Sml w ts) (hk : k < w) : (molR (zR (gHa w ts) k) w).getD k 0 = 1 := by
 rw [way_get hk hk, if_pos rfl, h.gs.low k k hk (jAx _)]
 grind
theorem way_zero {k j : Nat} (h : Sml w ts) (hk : k < w) (hj : j < w) (hz : k < j \/ (j ∈ qBf w ts /\ j ≠ k)) : (molR (zR (gHa w ts) k) w).getD j 0 = 0 := by
 have hjk : j ≠ k := by rcases hz with z | z <;> omega
 rw [way_get hk hj, if_neg hjk]
 have : ent (gHa w ts) k j = 0 := by
  by_cases hl : k <= j
  ·exact h.gs.low k j hk hl
  ·rcases hz with z | z
   ·omega
   ·exact h.gs.free k j hk (by omega) fun c _ => (qC2.mp z.1).2 c
 rw [this]
 grind
theorem way44_w {r d k V : Nat} (hs : Sml w ts) (hk : k ∈ qBf w ts) (hV : ∀ x ∈ molR (zR (gHa w ts) k) w, Le V x) (hB : V * (w + 1) <= 20000000) (hr0 : RowA S r (molR (zR (gHa w ts) k) w)) (hd : zH S d = some ((qBf w ts).map natD)) (ha : zH S a = some (q.map tpD)) (hr : ∀ x ∈ q, RowA S x.2 x.1.row) (hq : q.map (·.1) = ts) :
  W (F.k44_way [.ref r, .ref d, .int (k : Int), .ref a, .int (w : Int)] S) fun v S' => v = .bl true /\ SLe S S' := by
 have hw := hs.wide
 have hn := hs.len
 have ql : q.length = ts.length := by rw [<- hq]; simp
 obtain ⟨hkw, hk0⟩ := qC2.mp hk
 have wm : molR (zR (gHa w ts) k) w ∈ wayL w ts := jB9.mpr ⟨k, hk, rfl⟩
 have wl := way_len wm
 have wn : ∀ c, c < ts.length -> (Sg w fun j => thg ts c j * (molR (zR (gHa w ts) k) w).getD j 0) = 0 := fun c hc => way_null hs hk hc
 have w1 := way_at hs hkw
 have w0 : ∀ j, j < w -> (k < j \/ (j ∈ qBf w ts /\ j ≠ k)) -> (molR (zR (gHa w ts) k) w).getD j 0 = 0 := fun j hj z => way_zero hs hkw hj z
 generalize molR (zR (gHa w ts) k) w = xs at hV hr0 wl wn w1 w0
 have gx : ∀ j, j < w -> (xs.map ratD)[j]? = some (ratD (xs.getD j 0)) := fun j hj => by simp [show j < xs.length by omega]
 have hV' : V <= 20000000 := jAj (jDs _ (by omega)) hB
 unfold F.k44_way
 refine W_fnF rfl ?_
 rw [W_outF]
 unfold Den.k44_way
 refine qAb (fun δ' S' => SLe S S' /\ δ' = [some (.ref r), some (.ref d), some (.int (k : Int)), some (.ref a), some (.int (w : Int)), none, none, none, none, none]) ?_ ?_
 ·simp_all [qBj hr0, qAz hr0, jBd, wl]
  refine W_compX (base := [some (.ref r), some (.ref d), some (.int (k : Int)), some (.ref a), some (.int (w : Int)), none, none, none, none, none]) (k := 1) (fun x => [some x]) (xs.map ratD) (fun _ d => d = .bl true) (fun _ => True) (qA4 [some (.ref r), some (.ref d), some (.int (k : Int)), some (.ref a), some (.int (w : Int)), none, none, none, none, none]) (fun _ _ => trivial) ?_ ?_ ?_
  ·simp_all [qAk hr0]
   exact qFd hr0 (by simp; omega)
  ·intro x S' hx l
   obtain ⟨y, hy, rfl⟩ := jB9.mp hx
   simp_all []
   refine (ratio42_w y S').mono ?_
   rintro d S'' ⟨rfl, rfl⟩
   exact ⟨rfl, SLe.rfl⟩
  ·intro ds S' l hd he
   have : ∀ d ∈ ds, d = .bl true := fun d hm => by
    obtain ⟨i, hi, rfl⟩ := jDj hm
    exact he i ((xs.map ratD)[i]'(by omega)) _ (jEn _) (jEn hi)
   simp_all [qDq (qAd S' ds) (qF3 this)]
   exact ⟨_, rfl, l.push _, rfl⟩
 rintro _ S1 ⟨l1, rfl⟩
 have hr1 := l1.lst hr0
 have hd1 := l1.lst hd
 refine qAb (fun δ' S' => S' = S1 /\ δ' = [some (.ref r), some (.ref d), some (.int (k : Int)), some (.ref a), some (.int (w : Int)), none, none, none, none, none]) ?_ ?_
 ·simp_all [qAg hr1 (gx k hkw), w1]
  exact ⟨_, rfl, trivial, rfl⟩
 rintro _ S' ⟨rfl, rfl⟩
 refine qAb (fun δ' S2 => S2 = S' /\ ∃ o5, δ' = [some (.ref r), some (.ref d), some (.int (k : Int)), some (.ref a), some (.int (w : Int)), o5, none, none, none, none]) ?_ ?_
 ·simp_all [qB9 (show w < 1000000 by omega), qBa]
  refine qBl ((jAg w).map fun i => D.int (i : Nat)) (fun i δ S2 => S2 = S' /\ ∃ o5, δ = [some (.ref r), some (.ref d), some (.int (k : Int)), some (.ref a), some (.int (w : Int)), o5, none, none, none, none]) (jAx _) ⟨rfl, _, rfl⟩ (fun i δ S' _ => rfl) ?_ ?_
  ·rintro j x δ S2 hx ⟨rfl, o5, rfl⟩
   obtain ⟨rfl, hj⟩ := qAh hx
   by_cases c1 : (k : Int) < ((j : Nat) : Int)
   ·simp_all [c1, qAg hr1 (gx j hj), w0 j hj (.inl (by omega))]
    exact ⟨rfl, _, rfl⟩
   ·by_cases c2 : j ∈ qBf w ts
    ·by_cases c3 : ((j : Nat) : Int) = (k : Int)
     ·obtain rfl : j = k := by omega
      simp_all [c1, qFm hd1, c2]
      exact ⟨rfl, _, rfl⟩
     ·simp_all [c1, qFm hd1, c2, c3, qAg hr1 (gx j hj), w0 j hj (.inr ⟨c2, by omega⟩)]
      exact ⟨rfl, _, rfl⟩
    ·simp_all [c1, qFm hd1, c2]
     exact ⟨rfl, _, rfl⟩
  ·rintro δ S2 ⟨rfl, o5, rfl⟩
   exact ⟨_, rfl, rfl, o5, rfl⟩
 rintro _ S2 ⟨rfl, o5, rfl⟩
 have a2 := l1.lst ha
 refine qAb (fun δ' S3 => S3 = S2 /\ ∃ o5 o6 o7 o8 o9, δ' = [some (.ref r), some (.ref d), some (.int (k : Int)), some (.ref a), some (.int (w : Int)), o5, o6, o7, o8, o9]) ?_ ?_
 ·simp_all [qAk a2]
  refine qBl (q.map tpD) (fun i δ S3 => S3 = S2 /\ ∃ o5 o6 o7 o8 o9, δ = [some (.ref r), some (.ref d), some (.int (k : Int)), some (.ref a), some (.int (w : Int)), o5, o6, o7, o8, o9]) (by rw [qAs a2]; exact jAx _) ⟨rfl, _, _, _, _, _, rfl⟩ ?_ ?_ ?_
  ·rintro i δ S3 ⟨rfl, _⟩
   exact qBs a2 i
  ·rintro i v δ S3 hv ⟨rfl, o5, o6, o7, o8, o9, rfl⟩
   obtain ⟨y, hy, rfl⟩ := qAr hv
   have ym := zK hy
   have hyt : ts[i]? = some y.1 := by rw [<- hq]; exact q_get hy
   have hil : i < ts.length := (jAr.mp hyt).1
   obtain ⟨g1, g2, g3, g4, g5⟩ := hs.each y.1 (jBt hyt)
   have ry := l1.lst (hr y ym)
   have gy : ∀ j, j < w -> (y.1.row.map ratD)[j]? = some (ratD (y.1.row.getD j 0)) := fun j hj => by simp [show j < y.1.row.length by omega]
   have zb : ∀ z ∈ jDd (· * ·) y.1.row xs, Le (150 + V) z := qEx (f := (· * ·)) (fun a b h1 h2 => h1.mul h2) g2 hV
   have zl : (jDd (· * ·) y.1.row xs).length = w := by simp [g1, wl]
   have z0 : sumR (jDd (· * ·) y.1.row xs) = 0 := by
    show dotR y.1.row xs = 0
    rw [dotR_val hyt g1 wl]
    exact wn i hil
   refine W.intro (a := [some (.ref r), some (.ref d), some (.int (k : Int)), some (.ref a), some (.int (w : Int)), o5, some (.ref y.2), some (ratD y.1.want), some (ratD y.1.wt), o9]) (S := S3) rfl ?_
   refine qAb (fun δ' S4 => S4 = S3 /\ δ' = [some (.ref r), some (.ref d), some (.int (k : Int)), some (.ref a), some (.int (w : Int)), o5, some (.ref y.2), some (ratD y.1.want), some (ratD y.1.wt), some (ratD 0)]) ?_ ?_
   ·simp_all []
    exact ⟨_, rfl, trivial, rfl⟩
   rintro _ S4 ⟨rfl, rfl⟩
   refine qAb (fun δ' S5 => S5 = S4 /\ ∃ o5, δ' = [some (.ref r), some (.ref d), some (.int (k : Int)), some (.ref a), some (.int (w : Int)), o5, some (.ref y.2), some (ratD y.1.want), some (ratD y.1.wt), some (ratD 0)]) ?_ ?_
   ·simp_all [qB9 (show w < 1000000 by omega), qBa]
    refine qBl ((jAg w).map fun i => D.int (i : Nat)) (fun j δ S5 => S5 = S4 /\ ∃ o5, δ = [some (.ref r), some (.ref d), some (.int (k : Int)), some (.ref a), some (.int (w : Int)), o5, some (.ref y.2), some (ratD y.1.want), some (ratD y.1.wt), some (ratD (sumR ((jDd (· * ·) y.1.row xs).take j)))]) (jAx _) ⟨rfl, _, rfl⟩ (fun i δ S' _ => rfl) ?_ ?_
    ·rintro j x δ S5 hx ⟨rfl, o5, rfl⟩
     obtain ⟨rfl, hj⟩ := qAh hx
     have b1 : Le 150 (y.1.row.getD j 0) := g2 _ (qFr (by omega))
     have b2 : Le V (xs.getD j 0) := hV _ (qFr (by omega))
     have hzi : (jDd (· * ·) y.1.row xs)[j]? = some (y.1.row.getD j 0 * xs.getD j 0) := by simp [jDe, show j < y.1.row.length by omega, show j < xs.length by omega]
     have ls : sm (sumR ((jDd (· * ·) y.1.row xs).take j)) := by
      refine (Le.sumR fun x hx => zb x (jDp hx)).sm ?_
      have h1 : (150 + V + 1) * ((jDd (· * ·) y.1.row xs).take j).length <= (151 + V) * (w + 1) := jEi (by omega) (by simp [zl]; omega)
      have h3 : (151 + V) * (w + 1) = 151 * (w + 1) + V * (w + 1) := Nat.add_mul _ _ _
      have h2 : 151 * (w + 1) <= 151 * 13 := jDq _ (by omega)
      omega
     simp_all [qAg ry (gy j hj), qAg hr1 (gx j hj), qBu (b1.sm (by decide)) (b2.sm (by omega)), qCa ls ((b1.mul b2).sm (by omega))]
     exact ⟨rfl, _, by rw [qDs hzi]⟩
    ·rintro δ S5 ⟨rfl, o5, rfl⟩
     refine ⟨_, rfl, rfl, o5, ?_⟩
     rw [jDm (by simp; omega), z0]
   rintro _ S5 ⟨rfl, o5, rfl⟩
   simp_all []
   exact ⟨rfl, _, _, _, _, _, rfl⟩
  ·rintro δ S3 ⟨rfl, o5, o6, o7, o8, o9, rfl⟩
   exact ⟨_, rfl, rfl, o5, o6, o7, o8, o9, rfl⟩
 rintro _ S3 ⟨rfl, o5, o6, o7, o8, o9, rfl⟩
 simp_all []
 exact ⟨trivial, l1⟩
end
theorem k44_holds (ns : List Int) (hs : Scr ns) : W (F.k44_law [.scr (ns.map D.int)] []) fun d _ => d = .bl true := by
 unfold F.k44_law
 refine W_fnF rfl ?_
 rw [W_outF]
 unfold Den.k44_law
 refine qAb (fun δ' S' => ∃ (a w : Nat) (q : List (Pt × Nat)), δ' = [some (.scr (ns.map D.int)), some (.int (w : Nat)), some (.ref a), none, none, none, none, none, none, none] /\ zH S' a = some (q.map tpD) /\ (∀ x ∈ q, RowA S' x.2 x.1.row) /\ D44 w (q.map (·.1))) ?_ ?_
 ·simp_all []
  refine (points44_w ns []).mono ?_
  rintro d S' ⟨_, b, a, w, q, rfl, hb, ha, hr, hp⟩
  simp_all [lstG2 hb]
  exact ⟨_, rfl, a, w, q, rfl, ha, hr, hp⟩
 rintro _ S1 ⟨a, w, q, rfl, ha, hr, hd⟩
 obtain ⟨hm, hn⟩ := sml44 hd
 generalize hts : q.map (·.1) = ts at hd hm hn
 have hw := hm.wide
 have ql : q.length = ts.length := by rw [<- hts]; simp
 refine qAb (fun δ' S' => ∃ f c wa we pa n1 n2 cs as bs, δ' = [some (.scr (ns.map D.int)), some (.int (w : Nat)), some (.ref a), some (.ref f), none, none, none, none, none, none] /\ SLe S1 S' /\ FtA S' f w ts c wa we pa n1 n2 cs as bs) ?_ ?_
 ·simp_all [mkE]
  refine qAw (qFh ha) fun S2 a2 l2 _ r2 => ?_
  have fm := fit_mk (w := w) r2 (fun x hx => l2.lst (hr x hx)) (by rw [hts]; exact hm)
  rw [hts] at fm
  refine fm.mono ?_
  rintro d S3 ⟨l3, f, c, wa, we, pa, n1, n2, cs, as, bs, rfl, _, h3⟩
  exact ⟨_, rfl, f, c, wa, we, pa, n1, n2, cs, as, bs, rfl, l2.trans l3, h3⟩
 rintro _ S2 ⟨f, c, wa, we, pa, n1, n2, cs, as, bs, rfl, l2, h2⟩
 refine qAb (fun δ' S' => ∃ b4, δ' = [some (.scr (ns.map D.int)), some (.int (w : Nat)), some (.ref a), some (.ref f), some (.ref b4), none, none, none, none, none] /\ SLe S2 S' /\ zH S' b4 = some ((qBf w ts).map natD)) ?_ ?_
 ·simp_all []
  refine (free44_w hm hn (l2.lst ha) (fun x hx => l2.lst (hr x hx)) hts).mono ?_
  rintro d S3 ⟨l3, b, rfl, r3⟩
  exact ⟨_, rfl, b, rfl, l3, r3⟩
 rintro _ S3 ⟨b4, rfl, l3, r4⟩
 have h3 := h2.mono l3
 have b4l := qAe r4
 refine qAb (fun δ' S' => ∃ b5, δ' = [some (.scr (ns.map D.int)), some (.int (w : Nat)), some (.ref a), some (.ref f), some (.ref b4), some (.ref b5), none, none, none, none] /\ SLe S3 S' /\ S3.length <= b5 /\ zH S' b5 = some ((qBf w ts).map natD)) ?_ ?_
 ·simp_all [qAp, h3.me (m := "free") rfl, qBe]
  refine (free2_w h3 hm).mono ?_
  rintro d S4 ⟨l4, b, rfl, r4, n4⟩
  exact ⟨_, rfl, b, rfl, l4, n4, r4⟩
 rintro _ S4 ⟨b5, rfl, l4, n5, r5⟩
 have b5l := qAe r5
 refine qAb (fun δ' S' => S' = S4 /\ δ' = [some (.scr (ns.map D.int)), some (.int (w : Nat)), some (.ref a), some (.ref f), some (.ref b4), some (.ref b5), none, none, none, none]) ?_ ?_
 ·have ne : neD (.ref b5) (.ref b4) S4 = ok (.bl false) S4 := by
   have e := neD_nats r5 (l4.lst r4)
   simpa using e
  simp_all [qBj r5, ne]
  exact ⟨_, rfl, trivial, rfl⟩
 rintro _ S' ⟨rfl, rfl⟩
 have h4 := h3.mono l4
 refine qAb (fun δ' S5 => ∃ b6 ds, δ' = [some (.scr (ns.map D.int)), some (.int (w : Nat)), some (.ref a), some (.ref f), some (.ref b4), some (.ref b5), some (.ref b6), none, none, none] /\ SLe S' S5 /\ FT S'.length S5 b6 ds (wayL w ts)) ?_ ?_
 ·simp_all [qAp, h4.me (m := "ways") rfl, qBe]
  refine (ways2_w h4 hm).mono ?_
  rintro d S5 ⟨l5, b, ds, rfl, t5⟩
  exact ⟨_, rfl, b, ds, rfl, l5, t5⟩
 rintro _ S5 ⟨b6, ds, rfl, l5, t5⟩
 have l25 := l3.trans (l4.trans l5)
 have r45 := (l4.trans l5).lst r4
 have dl : ds.length = (qBf w ts).length := by rw [t5.tab.2.1]; simp [wayL]
 have fl := free_len (w := w) (ts := ts)
 refine qAb (fun δ' S6 => S6 = S5 /\ δ' = [some (.scr (ns.map D.int)), some (.int (w : Nat)), some (.ref a), some (.ref f), some (.ref b4), some (.ref b5), some (.ref b6), none, none, none]) ?_ ?_
 ·simp_all [qBj t5.tab.1, qAz t5.tab.1, qAz r45, jBd, dl]
  exact ⟨_, rfl, trivial, rfl⟩
 rintro _ S'' ⟨rfl, rfl⟩
 obtain ⟨V, A, gb, _, _, cB, _⟩ := hm.ex
 have hB : V * (w + 1) <= 20000000 := jAj (jEp _ (by omega)) cB
 refine qAb (fun δ' S6 => SLe S'' S6 /\ ∃ o7 o8, δ' = [some (.scr (ns.map D.int)), some (.int (w : Nat)), some (.ref a), some (.ref f), some (.ref b4), some (.ref b5), some (.ref b6), o7, o8, none]) ?_ ?_
 ·simp_all [qEe t5.tab.1]
  refine qBl (enmG (ds.map D.ref)) (fun i δ S6 => SLe S'' S6 /\ ∃ o7 o8, δ = [some (.scr (ns.map D.int)), some (.int (w : Nat)), some (.ref a), some (.ref f), some (.ref b4), some (.ref b5), some (.ref b6), o7, o8, none]) (by rw [qFi t5.tab.1]; simp [enmG]) ⟨SLe.rfl, _, _, rfl⟩ ?_ ?_ ?_
  ·rintro i δ S6 ⟨l6, _⟩
   exact qFo (l6.lst t5.tab.1) i
  ·rintro i x δ S6 hx ⟨l6, o7, o8, rfl⟩
   unfold enmG at hx
   obtain ⟨rfl, hi⟩ := qAh hx
   rw [jBd] at hi
   obtain ⟨d, hdi⟩ := zQ hi
   rw [show (ds.map D.ref).getD i .non = .ref d by rw [jD5, jBs, hdi]; rfl]
   obtain ⟨k, hk⟩ := zQ (xs := qBf w ts) (i := i) (by omega)
   have km := jBt hk
   have wi : (wayL w ts)[i]? = some (molR (zR (gHa w ts) k) w) := by unfold wayL; rw [jBs, hk]; rfl
   have rd := l6.lst (t5.tab.2.2 i d _ hdi wi)
   have L6 := l25.trans l6
   have kb : ∀ x ∈ molR (zR (gHa w ts) k) w, Le V x := by
    obtain ⟨hk, _⟩ := qC2.mp km
    obtain ⟨z, hz⟩ := zQ (show k < (gHa w ts).length by rw [qFt]; exact hk)
    rw [yD hz]
    exact gb.M k z w hz (by omega)
   simp_all [tupG2, qAg (l6.lst r45) (show ((qBf w ts).map natD)[i]? = some (.int (k : Int)) by rw [jBs, hk]; rfl)]
   refine (way44_w hm km kb hB rd (l6.lst r45) ((l2.trans L6).lst ha) (fun x hx => (l2.trans L6).lst (hr x hx)) hts).mono ?_
   rintro v S7 ⟨rfl, l7⟩
   simp_all []
   exact ⟨l6.trans l7, _, _, rfl⟩
  ·rintro δ S6 ⟨l6, o7, o8, rfl⟩
   exact ⟨_, rfl, l6, o7, o8, rfl⟩
 rintro _ S6 ⟨l6, o7, o8, rfl⟩
 have t6 := t5.tab.le l6
 refine qAb (fun δ' S7 => ∃ b9 es, δ' = [some (.scr (ns.map D.int)), some (.int (w : Nat)), some (.ref a), some (.ref f), some (.ref b4), some (.ref b5), some (.ref b6), o7, o8, some (.ref b9)] /\ SLe S6 S7 /\ FT S6.length S7 b9 es (wayL w ts)) ?_ ?_
 ·simp_all []
  refine qF5 _ (ds.map D.ref) (wayL w ts) _ (qA4 [some (.scr (ns.map D.int)), some (.int (w : Nat)), some (.ref a), some (.ref f), some (.ref b4), some (.ref b5), some (.ref b6), o7, o8, none]) (fun _ _ => trivial) (by rw [jBd, t6.2.1]) ?_ ?_ ?_
  ·simp_all [qAk t6.1]
   exact qFd t6.1 (by simp; omega)
  ·intro i x r S7 hx hr' l7
   obtain ⟨d, hdi, rfl⟩ := qAr hx
   show W (fnE lofD _ [some (.scr (ns.map D.int)), some (.int (w : Nat)), some (.ref a), some (.ref f), some (.ref b4), some (.ref b5), some (.ref b6), o7, o8, none, some (.ref d)] S7) _
   simp_all []
   refine qAw (qFh (l7.lst (t6.2.2 i d r hdi hr'))) fun S8 b l8 n8 r8 => ?_
   exact ⟨b, rfl, n8, l8, r8⟩
  ·intro S7 c9 cs l7 ft
   exact ⟨_, rfl, c9, cs, rfl, l7, ft⟩
 rintro _ S7 ⟨b9, es, rfl, l7, t9⟩
 have r5' := (l5.trans (l6.trans l7)).lst r5
 have sl := l5.len
 have sl2 := l6.len
 have t67 := t6.le l7
 -- the free ones changed
 refine qAb (fun δ' S8 => δ' = [some (.scr (ns.map D.int)), some (.int (w : Nat)), some (.ref a), some (.ref f), some (.ref b4), some (.ref b5), some (.ref b6), o7, o8, some (.ref b9)] /\ SLe S3 S8 /\ TabR S8 b6 ds (wayL w ts) /\ TabR S8 b9 es (wayL w ts)) ?_ ?_
 ·simp_all [qB1 r5']
  refine W_app r5' (by rw [jBd]; omega) fun S8 _ k8 kk8 _ => ?_
  have keep : ∀ {b : Nat} {cs : List Nat}, S'.length <= b -> (∀ x ∈ cs, S'.length <= x) -> TabR S7 b cs (wayL w ts) -> TabR S8 b cs (wayL w ts) := fun {b cs} hb hc t => ⟨by rw [kk8 b (by omega)]; exact t.1, t.2.1, fun i x r h1 h2 => by
   have := hc x (jBt h1)
   show zH S8 x = _
   rw [kk8 x (by omega)]
   exact t.2.2 i x r h1 h2⟩
  exact ⟨_, rfl, rfl, k8 _ (l4.trans (l5.trans (l6.trans l7))) n5, keep t5.nc t5.lo t67, keep (by have := t9.nc; omega) (fun x hx => by have := t9.lo x hx; omega) t9.tab⟩
 rintro _ S8 ⟨rfl, l38, t68, t98⟩
 -- the ways changed
 refine qAb (fun δ' S9 => (∃ o8, δ' = [some (.scr (ns.map D.int)), some (.int (w : Nat)), some (.ref a), some (.ref f), some (.ref b4), some (.ref b5), some (.ref b6), o7, o8, some (.ref b9)]) /\ SLe S3 S9 /\ (∃ xs, zH S9 b6 = some xs /\ xs.length <= 12) /\ TabR S9 b9 es (wayL w ts)) ?_ ?_
 ·simp_all [qAk t68.1]
  refine clear_rows_w (fun δ => ∃ o8, δ = [some (.scr (ns.map D.int)), some (.int (w : Nat)), some (.ref a), some (.ref f), some (.ref b4), some (.ref b5), some (.ref b6), o7, o8, some (.ref b9)]) t5.ne t68.1 (fun x hx => ?_) ⟨_, rfl⟩ ?_ ?_
  ·obtain ⟨i, hi⟩ := jDz hx
   obtain ⟨r, hr'⟩ := zQ (xs := wayL w ts) (i := i) (by rw [<- t68.2.1]; exact (jAr.mp hi).1)
   exact ⟨_, t68.2.2 i x r hi hr'⟩
  ·rintro x δ S9 xs ⟨o8, rfl⟩ hx
   simp_all [clearD_ref hx]
   exact ⟨_, _, rfl, ⟨_, rfl⟩, rfl⟩
  ·rintro δ S9 ⟨o8, rfl⟩ _ k9 kS
   have d9 : ∀ x, S6.length <= x -> x ∉ ds := fun x hx hm => by
    obtain ⟨i, hi⟩ := jDz hm
    obtain ⟨r, hr'⟩ := zQ (xs := wayL w ts) (i := i) (by rw [<- t6.2.1]; exact (jAr.mp hi).1)
    have := qAe (t6.2.2 i x r hi hr')
    omega
   have d6 : b6 ∉ ds := fun z => t5.ne b6 z rfl
   refine ⟨_, rfl, ⟨_, rfl⟩, kS S3 l38 fun x hx => jAj l4.len (t5.lo x hx), ⟨_, by rw [k9 b6 d6]; exact t68.1, by rw [jBd, dl]; omega⟩, by rw [k9 b9 (d9 b9 t9.nc)]; exact t98.1, t98.2.1, fun i x r h1 h2 => ?_⟩
   show zH S9 x = _
   rw [k9 x (d9 x (t9.lo x (jBt h1)))]
   exact t98.2.2 i x r h1 h2
 rintro _ S9 ⟨⟨o8, rfl⟩, l39, ⟨xs, r69, xl⟩, t99⟩
 refine qAb (fun δ' S10 => δ' = [some (.scr (ns.map D.int)), some (.int (w : Nat)), some (.ref a), some (.ref f), some (.ref b4), some (.ref b5), some (.ref b6), o7, o8, some (.ref b9)] /\ SLe S3 S10 /\ TabR S10 b9 es (wayL w ts)) ?_ ?_
 ·simp_all [qB1 r69]
  refine qAw (qAx (by simp) _) fun S10 b10 l10 n10 r10 => ?_
  have n6 : S3.length <= b6 := jAj l4.len t5.nc
  have ne6 : ∀ x, S6.length <= x -> x ≠ b6 := fun x hx => by have := qAe t6.1; omega
  refine W_app (l10.lst r69) (by omega) fun S11 _ k11 kk11 _ => ?_
  have t10 := t99.le l10
  refine ⟨_, rfl, rfl, k11 _ (l39.trans l10) n6, by rw [kk11 b9 (ne6 b9 t9.nc)]; exact t10.1, t10.2.1, fun i x r h1 h2 => ?_⟩
  show zH S11 x = _
  rw [kk11 x (ne6 x (t9.lo x (jBt h1)))]
  exact t10.2.2 i x r h1 h2
 rintro _ S10 ⟨rfl, l310, t910⟩
 have h10 := h3.mono l310
 simp_all [qAp, h10.me (m := "free") rfl, qBe]
 refine (free_w h10 hm).mono ?_
 rintro d S11 ⟨l11, b, rfl, r11⟩
 have h11 := h10.mono l11
 simp_all [eqD_nats r11 ((l310.trans l11).lst r4), qAp, h11.me (m := "ways") rfl, qBe]
 refine (ways_w h11 hm).mono ?_
 rintro d S12 ⟨l12, b12, ds12, rfl, t12⟩
 simp_all [eqD_tab t12 (t910.le (l11.trans l12))]
end Nm
end
section
namespace Tm
open PySem PySem.Spec PyProof.Rows L2 Np
def top (i : Nat) : Stmt := PySem.Challenge.pw_nearplane_k44_ways.main.body.getD i (.Pass ⟨0, 0, 0, 0⟩)
def mt (i j : Nat) : Stmt := match top i with
 | .ClassDef _ _ _ b _ _ _ _ _ _ _ => b.getD j (.Pass ⟨0, 0, 0, 0⟩)
 | _ => .Pass ⟨0, 0, 0, 0⟩
theorem bb_abs : bootBuiltins "abs" = some (.builtin "abs") := by decide +kernel
theorem bb_all : bootBuiltins "all" = some (.builtin "all") := by decide +kernel
theorem bb_bool : bootBuiltins "bool" = some (.type "bool") := by decide +kernel
theorem bb_int : bootBuiltins "int" = some (.type "int") := by decide +kernel
theorem qBh : bootBuiltins "isinstance" = some (.builtin "isinstance") := by decide +kernel
theorem bb_len : bootBuiltins "len" = some (.builtin "len") := by decide +kernel
theorem bb_list : bootBuiltins "list" = some (.type "list") := by decide +kernel
theorem bb_tuple : bootBuiltins "tuple" = some (.type "tuple") := by decide +kernel
set_option hygiene false
local macro_rules
  | `(tactic| symm_saturate) => `(tactic| first
    | (with_reducible show PDE (qAa _ _ _ _ _ _ _ _) _ _ (op2 qBc _ _)); refine pd_op (op_fdivC hr ht rfl rfl rfl) od_fdiv ?_ ?_
    | (with_reducible show PDE _ _ _ (op2 ixD _ _)); refine pd_ix ix_X zU ?_ ?_ (fun _ _ => rfl)
    | (with_reducible show PDE _ _ _ (op2 mulD _ _)); refine pd_op op_mulX od_mul ?_ ?_
    | (with_reducible show PDE _ _ _ (op2 modD _ _)); refine pd_op op_modN od_mod ?_ ?_
    | (with_reducible show PDE _ _ _ (op2 addD _ _)); refine pd_op op_addX od_add ?_ ?_
    | (with_reducible show PDE _ _ _ (op2 qBc _ _)); refine pd_op (op_fdivX hr ht rfl rfl rfl) od_fdiv ?_ ?_
    | (with_reducible show PDE _ _ _ (op2 subD _ _)); refine pd_op op_sub od_sub ?_ ?_
    | (with_reducible show PDE _ _ _ (op2 powD _ _)); refine pd_op op_pow od_pow ?_ ?_
    | (with_reducible show PDE _ _ _ (op2 eqD _ _)); refine pd_cmp (op_eqX hr) od_eq ?_ ?_ (yB _)
    | (with_reducible show PDE _ _ _ (op2 geD _ _)); refine pd_cmp op_ge od_ge ?_ ?_ (yB _)
    | (with_reducible show PDE _ _ _ (op2 ltD _ _)); refine pd_cmp op_lt od_lt ?_ ?_ (yB _)
    | (with_reducible show PDE _ _ _ (op2 gtD _ _)); refine pd_cmp op_gt od_gt ?_ ?_ (yB _))
local macro_rules
  | `(tactic| false_or_by_contra) => `(tactic| first
    | (with_reducible show PDE _ _ _ (fnE tupD _)); refine pd_tup ?_
    | (with_reducible show PDE _ _ _ (fnE lenD _)); refine yC call_lenX cd_len rfl m_len bb_len ?_
    | (with_reducible show PDE _ _ _ (fnE lstD _)); refine pd_lst ?_
    | (with_reducible show PDE _ _ _ (fnE absD _)); refine yC call_abs cd_abs rfl m_abs bb_abs ?_
    | (with_reducible show PDE _ _ _ (fnE allD _)); refine yC (call_allX rfl) cd_all rfl m_all bb_all ?_
    | (with_reducible show PDE _ _ _ (fnE lofD _)); refine pd_callTy call_list_of cd_lof rfl m_list bb_list ?_
    | (with_reducible show PDE _ _ _ (fnE _ _)); refine pd_fB (by assumption) hr rfl zT ?_)
local macro_rules
  | `(tactic| subst_vars) => `(tactic| first
    | (with_reducible show PDE _ _ _ (op1 (fldD _ _) _)); refine pd_ff (by assumption) ?_
    | (with_reducible show PDE _ _ _ (op1 (isiD .lst) _)); refine pd_isi (hv := qBh) .lst bb_list rfl m_isinstance rfl m_list ?_
    | (with_reducible show PDE _ _ _ (op1 (isiD .tup) _)); refine pd_isi (hv := qBh) .tup bb_tuple rfl m_isinstance rfl m_tuple ?_
    | (with_reducible show PDE _ _ _ (op1 (isiD .int) _)); refine pd_isi (hv := qBh) .int bb_int rfl m_isinstance rfl m_int ?_
    | (with_reducible show PDE _ _ _ (op1 (isiD .bool) _)); refine pd_isi (hv := qBh) .bool bb_bool rfl m_isinstance rfl m_bool ?_
    | (with_reducible show PDE _ _ _ (op1 negD _)); refine pd_un un_neg ud_neg ?_
    | (with_reducible show PDE _ _ _ (op1 clearD _)); refine pd_clear ?_)
local macro_rules
  | `(tactic| subst_eqs) => `(tactic| first
    | (with_reducible show PDS _ _ _ (setS _ (qAj _ _ _ _))); refine pd_sR rfl ?_ (fun nd _ _ _ _ _ => ?_) (fun _ _ _ _ _ => ?_) nd
    | (with_reducible show PDS _ _ _ (retS _)); refine zP ?_
    | (with_reducible show PDS _ _ _ (ifS _ _ _)); refine pd_if ?_ ?_ ?_
    | (with_reducible show PDS _ _ _ (forS _ _ _)); refine pd_for PassesOwn.never rfl ?_ ?_ ?_
    | (with_reducible show PDS _ _ _ (dropS _)); refine pd_expr ?_
    | (with_reducible show PDS _ _ _ (asgS _ _)); refine pd_asg ?_ ?_
    | (with_reducible show PDS _ _ _ (qCt _ _ _ _)); refine pd_fs (by assumption) ?_ ?_
    | (with_reducible show PDS _ _ _ (setS _ (qAj _ _ _ _))); refine pd_sB rfl ?_ (fun nd _ _ _ _ _ => ?_) (fun _ _ _ _ _ => ?_) nd
    | (with_reducible show PDS _ _ _ (qCx _ _)); refine pd_while PassesOwn.never ?_ ?_
    | exact pd_never
    | (with_reducible show PDS _ _ _ (parS _ _ _ _)); refine pd_par _ _ rfl nd ?_ ?_
    | (with_reducible show PDS _ _ _ (setS _ (qEk _ _ _ _ _))); refine pd_sI rfl ?_ (fun nd _ _ _ _ _ => ?_) (fun _ _ _ _ _ => ?_) (fun _ _ _ _ _ => ?_) nd
    | (with_reducible show PDS _ _ _ (setS _ _)); refine zS _ nd ?_)
local macro_rules
  | `(tactic| ac_nf) => `(tactic| first
    | (with_reducible show PDT _ _ (.BoolOp _ _ _) _); refine pd_wt ?_
    | (with_reducible show PDT _ _ _ (tv (op2 eqD _ _))); refine yA (op_eqX hr) od_eq ?_ ?_ (yB _)
    | (with_reducible show PDT _ _ _ (notT _)); refine pd_not ?_
    | (with_reducible show PDT _ _ _ (tv (op2 neD _ _))); refine yA (op_neX hr) od_ne ?_ ?_ (yB _)
    | (with_reducible show PDT _ _ _ (tv (op2 gtD _ _))); refine yA op_gt od_gt ?_ ?_ (yB _)
    | (with_reducible show PDT _ _ _ (tv (op2 ltD _ _))); refine yA op_lt od_lt ?_ ?_ (yB _)
    | (with_reducible show PDT _ _ _ (tv (op2 isNND _ _))); refine yA op_notN od_isNN ?_ ?_ (yB _)
    | (with_reducible show PDT _ _ _ (tv (op2 inD _ _))); refine yA (op_inX hr) od_in ?_ ?_ rfl
    | (with_reducible show PDT _ _ _ (tv _)); refine pt_valD ?_)
local macro_rules
  | `(tactic| and_intros) => `(tactic| first
    | (with_reducible show PDE _ _ (.Name _ _) (cst _)); exact pd_C rfl (by assumption)
    | (with_reducible show PDE _ _ (.BoolOp _ [_] _) _); refine pd_oneV ?_
    | (with_reducible show PDE _ _ _ (vr _)); exact zA _
    | (with_reducible show PDE _ _ _ (op2 _ _ _)); symm_saturate
    | (with_reducible show PDE _ _ _ (fnE _ _)); false_or_by_contra
    | (with_reducible show PDE _ _ _ (op1 _ _)); subst_vars
    | (with_reducible show PDE _ _ _ (qAj _ _ _ _)); refine pd_cR rfl ?_ (fun nd _ _ _ _ _ => ?_) (fun _ _ _ _ _ => ?_)
    | exact zF
    | (with_reducible show PDE _ _ _ (qAj _ _ _ _)); refine pd_cB rfl ?_ (fun nd _ _ _ _ _ => ?_) (fun _ _ _ _ _ => ?_)
    | exact pd_bl
    | (with_reducible show PDE _ _ _ (andV _ _)); refine pd_andV ?_ ?_
    | (with_reducible show PDE _ _ _ (opM appD _ _)); refine pd_append ?_ ?_
    | (with_reducible show PDE _ _ _ (qAp _ _ _ _ aNil)); refine pd_fm0 (by assumption) hr zT ?_
    | (with_reducible show PDE _ _ _ (slE _ _ _)); refine pd_slice ?_ ?_ ?_
    | (with_reducible show PDE _ _ _ (notV _)); refine pd_notV ?_
    | exact pd_non
    | (with_reducible show PDE _ _ _ (ifE _ _ _)); refine pd_ifE ?_ ?_ ?_
    | (with_reducible show PDE _ _ _ (chn _ _ _ _ _)); refine pd_chain op_le od_le op_le od_le ?_ ?_ ?_
    | (with_reducible show PDE _ _ _ (qEk _ _ _ _ _)); refine pd_cI rfl ?_ (fun nd _ _ _ _ _ => ?_) (fun _ _ _ _ _ => ?_) (fun _ _ _ _ _ => ?_)
    | (with_reducible show PDE _ _ _ (mkE _ _ _)); refine pd_fn' (by assumption) hr rfl zT ?_)
local macro_rules
  | `(tactic| ac_rfl) => `(tactic| (first
    | (with_reducible show PDE _ _ _ _); and_intros
    | (with_reducible show PDA _ _ _ (yH _ _)); refine zB ?_ ?_
    | exact zE
    | (with_reducible show PDT _ _ _ _); ac_nf
    | (with_reducible show PDS _ _ _ _); subst_eqs
    | refine zJ ?_
    | refine zD ?_ ?_
    | exact pds_nil
    | (with_reducible show PDW _ _ (.BoolOp .Or [_] _) _); refine pd_or1 ?_
    | (with_reducible show PDW _ _ (.BoolOp .And [_] _) _); refine pd_and1 ?_
    | (with_reducible show PDG _ _ _ (setG _)); exact zL _ nd
    | (with_reducible show PDI _ _ _ _ (itE itL _)); refine pdi_list ?_
    | (with_reducible show PDGs _ _ _ (_ :: _)); refine zZ ?_ ?_
    | (with_reducible show PDW _ _ _ (orT _ _)); refine pd_or ?_ ?_
    | (with_reducible show PDI _ _ _ _ (itA qBv _)); refine pdi_range1 rfl m_range ?_
    | exact pdgs_nil
    | (with_reducible show PDG _ _ _ (tupG _)); refine pdg_tup rfl ?_
    | (with_reducible show PDW _ _ _ (andT _ _)); refine pd_and ?_ ?_
    | (with_reducible show PDG _ _ _ (qCu _ _)); refine pdg_sub ?_ ?_
    | (with_reducible show PDI _ _ _ _ (itA qEo _)); refine pdi_zip rfl m_zip ?_ ?_
    | (with_reducible show PDI _ _ _ _ (itA enumD _)); refine pdi_enum rfl m_enumerate ?_
    | (with_reducible show PDO _ _ _ (atP _)); refine pdo_at ?_
    | exact pdo_no
    | (with_reducible show PDI _ _ _ _ (itA rng2D _)); refine pdi_range2 rfl m_range ?_ ?_
    | (with_reducible show PDI _ _ _ _ (itE itT _)); refine pdi_tup ?_
    | (with_reducible show PDG _ _ _ (lstG _)); refine pdg_lst rfl ?_) <;> ac_rfl)
set_option hygiene true
section
variable {P : Program} {w : World} {K : PySem.W.Frag} {mg : Str -> Option Value} {base : Heap}
variable (ht : P.given.tree = none)
  (f0 : Ff K mg "Fit" "columns")
  (f1 : Ff K mg "Fit" "near")
  (f2 : Ff K mg "Fit" "parts")
  (f3 : Ff K mg "Fit" "wants")
  (f4 : Ff K mg "Fit" "weights")
  (f5 : Ff K mg "Fit" "wide")
  (m_abs : mg "abs" = none)
  (m_all : mg "all" = none)
  (m_bool : mg "bool" = none)
  (m_enumerate : mg "enumerate" = none)
  (m_int : mg "int" = none)
  (m_isinstance : mg "isinstance" = none)
  (m_len : mg "len" = none)
  (m_list : mg "list" = none)
  (m_range : mg "range" = none)
  (m_tuple : mg "tuple" = none)
  (m_zip : mg "zip" = none)
  (a0 : CstAt K mg "MOST_COLUMNS" (.int 12))
  (a1 : CstAt K mg "NOUGHT" (.tup [(.int 0), (.int 1)]))
  (a2 : CstAt K mg "ONE" (.tup [(.int 1), (.int 1)]))
  (h0 : Fk P w K mg base 1 "is_whole" F.k02_whole)
  (h1 : Fk P w K mg base 1 "greatest_common" F.greatest_common)
  (h2 : Fk P w K mg base 2 "is_ratio" F.is_ratio)
  (h3 : Fk P w K mg base 2 "ratio" F.ratio)
  (h4 : Fk P w K mg base 3 "plus" F.plus)
  (h5 : Fk P w K mg base 3 "minus" F.minus)
  (h6 : Fk P w K mg base 3 "times" F.times)
  (h7 : Fk P w K mg base 3 "over" F.over)
  (h8 : Fk P w K mg base 1 "less" F.less)
  (h9 : Fk P w K mg base 3 "is_row" F.is_row)
  (h10 : Fk P w K mg base 4 "added" F.added)
  (h11 : Fk P w K mg base 4 "taken" F.taken)
  (h12 : Fk P w K mg base 4 "scaled" F.scaled)
  (h13 : Fk P w K mg base 4 "multiplied" F.multiplied)
  (B14 : Fk P w K mg base 5 "dot" F.dot)
  (h15 : Fk P w K mg base 5 "mixed" F.mixed)
  (h16 : Fk P w K mg base 1 "is_still" F.is_still)
  (h17 : Fk P w K mg base 1 "column_of" F.column_of)
  (h18 : Fk P w K mg base 2 "turned" F.turned)
  (h19 : Fk P w K mg base 1 "unit_row" F.unit_row)
  (h20 : Fk P w K mg base 6 "square" F.square)
  (h21 : Fk P w K mg base 7 "amount" F.amount)
  (h22 : Fk P w K mg base 5 "mix_of_left" F.mix_of_left)
  (h23 : Fk P w K mg base 8 "parted" F.parted)
  (h24 : Fk P w K mg base 9 "lefts" F.lefts)
  (h25 : Fk P w K mg base 2 "is_wide" F.is_wide)
  (h26 : Fk P w K mg base 3 "is_weight" F.is_weight)
  (h27 : Fk P w K mg base 4 "is_point" F.is_point)
  (h28 : Fk P w K mg base 5 "are_points" F.are_points)
  (h29 : Fn P w K mg base 10 "Fit" F.Fit___init__)
  (h30 : Fme P w K mg base 1 "Fit" "told" [] F.Fit_told)
  (h31 : Fme P w K mg base 2 "Fit" "free" [] F.Fit_free)
  (h32 : Fme P w K mg base 6 "Fit" "ways" [] F.Fit_ways)
  (h33 : Fk P w K mg base 1 "_law_cell" F.k11_cell_at)
  (h34 : Fk P w K mg base 1 "_law_spread" F.k42_spread)
  (h35 : Fk P w K mg base 1 "_law_mixed" F.k42_mixed)
  (h36 : Fk P w K mg base 1 "_law_low" F.k21_low)
  (h37 : Fk P w K mg base 2 "_law_plus" F.k21_plus)
  (h38 : Fk P w K mg base 2 "_law_times" F.k21_times)
  (h39 : Fk P w K mg base 2 "_law_thing" F.k44_thing)
  (h40 : Fk P w K mg base 3 "_law_shaped" F.k44_shaped)
  (h41 : Fk P w K mg base 3 "_law_broad" F.k42_broad)
  (h42 : Fk P w K mg base 4 "_law_points" F.k44_points)
  (h43 : Fk P w K mg base 1 "_law_whole_row" F.k44_whole_row)
  (h44 : Fk P w K mg base 2 "_law_free" F.k44_free)
  (h45 : Fk P w K mg base 2 "_law_ratio" F.k42_ratio)
  (h46 : Fk P w K mg base 3 "_law_way" F.k44_way)
include m_bool m_int m_isinstance in
theorem t0 : Bo P w K mg base "is_whole" (top 8) ["thing"] 0 Den.k02_whole := fun _ _ _ _ _ _ hr nd => by delta Den.k02_whole; ac_rfl
theorem t1 : Bo P w K mg base "greatest_common" (top 10) ["one", "other", "larger", "smaller", "rest"] 0 Den.greatest_common := fun _ _ _ _ _ _ hr nd => by delta Den.greatest_common; ac_rfl
include m_abs m_isinstance m_len m_tuple h0 h1 in
theorem t2 : Bo P w K mg base "is_ratio" (top 9) ["thing"] 1 Den.is_ratio := fun _ _ _ _ _ _ hr nd => by delta Den.is_ratio; ac_rfl
include ht m_abs h1 in
theorem t3 : Bo P w K mg base "ratio" (top 11) ["top", "bottom", "common"] 1 Den.ratio := fun _ _ _ _ _ _ hr nd => by delta Den.ratio; ac_rfl
include h3 in
theorem t4 : Bo P w K mg base "plus" (top 12) ["one", "other"] 2 Den.plus := fun _ _ _ _ _ _ hr nd => by delta Den.plus; ac_rfl
include h3 in
theorem t5 : Bo P w K mg base "minus" (top 13) ["one", "other"] 2 Den.minus := fun _ _ _ _ _ _ hr nd => by delta Den.minus; ac_rfl
include h3 in
theorem t6 : Bo P w K mg base "times" (top 14) ["one", "other"] 2 Den.times := fun _ _ _ _ _ _ hr nd => by delta Den.times; ac_rfl
include h3 in
theorem t7 : Bo P w K mg base "over" (top 15) ["one", "other"] 2 Den.over := fun _ _ _ _ _ _ hr nd => by delta Den.over; ac_rfl
theorem t8 : Bo P w K mg base "less" (top 16) ["one", "other"] 0 Den.less := fun _ _ _ _ _ _ hr nd => by delta Den.less; ac_rfl
include m_all m_isinstance m_len m_list h2 in
theorem t9 : Bo P w K mg base "is_row" (top 18) ["thing", "long"] 2 Den.is_row := fun _ _ _ _ _ _ hr nd => by delta Den.is_row; ac_rfl
include m_zip h4 in
theorem t10 : Bo P w K mg base "added" (top 19) ["one", "other"] 3 Den.added := fun _ _ _ _ _ _ hr nd => by delta Den.added; ac_rfl
include m_zip h5 in
theorem t11 : Bo P w K mg base "taken" (top 20) ["one", "other"] 3 Den.taken := fun _ _ _ _ _ _ hr nd => by delta Den.taken; ac_rfl
include h6 in
theorem t12 : Bo P w K mg base "scaled" (top 21) ["row", "by"] 3 Den.scaled := fun _ _ _ _ _ _ hr nd => by delta Den.scaled; ac_rfl
include m_zip h6 in
theorem t13 : Bo P w K mg base "multiplied" (top 22) ["one", "other"] 3 Den.multiplied := fun _ _ _ _ _ _ hr nd => by delta Den.multiplied; ac_rfl
include a1 h4 h13 in
theorem t14 : Bo P w K mg base "dot" (top 23) ["one", "other", "weights", "products", "told", "product"] 4 Den.dot := fun _ _ _ _ _ _ hr nd => by delta Den.dot; ac_rfl
include m_zip a1 h10 h12 in
theorem t15 : Bo P w K mg base "mixed" (top 24) ["rows", "shares", "long", "told", "row", "share"] 4 Den.mixed := fun _ _ _ _ _ _ hr nd => by delta Den.mixed; ac_rfl
include m_all a1 in
theorem t16 : Bo P w K mg base "is_still" (top 25) ["row"] 0 Den.is_still := fun _ _ _ _ _ _ hr nd => by delta Den.is_still; ac_rfl
theorem t17 : Bo P w K mg base "column_of" (top 28) ["table", "place"] 0 Den.column_of := fun _ _ _ _ _ _ hr nd => by delta Den.column_of; ac_rfl
include m_range h17 in
theorem t18 : Bo P w K mg base "turned" (top 27) ["table", "wide"] 1 Den.turned := fun _ _ _ _ _ _ hr nd => by delta Den.turned; ac_rfl
include m_range a1 a2 in
theorem t19 : Bo P w K mg base "unit_row" (top 29) ["long", "place"] 0 Den.unit_row := fun _ _ _ _ _ _ hr nd => by delta Den.unit_row; ac_rfl
include B14 in
theorem t20 : Bo P w K mg base "square" (top 31) ["row", "weights"] 5 Den.square := fun _ _ _ _ _ _ hr nd => by delta Den.square; ac_rfl
include a1 h7 B14 h16 h20 in
theorem t21 : Bo P w K mg base "amount" (top 34) ["row", "left", "weights"] 6 Den.amount := fun _ _ _ _ _ _ hr nd => by delta Den.amount; ac_rfl
include m_len a1 h11 h19 in
theorem t22 : Bo P w K mg base "mix_of_left" (top 35) ["shares", "long"] 4 Den.mix_of_left := fun _ _ _ _ _ _ hr nd => by delta Den.mix_of_left; ac_rfl
include m_len h11 h15 h21 h22 in
theorem t23 : Bo P w K mg base "parted" (top 33) ["row", "ahead", "weights", "amounts", "near", "shares"] 7 Den.parted := fun _ _ _ _ _ _ hr nd => by delta Den.parted; ac_rfl
include h23 in
theorem t24 : Bo P w K mg base "lefts" (top 32) ["rows", "weights", "told", "row"] 8 Den.lefts := fun _ _ _ _ _ _ hr nd => by delta Den.lefts; ac_rfl
include a0 h0 in
theorem t25 : Bo P w K mg base "is_wide" (top 38) ["thing"] 1 Den.is_wide := fun _ _ _ _ _ _ hr nd => by delta Den.is_wide; ac_rfl
include a1 h2 h8 in
theorem t26 : Bo P w K mg base "is_weight" (top 41) ["thing"] 2 Den.is_weight := fun _ _ _ _ _ _ hr nd => by delta Den.is_weight; ac_rfl
include m_isinstance m_len m_tuple h2 h9 h26 in
theorem t27 : Bo P w K mg base "is_point" (top 40) ["thing", "wide"] 3 Den.is_point := fun _ _ _ _ _ _ hr nd => by delta Den.is_point; ac_rfl
include m_all m_isinstance m_list h27 in
theorem t28 : Bo P w K mg base "are_points" (top 39) ["thing", "wide"] 4 Den.are_points := fun _ _ _ _ _ _ hr nd => by delta Den.are_points; ac_rfl
include f0 f1 f2 f3 f4 f5 h18 h23 h24 h25 h28 in
theorem t29 : Bo P w K mg base "Fit.__init__" (mt 42 0) ["self", "points", "wide"] 9 Den.Fit___init__ := fun _ _ _ _ _ _ hr nd => by delta Den.Fit___init__; ac_rfl
include f1 m_list in
theorem t30 : Bo P w K mg base "Fit.told" (mt 42 1) ["self"] 0 Den.Fit_told := fun _ _ _ _ _ _ hr nd => by delta Den.Fit_told; ac_rfl
include f2 m_enumerate h16 in
theorem t31 : Bo P w K mg base "Fit.free" (mt 42 2) ["self"] 1 Den.Fit_free := fun _ _ _ _ _ _ hr nd => by delta Den.Fit_free; ac_rfl
include f2 f5 h22 h31 in
theorem t32 : Bo P w K mg base "Fit.ways" (mt 42 5) ["self"] 5 Den.Fit_ways := fun _ _ _ _ _ _ hr nd => by delta Den.Fit_ways; ac_rfl
include m_len in
theorem t33 : Bo P w K mg base "_law_cell" (top 44) ["_law_script", "_law_k"] 0 Den.k11_cell_at := fun _ _ _ _ _ _ hr nd => by delta Den.k11_cell_at; ac_rfl
theorem t34 : Bo P w K mg base "_law_spread" (top 45) ["_law_cell_here", "_law_k", "_law_big"] 0 Den.k42_spread := fun _ _ _ _ _ _ hr nd => by delta Den.k42_spread; ac_rfl
theorem t35 : Bo P w K mg base "_law_mixed" (top 46) ["_law_number", "_law_k", "_law_found"] 0 Den.k42_mixed := fun _ _ _ _ _ _ hr nd => by delta Den.k42_mixed; ac_rfl
include ht m_abs in
theorem t36 : Bo P w K mg base "_law_low" (top 47) ["_law_top", "_law_bottom", "_law_one", "_law_other"] 0 Den.k21_low := fun _ _ _ _ _ _ hr nd => by delta Den.k21_low; ac_rfl
include h36 in
theorem t37 : Bo P w K mg base "_law_plus" (top 48) ["_law_one", "_law_other"] 1 Den.k21_plus := fun _ _ _ _ _ _ hr nd => by delta Den.k21_plus; ac_rfl
include h36 in
theorem t38 : Bo P w K mg base "_law_times" (top 49) ["_law_one", "_law_other"] 1 Den.k21_times := fun _ _ _ _ _ _ hr nd => by delta Den.k21_times; ac_rfl
include ht h36 in
theorem t39 : Bo P w K mg base "_law_thing" (top 50) ["_law_number"] 1 Den.k44_thing := fun _ _ _ _ _ _ hr nd => by delta Den.k44_thing; ac_rfl
include ht m_len m_range h37 h38 in
theorem t40 : Bo P w K mg base "_law_shaped" (top 51) ["_law_row", "_law_shape", "_law_lead", "_law_wide", "_law_j"] 2 Den.k44_shaped := fun _ _ _ _ _ _ hr nd => by delta Den.k44_shaped; ac_rfl
include ht m_range h35 h37 in
theorem t41 : Bo P w K mg base "_law_broad" (top 52) ["_law_lead", "_law_wide", "_law_points_here", "_law_k", "_law_number", "_law_row", "_law_at"] 2 Den.k42_broad := fun _ _ _ _ _ _ hr nd => by delta Den.k42_broad; ac_rfl
include ht m_range h33 h34 h35 h37 h39 h40 h41 in
theorem t42 : Bo P w K mg base "_law_points" (top 53) ["_law_script", "_law_lead", "_law_wide", "_law_points_here", "_law_k", "_law_number", "_law_row"] 3 Den.k44_points := fun _ _ _ _ _ _ hr nd => by delta Den.k44_points; ac_rfl
include ht in
theorem t43 : Bo P w K mg base "_law_whole_row" (top 54) ["_law_row", "_law_by", "_law_one"] 0 Den.k44_whole_row := fun _ _ _ _ _ _ hr nd => by delta Den.k44_whole_row; ac_rfl
include m_enumerate m_len m_range h43 in
theorem t44 : Bo P w K mg base "_law_free" (top 55) ["_law_points_here", "_law_wide", "_law_columns", "_law_cleared", "_law_free_here", "_law_j", "_law_column", "_law_at", "_law_other", "_law_spots"] 1 Den.k44_free := fun _ _ _ _ _ _ hr nd => by delta Den.k44_free; ac_rfl
include m_bool m_int m_isinstance m_len m_tuple h36 in
theorem t45 : Bo P w K mg base "_law_ratio" (top 56) ["_law_found", "_law_part"] 1 Den.k42_ratio := fun _ _ _ _ _ _ hr nd => by delta Den.k42_ratio; ac_rfl
include m_all m_isinstance m_len m_list m_range h37 h38 h45 in
theorem t46 : Bo P w K mg base "_law_way" (top 57) ["_law_way_here", "_law_free_here", "_law_at", "_law_points_here", "_law_wide", "_law_k", "_law_row", "_law_want", "_law_weight", "_law_value"] 2 Den.k44_way := fun _ _ _ _ _ _ hr nd => by delta Den.k44_way; ac_rfl
include m_enumerate m_isinstance m_len m_list h29 h31 h32 h42 h44 h46 in
theorem t47 : Bo P w K mg base "law" (top 58) ["_law_script", "_law_wide", "_law_points_here", "_law_fit", "_law_due", "_law_found", "_law_ways", "_law_k", "_law_way_here", "_law_held"] 11 Den.k44_law := fun _ _ _ _ _ _ hr nd => by delta Den.k44_law; ac_rfl
end
theorem cst_pair {K : PySem.W.Frag} {mg : Str -> Option Value} {x : Str} {c : Addr} {dd : Option Addr} {t0 t1 : Tok} {n : Nat} {sl : Array (Option Value)} {i j : Int} (hm : mg x = some (.ref c)) (l : K.lookup c = some ⟨.type "tuple", dd, .seq #[.int i t0, .int j t1] n, sl⟩) : CstAt K mg x (.tup [.int i, .int j]) :=
 ⟨_, .ref c, hm, rfl, fun H W => ⟨c, [.int i, .int j], rfl, .inr ⟨_, _, _, l, rfl, rfl, by show 2 <= sizeLine; decide, .cons ⟨_, rfl⟩ (.cons ⟨_, rfl⟩ .nil)⟩, ⟨_, _, rfl, rfl, ⟨_, _, rfl, rfl, rfl⟩⟩⟩⟩
theorem all_mk {P : Program} {w : World} {K : PySem.W.Frag} {h : Heap} {mg : Str -> Option Value} {fa : Addr} (ht : P.given.tree = none) (X : K.In h) (G : h.Ns mainGlobals mg) (hfa : mg "law" = some (.ref fa))
 {z0 : Tok}
 {C1 : Addr} {d1 : Option Addr} {z1 u1 : Tok} {n1 : Nat} {s1 : Array (Option Value)}
 {C2 : Addr} {d2 : Option Addr} {z2 u2 : Tok} {n2 : Nat} {s2 : Array (Option Value)}
 (cFit : Gc K "Fit")
 (nFit : Gn K "Fit")
 (f0 : Gf K "Fit" "columns")
 (f1 : Gf K "Fit" "near")
 (f2 : Gf K "Fit" "parts")
 (f3 : Gf K "Fit" "wants")
 (f4 : Gf K "Fit" "weights")
 (f5 : Gf K "Fit" "wide")
 (m_abs : jCl K mainGlobals "abs" = some none)
 (m_all : jCl K mainGlobals "all" = some none)
 (m_bool : jCl K mainGlobals "bool" = some none)
 (m_enumerate : jCl K mainGlobals "enumerate" = some none)
 (m_int : jCl K mainGlobals "int" = some none)
 (m_isinstance : jCl K mainGlobals "isinstance" = some none)
 (m_len : jCl K mainGlobals "len" = some none)
 (m_list : jCl K mainGlobals "list" = some none)
 (m_range : jCl K mainGlobals "range" = some none)
 (m_tuple : jCl K mainGlobals "tuple" = some none)
 (m_zip : jCl K mainGlobals "zip" = some none)
 (a0 : jCl K mainGlobals "MOST_COLUMNS" = some (some (.int 12 z0)))
 (a1 : jCl K mainGlobals "NOUGHT" = some (some (.ref C1))) (l1 : K.lookup C1 = some ⟨.type "tuple", d1, .seq #[.int 0 z1, .int 1 u1] n1, s1⟩)
 (a2 : jCl K mainGlobals "ONE" = some (some (.ref C2))) (l2 : K.lookup C2 = some ⟨.type "tuple", d2, .seq #[.int 1 z2, .int 1 u2] n2, s2⟩)
 (h0 : Ga K "is_whole" (top 8))
 (h1 : Ga K "greatest_common" (top 10))
 (h2 : Ga K "is_ratio" (top 9))
 (h3 : Ga K "ratio" (top 11))
 (h4 : Ga K "plus" (top 12))
 (h5 : Ga K "minus" (top 13))
 (h6 : Ga K "times" (top 14))
 (h7 : Ga K "over" (top 15))
 (h8 : Ga K "less" (top 16))
 (h9 : Ga K "is_row" (top 18))
 (h10 : Ga K "added" (top 19))
 (h11 : Ga K "taken" (top 20))
 (h12 : Ga K "scaled" (top 21))
 (h13 : Ga K "multiplied" (top 22))
 (h14 : Ge K "dot" (top 23))
 (h15 : Ga K "mixed" (top 24))
 (h16 : Ga K "is_still" (top 25))
 (h17 : Ga K "column_of" (top 28))
 (h18 : Ga K "turned" (top 27))
 (h19 : Ga K "unit_row" (top 29))
 (h20 : Ga K "square" (top 31))
 (h21 : Ga K "amount" (top 34))
 (h22 : Ga K "mix_of_left" (top 35))
 (h23 : Ga K "parted" (top 33))
 (h24 : Ga K "lefts" (top 32))
 (h25 : Ga K "is_wide" (top 38))
 (h26 : Ga K "is_weight" (top 41))
 (h27 : Ga K "is_point" (top 40))
 (h28 : Ga K "are_points" (top 39))
 (h29 : Gm K "Fit" "__init__" "Fit.__init__" (mt 42 0))
 (h30 : Gm K "Fit" "told" "Fit.told" (mt 42 1))
 (h31 : Gm K "Fit" "free" "Fit.free" (mt 42 2))
 (h32 : Gm K "Fit" "ways" "Fit.ways" (mt 42 5))
 (h33 : Ga K "_law_cell" (top 44))
 (h34 : Ga K "_law_spread" (top 45))
 (h35 : Ga K "_law_mixed" (top 46))
 (h36 : Ga K "_law_low" (top 47))
 (h37 : Ga K "_law_plus" (top 48))
 (h38 : Ga K "_law_times" (top 49))
 (h39 : Ga K "_law_thing" (top 50))
 (h40 : Ga K "_law_shaped" (top 51))
 (h41 : Ga K "_law_broad" (top 52))
 (h42 : Ga K "_law_points" (top 53))
 (h43 : Ga K "_law_whole_row" (top 54))
 (h44 : Ga K "_law_free" (top 55))
 (h45 : Ga K "_law_ratio" (top 56))
 (h46 : Ga K "_law_way" (top 57))
 (hL : Ga K "law" (top 58)) : ∃ fd : FuncData, (∀ (s : Shared) (v : Value), BindsTo s fd ⟨[v], []⟩ [("_law_script", v)]) /\ ∀ base : Heap, FnOk P w K mg base CX0 12 fa fd ["_law_script"] (spF ⟨K, mg⟩ F.k44_law) := by
 have f0 := f0.ff cFit X G
 have f1 := f1.ff cFit X G
 have f2 := f2.ff cFit X G
 have f3 := f3.ff cFit X G
 have f4 := f4.ff cFit X G
 have f5 := f5.ff cFit X G
 have m_abs := jEu X G m_abs
 have m_all := jEu X G m_all
 have m_bool := jEu X G m_bool
 have m_enumerate := jEu X G m_enumerate
 have m_int := jEu X G m_int
 have m_isinstance := jEu X G m_isinstance
 have m_len := jEu X G m_len
 have m_list := jEu X G m_list
 have m_range := jEu X G m_range
 have m_tuple := jEu X G m_tuple
 have m_zip := jEu X G m_zip
 have a0 : CstAt K mg "MOST_COLUMNS" (.int 12) := ⟨_, (.int 12), jCm X G a0, ⟨z0, rfl⟩, fun H W => rfl⟩
 have a1 := cst_pair (jCm X G a1) l1
 have a2 := cst_pair (jCm X G a2) l2
 obtain ⟨f', a, oc, od, kV, dc, pm, an, cd, ct, sl, l, c, kp⟩ := hL
 have e := hfa.symm.trans (jCm X G a)
 cases e
 have R := yE (st := (top 58)) l c kp
 refine ⟨jBw "law" "law" (zI (top 58)) (zG (top 58)) (zC (top 58)) .none kV dc pm an cd ct, fun s v => .of_eq rfl, fun base => ?_⟩
 have h0 := h0.fk (F := F.k02_whole) (i := 1) P w base X G (t0 m_bool m_int m_isinstance)
 have h1 := h1.fk (F := F.greatest_common) (i := 2) P w base X G t1
 have h2 := h2.fk (F := F.is_ratio) (i := 1) P w base X G (t2 m_abs m_isinstance m_len m_tuple h0 h1)
 have h3 := h3.fk (F := F.ratio) (i := 2) P w base X G (t3 ht m_abs h1)
 have h4 := h4.fk (F := F.plus) (i := 2) P w base X G (t4 h3)
 have h5 := h5.fk (F := F.minus) (i := 2) P w base X G (t5 h3)
 have h6 := h6.fk (F := F.times) (i := 2) P w base X G (t6 h3)
 have h7 := h7.fk (F := F.over) (i := 2) P w base X G (t7 h3)
 have h8 := h8.fk (F := F.less) (i := 2) P w base X G t8
 have h9 := h9.fk (F := F.is_row) (i := 2) P w base X G (t9 m_all m_isinstance m_len m_list h2)
 have h10 := h10.fk (F := F.added) (i := 2) P w base X G (t10 m_zip h4)
 have h11 := h11.fk (F := F.taken) (i := 2) P w base X G (t11 m_zip h5)
 have h12 := h12.fk (F := F.scaled) (i := 2) P w base X G (t12 h6)
 have h13 := h13.fk (F := F.multiplied) (i := 2) P w base X G (t13 m_zip h6)
 have B14 : Fk P w K mg base 5 "dot" F.dot := h14.fk P w base X G (t14 a1 h4 h13)
 have h15 := h15.fk (F := F.mixed) (i := 3) P w base X G (t15 m_zip a1 h10 h12)
 have h16 := h16.fk (F := F.is_still) (i := 1) P w base X G (t16 m_all a1)
 have h17 := h17.fk (F := F.column_of) (i := 2) P w base X G t17
 have h18 := h18.fk (F := F.turned) (i := 2) P w base X G (t18 m_range h17)
 have h19 := h19.fk (F := F.unit_row) (i := 2) P w base X G (t19 m_range a1 a2)
 have h20 := h20.fk (F := F.square) (i := 2) P w base X G (t20 B14)
 have h21 := h21.fk (F := F.amount) (i := 3) P w base X G (t21 a1 h7 B14 h16 h20)
 have h22 := h22.fk (F := F.mix_of_left) (i := 2) P w base X G (t22 m_len a1 h11 h19)
 have h23 := h23.fk (F := F.parted) (i := 3) P w base X G (t23 m_len h11 h15 h21 h22)
 have h24 := h24.fk (F := F.lefts) (i := 2) P w base X G (t24 h23)
 have h25 := h25.fk (F := F.is_wide) (i := 1) P w base X G (t25 a0 h0)
 have h26 := h26.fk (F := F.is_weight) (i := 1) P w base X G (t26 a1 h2 h8)
 have h27 := h27.fk (F := F.is_point) (i := 2) P w base X G (t27 m_isinstance m_len m_tuple h2 h9 h26)
 have h28 := h28.fk (F := F.are_points) (i := 2) P w base X G (t28 m_all m_isinstance m_list h27)
 have h29 := h29.fn (F := F.Fit___init__) (i := 3) P w base nFit X G (t29 f0 f1 f2 f3 f4 f5 h18 h23 h24 h25 h28)
 have h30 := h30.fm (F := F.Fit_told) (i := 1) P w base cFit X G (t30 f1 m_list)
 have h31 := h31.fm (F := F.Fit_free) (i := 1) P w base cFit X G (t31 f2 m_enumerate h16)
 have h32 := h32.fm (F := F.Fit_ways) (i := 1) P w base cFit X G (t32 f2 f5 h22 h31)
 have h33 := h33.fk (F := F.k11_cell_at) (i := 2) P w base X G (t33 m_len)
 have h34 := h34.fk (F := F.k42_spread) (i := 2) P w base X G t34
 have h35 := h35.fk (F := F.k42_mixed) (i := 2) P w base X G t35
 have h36 := h36.fk (F := F.k21_low) (i := 2) P w base X G (t36 ht m_abs)
 have h37 := h37.fk (F := F.k21_plus) (i := 2) P w base X G (t37 h36)
 have h38 := h38.fk (F := F.k21_times) (i := 2) P w base X G (t38 h36)
 have h39 := h39.fk (F := F.k44_thing) (i := 1) P w base X G (t39 ht h36)
 have h40 := h40.fk (F := F.k44_shaped) (i := 3) P w base X G (t40 ht m_len m_range h37 h38)
 have h41 := h41.fk (F := F.k42_broad) (i := 1) P w base X G (t41 ht m_range h35 h37)
 have h42 := h42.fk (F := F.k44_points) (i := 1) P w base X G (t42 ht m_range h33 h34 h35 h37 h39 h40 h41)
 have h43 := h43.fk (F := F.k44_whole_row) (i := 1) P w base X G (t43 ht)
 have h44 := h44.fk (F := F.k44_free) (i := 2) P w base X G (t44 m_enumerate m_len m_range h43)
 have h45 := h45.fk (F := F.k42_ratio) (i := 1) P w base X G (t45 m_bool m_int m_isinstance m_len m_tuple h36)
 have h46 := h46.fk (F := F.k44_way) (i := 5) P w base X G (t46 m_all m_isinstance m_len m_list m_range h37 h38 h45)
 exact Bo.ok (i := 1) (t47 m_enumerate m_isinstance m_len m_list h29 h31 h32 h42 h44 h46) R.g ⟨rfl, rfl, rfl, by decide +kernel, rfl, by decide +kernel, by decide +kernel⟩ rfl rfl
end Tm
end
section
namespace Tm
open PySem PySem.Spec PyProof.Rows L2 Np
def spLaw (K : PySem.W.Frag) : Sp := fun vs H Q _ => ∃ (a : Addr) (ns : List Int), vs = [.ref a] /\ Only H /\ SqL K H a (ns.map V.int) /\ ns.length <= 63 /\ (∀ z ∈ ns, z.natAbs.log2 < 1048577) /\ ∀ H', Q (.bl true) H'
theorem repL_ints {G : Gx} {H : Hp} {W : Wd} : ∀ ns : List Int, RepL G H W (ns.map D.int) (ns.map V.int)
 | [] => rfl
 | n :: ns => ⟨.int n, _, rfl, rfl, repL_ints ns⟩
theorem sc_of {K : PySem.W.Frag} {H : Hp} {a : Addr} {xs : List V} (hO : Only H) (h : SqL K H a xs) : Sc K H a xs := by
 rcases h with (h | ⟨o, h⟩) | h
 ·rcases hO a with q | ⟨o, ys, q⟩ <;> rw [q] at h <;> cases h
 ·exact .inl ⟨o, h⟩
 ·exact .inr (.inr h)
theorem law_sp {K : PySem.W.Frag} {mg : Str -> Option Value} (vs : List V) (H : Hp) (Q : VK) (E : XK) (h : spLaw K vs H Q E) : spF ⟨K, mg⟩ F.k44_law vs H Q E := by
 obtain ⟨a, ns, rfl, hO, hS, hl, hz, q⟩ := h
 obtain ⟨d, S', e, rfl⟩ := (Nm.k44_holds ns ⟨hl, hz⟩).out
 refine ⟨⟨fun _ => 0, []⟩, [.scr (ns.map D.int)], .ok (.bl true) S', ⟨fun i j hi => by simp at hi, fun i o hi => by simp at hi⟩, ⟨.ref a, [], rfl, ⟨a, _, rfl, sc_of hO hS, repL_ints ns⟩, rfl⟩, e, fun H' W' _ _ v rv => ?_⟩
 have rv : v = .bl true := rv
 subst rv
 exact q H'
theorem walk {l : PySem.W.OpenLaw} {q : Program} {loose : List Str} {XP : (Str -> Option Value) -> Heap -> Prop} {YP : World -> Heap -> Prop} {d : DefRec} {K : Params -> PySem.W.Frag} (hn : l.most = some 63) (hdf : d.params.defaults = [])
  (hY : ∀ (w : World) (h : Heap), YP w h -> (K w.params).In h)
  (F : ∀ (w : World) (mg : Str -> Option Value) (fa : Addr) (h : Heap), (K w.params).In h -> h.Ns mainGlobals mg -> mg d.name = some (.ref fa) ->
   ∃ fd : FuncData, (∀ (s : Shared) (u : Value), BindsTo s fd ⟨[u], []⟩ [("_law_script", u)]) /\ ∀ base : Heap, FnOk l.prog w (K w.params) mg base CX0 12 fa fd ["_law_script"] (spF ⟨K w.params, mg⟩ F.k44_law))
  (hq : PyProof.Rows.importsNone q = true) :
  PySem.W.WalkO q loose XP YP l.row.toRowW d [] (fun f vs => PySem.call f vs) :=
 L2.walk_of (n := 63) (k := 12) (x := "_law_script") (CX := fun _ => CX0) (sp := fun w => spLaw (K w.params)) hn (by decide) hdf ⟨rfl, by decide, by decide⟩ hY (fun w mg fa h a b c => let ⟨fd, p, q⟩ := F w mg fa h a b c; ⟨fd, p, fun base _ _ => (q base).imp law_sp⟩) hq (fun _ _ a ns hl hz hO hS => ⟨a, ns, rfl, hO, hS, hl, hz, fun _ => rfl⟩) fun _ _ _ _ _ z => z
abbrev M0 : Value := (.str "nearplane.ratios" 246)
abbrev M1 : Value := (.str "nearplane.rows" 328)
abbrev M2 : Value := (.str "nearplane.tables" 390)
abbrev M3 : Value := (.str "nearplane.upright" 410)
abbrev M4 : Value := (.str "nearplane.fits" 453)
abbrev M5 : Value := (.str "law_nearplane_k44_ways" 604)
noncomputable def KK : PySem.Params -> PySem.W.Frag := fun P =>
 (nat_lit 3, ⟨(.type "dict"), none, (.dict [kh P "__name__" 165 (.str "law_nearplane_k44_ways" 604), kh P "__doc__" 166 .none, kh P "__package__" 167 .none, kh P "__loader__" 168 (.builtin "__main__.__loader__#opaque"), kh P "__spec__" 169 .none, kh P "__annotations__" 170 (.ref 6), kh P "__builtins__" 171 (.ref 4), kh P "__file__" 173 (.str "/claim/cut.py" 172), kh P "__cached__" 174 .none, kh P "_wall" 193 (.ref 21), kh P "PlaneError" 213 (.ref 31), kh P "NoRatio" 229 (.ref 44), kh P "NoPoint" 245 (.ref 56), kh P "NOUGHT" 250 (.ref 59), kh P "ONE" 253 (.ref 60), kh P "is_whole" 260 (.ref 67), kh P "is_ratio" 267 (.ref 74), kh P "greatest_common" 278 (.ref 81), kh P "ratio" 287 (.ref 88), kh P "plus" 295 (.ref 95), kh P "minus" 303 (.ref 102), kh P "times" 311 (.ref 109), kh P "over" 319 (.ref 116), kh P "less" 327 (.ref 123), kh P "is_row" 335 (.ref 128), kh P "added" 341 (.ref 133), kh P "taken" 347 (.ref 138), kh P "scaled" 353 (.ref 143), kh P "multiplied" 359 (.ref 148), kh P "dot" 371 (.ref 156), kh P "mixed" 383 (.ref 163), kh P "is_still" 389 (.ref 168), kh P "turned" 397 (.ref 173), kh P "column_of" 403 (.ref 178), kh P "unit_row" 409 (.ref 183), kh P "square" 419 (.ref 190), kh P "lefts" 429 (.ref 197), kh P "parted" 435 (.ref 202), kh P "amount" 444 (.ref 209), kh P "mix_of_left" 452 (.ref 216), kh P "MOST_COLUMNS" 456 (.int (12) 455), kh P "is_wide" 463 (.ref 223), kh P "are_points" 469 (.ref 228), kh P "is_point" 477 (.ref 235), kh P "is_weight" 484 (.ref 242), kh P "Fit" 603 (.ref 337), kh P "_law_cell" 613 (.ref 348), kh P "_law_spread" 622 (.ref 355), kh P "_law_mixed" 631 (.ref 362), kh P "_law_low" 641 (.ref 369), kh P "_law_plus" 649 (.ref 376), kh P "_law_times" 657 (.ref 383), kh P "_law_thing" 664 (.ref 390), kh P "_law_shaped" 675 (.ref 397), kh P "_law_broad" 681 (.ref 402), kh P "_law_points" 687 (.ref 407), kh P "_law_whole_row" 693 (.ref 412), kh P "_law_free" 699 (.ref 417), kh P "_law_ratio" 707 (.ref 424), kh P "_law_way" 713 (.ref 429), kh P "law" 719 (.ref 434)].toArray 61), [].toArray⟩) ::
 (nat_lit 59, ⟨(.type "tuple"), none, (.seq [(.int (0) 248), (.int (1) 249)].toArray 0), [].toArray⟩) ::
 (nat_lit 60, ⟨(.type "tuple"), none, (.seq [(.int (1) 251), (.int (1) 252)].toArray 0), [].toArray⟩) ::
 (nat_lit 66, cb "is_whole" "is_whole" 254 14 1 61 62 (.ref 63) (.ref 64) 65 258) ::
 (nat_lit 67, fo "is_whole" "is_whole" (top 8) .none M0 66) ::
 (nat_lit 73, cb "is_ratio" "is_ratio" 261 16 1 68 69 (.ref 70) (.ref 71) 72 265) ::
 (nat_lit 74, fo "is_ratio" "is_ratio" (top 9) .none M0 73) ::
 (nat_lit 80, cb "greatest_common" "greatest_common" 268 22 2 75 76 (.ref 77) (.ref 78) 79 276) ::
 (nat_lit 81, fo "greatest_common" "greatest_common" (top 10) .none M0 80) ::
 (nat_lit 87, cb "ratio" "ratio" 279 30 2 82 83 (.ref 84) (.ref 85) 86 285) ::
 (nat_lit 88, fo "ratio" "ratio" (top 11) .none M0 87) ::
 (nat_lit 94, cb "plus" "plus" 288 37 2 89 90 (.ref 91) (.ref 92) 93 293) ::
 (nat_lit 95, fo "plus" "plus" (top 12) .none M0 94) ::
 (nat_lit 101, cb "minus" "minus" 296 39 2 96 97 (.ref 98) (.ref 99) 100 301) ::
 (nat_lit 102, fo "minus" "minus" (top 13) .none M0 101) ::
 (nat_lit 108, cb "times" "times" 304 41 2 103 104 (.ref 105) (.ref 106) 107 309) ::
 (nat_lit 109, fo "times" "times" (top 14) .none M0 108) ::
 (nat_lit 115, cb "over" "over" 312 43 2 110 111 (.ref 112) (.ref 113) 114 317) ::
 (nat_lit 116, fo "over" "over" (top 15) .none M0 115) ::
 (nat_lit 122, cb "less" "less" 320 45 2 117 118 (.ref 119) (.ref 120) 121 325) ::
 (nat_lit 123, fo "less" "less" (top 16) .none M0 122) ::
 (nat_lit 127, cb "is_row" "is_row" 330 48 2 124 125 .none .none 126 333) ::
 (nat_lit 128, fo "is_row" "is_row" (top 18) .none M1 127) ::
 (nat_lit 132, cb "added" "added" 336 52 2 129 130 .none .none 131 339) ::
 (nat_lit 133, fo "added" "added" (top 19) .none M1 132) ::
 (nat_lit 137, cb "taken" "taken" 342 54 2 134 135 .none .none 136 345) ::
 (nat_lit 138, fo "taken" "taken" (top 20) .none M1 137) ::
 (nat_lit 142, cb "scaled" "scaled" 348 56 2 139 140 .none .none 141 351) ::
 (nat_lit 143, fo "scaled" "scaled" (top 21) .none M1 142) ::
 (nat_lit 147, cb "multiplied" "multiplied" 354 58 2 144 145 .none .none 146 357) ::
 (nat_lit 148, fo "multiplied" "multiplied" (top 22) .none M1 147) ::
 (nat_lit 149, ⟨(.type "tuple"), none, (.seq [.none].toArray 0), [].toArray⟩) ::
 (nat_lit 155, cb "dot" "dot" 360 60 3 150 151 (.ref 152) (.ref 153) 154 369) ::
 (nat_lit 156, fo "dot" "dot" (top 23) (.ref 149) M1 155) ::
 (nat_lit 162, cb "mixed" "mixed" 372 68 3 157 158 (.ref 159) (.ref 160) 161 381) ::
 (nat_lit 163, fo "mixed" "mixed" (top 24) .none M1 162) ::
 (nat_lit 167, cb "is_still" "is_still" 384 73 1 164 165 .none .none 166 387) ::
 (nat_lit 168, fo "is_still" "is_still" (top 25) .none M1 167) ::
 (nat_lit 172, cb "turned" "turned" 392 76 2 169 170 .none .none 171 395) ::
 (nat_lit 173, fo "turned" "turned" (top 27) .none M2 172) ::
 (nat_lit 177, cb "column_of" "column_of" 398 78 2 174 175 .none .none 176 401) ::
 (nat_lit 178, fo "column_of" "column_of" (top 28) .none M2 177) ::
 (nat_lit 182, cb "unit_row" "unit_row" 404 80 2 179 180 .none .none 181 407) ::
 (nat_lit 183, fo "unit_row" "unit_row" (top 29) .none M2 182) ::
 (nat_lit 189, cb "square" "square" 412 83 2 184 185 (.ref 186) (.ref 187) 188 417) ::
 (nat_lit 190, fo "square" "square" (top 31) .none M3 189) ::
 (nat_lit 196, cb "lefts" "lefts" 420 85 2 191 192 (.ref 193) (.ref 194) 195 427) ::
 (nat_lit 197, fo "lefts" "lefts" (top 32) .none M3 196) ::
 (nat_lit 201, cb "parted" "parted" 430 90 3 198 199 .none .none 200 433) ::
 (nat_lit 202, fo "parted" "parted" (top 33) .none M3 201) ::
 (nat_lit 208, cb "amount" "amount" 436 95 3 203 204 (.ref 205) (.ref 206) 207 442) ::
 (nat_lit 209, fo "amount" "amount" (top 34) .none M3 208) ::
 (nat_lit 215, cb "mix_of_left" "mix_of_left" 445 99 2 210 211 (.ref 212) (.ref 213) 214 450) ::
 (nat_lit 216, fo "mix_of_left" "mix_of_left" (top 35) .none M3 215) ::
 (nat_lit 222, cb "is_wide" "is_wide" 457 103 1 217 218 (.ref 219) (.ref 220) 221 461) ::
 (nat_lit 223, fo "is_wide" "is_wide" (top 38) .none M4 222) ::
 (nat_lit 227, cb "are_points" "are_points" 464 105 2 224 225 .none .none 226 467) ::
 (nat_lit 228, fo "are_points" "are_points" (top 39) .none M4 227) ::
 (nat_lit 234, cb "is_point" "is_point" 470 107 2 229 230 (.ref 231) (.ref 232) 233 475) ::
 (nat_lit 235, fo "is_point" "is_point" (top 40) .none M4 234) ::
 (nat_lit 241, cb "is_weight" "is_weight" 478 111 1 236 237 (.ref 238) (.ref 239) 240 482) ::
 (nat_lit 242, fo "is_weight" "is_weight" (top 41) .none M4 241) ::
 (nat_lit 253, cb "__init__" "Fit.__init__" 497 115 3 250 251 .none .none 252 500) ::
 (nat_lit 254, fo "__init__" "Fit.__init__" (mt 42 0) .none M4 253) ::
 (nat_lit 260, cb "told" "Fit.told" 503 125 1 255 256 (.ref 257) (.ref 258) 259 507) ::
 (nat_lit 261, fo "told" "Fit.told" (mt 42 1) .none M4 260) ::
 (nat_lit 265, cb "free" "Fit.free" 510 128 1 262 263 .none .none 264 513) ::
 (nat_lit 266, fo "free" "Fit.free" (mt 42 2) .none M4 265) ::
 (nat_lit 284, cb "ways" "Fit.ways" 530 137 1 281 282 .none .none 283 533) ::
 (nat_lit 285, fo "ways" "Fit.ways" (mt 42 5) .none M4 284) ::
 (nat_lit 335, ⟨(.type "tuple"), none, (.seq [(.str "columns" 590), (.str "near" 591), (.str "parts" 592), (.str "wants" 593), (.str "weights" 594), (.str "wide" 595)].toArray 0), [].toArray⟩) ::
 (nat_lit 336, ⟨(.type "dict"), none, (.dict [kh P "__module__" 492 (.str "nearplane.fits" 453), kh P "__firstlineno__" 496 (.int (113) 495), kh P "__init__" 502 (.ref 254), kh P "told" 509 (.ref 261), kh P "free" 515 (.ref 266), kh P "rests" 522 (.ref 273), kh P "squares" 529 (.ref 280), kh P "ways" 535 (.ref 285), kh P "sure" 543 (.ref 292), kh P "value" 551 (.ref 299), kh P "pulls" 558 (.ref 306), kh P "word" 566 (.ref 313), kh P "gain" 574 (.ref 320), kh P "off" 582 (.ref 327), kh P "sums" 589 (.ref 334), kh P "__static_attributes__" 596 (.ref 335), kh P "__dict__" 598 (.ref 338), kh P "__weakref__" 600 (.ref 339), kh P "__doc__" 601 .none].toArray 4), [].toArray⟩) ::
 (nat_lit 337, ⟨(.type "type"), none, (.cls ⟨"Fit", [(.type "object")], [(.ref 337), (.type "object")], 336, "Fit", true, [], [], false, none, false⟩), [none, none, (some (.str "Fit" 485)), (some (.str "Fit" 493)), (some (.builtin "object.__new__")), (some (.bool true))].toArray⟩) ::
 (nat_lit 338, ⟨(.type "getset_descriptor"), none, (.fields [(.str "__dict__" 597), (.ref 337), (.builtin "function.__dict__"), (.builtin "function.__dict__#set")].toArray), [].toArray⟩) ::
 (nat_lit 339, ⟨(.type "getset_descriptor"), none, (.fields [(.str "__weakref__" 599), (.ref 337), (.builtin "ExceptionGroup.__weakref__"), .none].toArray), [].toArray⟩) ::
 (nat_lit 347, cb "_law_cell" "_law_cell" 606 161 2 342 343 (.ref 344) (.ref 345) 346 611) ::
 (nat_lit 348, fo "_law_cell" "_law_cell" (top 44) .none M5 347) ::
 (nat_lit 354, cb "_law_spread" "_law_spread" 614 165 2 349 350 (.ref 351) (.ref 352) 353 620) ::
 (nat_lit 355, fo "_law_spread" "_law_spread" (top 45) .none M5 354) ::
 (nat_lit 361, cb "_law_mixed" "_law_mixed" 623 168 2 356 357 (.ref 358) (.ref 359) 360 629) ::
 (nat_lit 362, fo "_law_mixed" "_law_mixed" (top 46) .none M5 361) ::
 (nat_lit 368, cb "_law_low" "_law_low" 632 171 2 363 364 (.ref 365) (.ref 366) 367 639) ::
 (nat_lit 369, fo "_law_low" "_law_low" (top 47) .none M5 368) ::
 (nat_lit 375, cb "_law_plus" "_law_plus" 642 177 2 370 371 (.ref 372) (.ref 373) 374 647) ::
 (nat_lit 376, fo "_law_plus" "_law_plus" (top 48) .none M5 375) ::
 (nat_lit 382, cb "_law_times" "_law_times" 650 179 2 377 378 (.ref 379) (.ref 380) 381 655) ::
 (nat_lit 383, fo "_law_times" "_law_times" (top 49) .none M5 382) ::
 (nat_lit 389, cb "_law_thing" "_law_thing" 658 181 1 384 385 (.ref 386) (.ref 387) 388 662) ::
 (nat_lit 390, fo "_law_thing" "_law_thing" (top 50) .none M5 389) ::
 (nat_lit 396, cb "_law_shaped" "_law_shaped" 665 183 3 391 392 (.ref 393) (.ref 394) 395 673) ::
 (nat_lit 397, fo "_law_shaped" "_law_shaped" (top 51) .none M5 396) ::
 (nat_lit 401, cb "_law_broad" "_law_broad" 676 197 1 398 399 .none .none 400 679) ::
 (nat_lit 402, fo "_law_broad" "_law_broad" (top 52) .none M5 401) ::
 (nat_lit 406, cb "_law_points" "_law_points" 682 212 1 403 404 .none .none 405 685) ::
 (nat_lit 407, fo "_law_points" "_law_points" (top 53) .none M5 406) ::
 (nat_lit 411, cb "_law_whole_row" "_law_whole_row" 688 225 1 408 409 .none .none 410 691) ::
 (nat_lit 412, fo "_law_whole_row" "_law_whole_row" (top 54) .none M5 411) ::
 (nat_lit 416, cb "_law_free" "_law_free" 694 230 2 413 414 .none .none 415 697) ::
 (nat_lit 417, fo "_law_free" "_law_free" (top 55) .none M5 416) ::
 (nat_lit 423, cb "_law_ratio" "_law_ratio" 700 243 1 418 419 (.ref 420) (.ref 421) 422 705) ::
 (nat_lit 424, fo "_law_ratio" "_law_ratio" (top 56) .none M5 423) ::
 (nat_lit 428, cb "_law_way" "_law_way" 708 250 5 425 426 .none .none 427 711) ::
 (nat_lit 429, fo "_law_way" "_law_way" (top 57) .none M5 428) ::
 (nat_lit 433, cb "law" "law" 714 265 1 430 431 .none .none 432 717) ::
 (nat_lit 434, fo "law" "law" (top 58) .none M5 433) ::
 []
def KA : List Addr := nat_lit 3 :: nat_lit 59 :: nat_lit 60 :: nat_lit 66 :: nat_lit 67 :: nat_lit 73 :: nat_lit 74 :: nat_lit 80 :: nat_lit 81 :: nat_lit 87 :: nat_lit 88 :: nat_lit 94 :: nat_lit 95 :: nat_lit 101 :: nat_lit 102 :: nat_lit 108 :: nat_lit 109 :: nat_lit 115 :: nat_lit 116 :: nat_lit 122 :: nat_lit 123 :: nat_lit 127 :: nat_lit 128 :: nat_lit 132 :: nat_lit 133 :: nat_lit 137 :: nat_lit 138 :: nat_lit 142 :: nat_lit 143 :: nat_lit 147 :: nat_lit 148 :: nat_lit 149 :: nat_lit 155 :: nat_lit 156 :: nat_lit 162 :: nat_lit 163 :: nat_lit 167 :: nat_lit 168 :: nat_lit 172 :: nat_lit 173 :: nat_lit 177 :: nat_lit 178 :: nat_lit 182 :: nat_lit 183 :: nat_lit 189 :: nat_lit 190 :: nat_lit 196 :: nat_lit 197 :: nat_lit 201 :: nat_lit 202 :: nat_lit 208 :: nat_lit 209 :: nat_lit 215 :: nat_lit 216 :: nat_lit 222 :: nat_lit 223 :: nat_lit 227 :: nat_lit 228 :: nat_lit 234 :: nat_lit 235 :: nat_lit 241 :: nat_lit 242 :: nat_lit 253 :: nat_lit 254 :: nat_lit 260 :: nat_lit 261 :: nat_lit 265 :: nat_lit 266 :: nat_lit 284 :: nat_lit 285 :: nat_lit 335 :: nat_lit 336 :: nat_lit 337 :: nat_lit 338 :: nat_lit 339 :: nat_lit 347 :: nat_lit 348 :: nat_lit 354 :: nat_lit 355 :: nat_lit 361 :: nat_lit 362 :: nat_lit 368 :: nat_lit 369 :: nat_lit 375 :: nat_lit 376 :: nat_lit 382 :: nat_lit 383 :: nat_lit 389 :: nat_lit 390 :: nat_lit 396 :: nat_lit 397 :: nat_lit 401 :: nat_lit 402 :: nat_lit 406 :: nat_lit 407 :: nat_lit 411 :: nat_lit 412 :: nat_lit 416 :: nat_lit 417 :: nat_lit 423 :: nat_lit 424 :: nat_lit 428 :: nat_lit 429 :: nat_lit 433 :: nat_lit 434 :: []
end Tm
open PySem PySem.W PyProof.Rows
def PySem.W.Fast.tw4886723969556087983 : Unit := ()
def PySem.W.Fast.tw17704645984628223725 : Unit := ()
def PySem.W.Fast.tw15862281115620679896 : Unit := ()
def PySem.W.Fast.tw12733103057329432203 : Unit := ()
def PySem.W.Fast.tw9593441873037508828 : Unit := ()
def PySem.W.Fast.tw10730763521731074341 : Unit := ()
def PySem.W.Fast.tw1950488532668533866 : Unit := ()
def PySem.W.Fast.tw17857998871547487059 : Unit := ()
def PySem.W.Fast.tw6170105180215537556 : Unit := ()
def PySem.W.Fast.tw6062224901058137215 : Unit := ()
def PySem.W.Fast.tw11449038928211243514 : Unit := ()
def PySem.W.Fast.tw12939507637570379486 : Unit := ()
def PySem.W.Fast.tw17092586837476147569 : Unit := ()
def PySem.W.Fast.tw13350036587368864469 : Unit := ()
def PySem.W.Fast.tw6913142062859688199 : Unit := ()
def PySem.W.Fast.tw5307991855598886541 : Unit := ()
def PySem.W.Fast.tw13006293048539643312 : Unit := ()
def PySem.W.Fast.tw18150747620024645239 : Unit := ()
def PySem.W.Fast.tw6081506164469804265 : Unit := ()
def PySem.W.Fast.tw14814043752242053809 : Unit := ()
def PySem.W.Fast.tw5724418141122778362 : Unit := ()
def PySem.W.Fast.tw1534696714242870605 : Unit := ()
def PySem.W.Fast.tw7611088921512795028 : Unit := ()
def PySem.W.Fast.tw12426950552173999779 : Unit := ()
def PySem.W.Fast.tw17089186570385276210 : Unit := ()
def PySem.W.Fast.tw12142504728196417866 : Unit := ()
def PySem.W.Fast.tw10891195027846842937 : Unit := ()
def PySem.W.Fast.tw4671413139766948978 : Unit := ()
def PySem.W.Fast.tw6278674059552444111 : Unit := ()
def PySem.W.Fast.tw7691563517850125971 : Unit := ()
def PySem.W.Fast.tw7255357375153667151 : Unit := ()
def PySem.W.Fast.tw4058234348855559960 : Unit := ()
def PySem.W.Fast.tw8803051112464323724 : Unit := ()
def PySem.W.Fast.tw3911976576770466583 : Unit := ()
def PySem.W.Fast.tw5739301185886268123 : Unit := ()
def PySem.W.Fast.tw14818848738543439383 : Unit := ()
def PySem.W.Fast.tw7938557938985767871 : Unit := ()
def PySem.W.Fast.tw4240093828986568700 : Unit := ()
def PySem.W.Fast.tw8697431674738839632 : Unit := ()
def PySem.W.Fast.tw967168630410156045 : Unit := ()
def PySem.W.Fast.tw14945769005743634149 : Unit := ()
def PySem.W.Fast.tw8778233466726112508 : Unit := ()
def PySem.W.Fast.tw7323577056162817696 : Unit := ()
def PySem.W.Fast.tw6020663710185377297 : Unit := ()
def PySem.W.Fast.tw859549478614559578 : Unit := ()
def PySem.W.Fast.tw14341785125568895219 : Unit := ()
def PySem.W.Fast.tw14510693222478992664 : Unit := ()
def PySem.W.Fast.tw18428436540891089577 : Unit := ()
def PySem.W.Fast.tw2717323351827231340 : Unit := ()
def PySem.W.Fast.tw17310235369233762526 : Unit := ()
def PySem.W.Fast.tw16036473109147141054 : Unit := ()
def PySem.W.Fast.tw14475622056442750102 : Unit := ()
def PySem.W.Fast.tw7090768448369782332 : Unit := ()
def PySem.W.Fast.tw7603556857220500154 : Unit := ()
def PySem.W.Fast.tw3259556672832267775 : Unit := ()
def PySem.W.Fast.tw782662815470611963 : Unit := ()
def PySem.W.Fast.tw2019650686709809054 : Unit := ()
def PySem.W.Fast.tw17309616419884077956 : Unit := ()
def PySem.W.Fast.tw3713584353775894905 : Unit := ()
def PySem.W.Fast.tw15233642239517242449 : Unit := ()
def PySem.W.Fast.tw17821578180774366645 : Unit := ()
def PySem.W.Fast.tw14645076107039353469 : Unit := ()
def PySem.W.Fast.tw7197264173200105893 : Unit := ()
def PySem.W.Fast.tw8524353330612323203 : Unit := ()
set_option maxRecDepth 100000 in
set_option maxHeartbeats 0 in
theorem PySem.Challenge.cw_nearplane_k44_ways_holds : PySem.Challenge.rw_nearplane_k44_ways.Holds := by
 w_on; o_law; o_head (PySem.W.kHook Tm.KK Tm.KA (fun _ => by kernel_rfl)); (case hw => w_witness2)
 k_fill
 refine Tm.walk (l := PySem.Challenge.rw_nearplane_k44_ways) rfl rfl (fun w h Y => PySem.W.kIn_of Y) ?F ?hq
 case hq => first | rfl | decide +kernel
 case F =>
  intro w mg fa h KX G hmg
  apply Tm.all_mk rfl KX G hmg
  all_goals first
   | (refine' Np.Ga.of ?a ?l ?c ?k; (case a => k_is); (case l => k_is); (case c => k_is); (case k => k_is))
   | (refine' Np.Gm.of ?a ?b ?i ?l ?c ?k; (case a => k_is); (case b => k_is); (case i => kernel_rfl); (case l => k_is); (case c => k_is); (case k => k_is))
   | (refine' Np.Gf.of ?a ?b; (case a => k_is); (case b => kernel_rfl))
   | (refine' Np.Gc.of ?a ?b ?c ?d ?e; (case a => k_is); (case b => kernel_rfl); (case c => kernel_rfl); (case d => kernel_rfl); (case e => kernel_rfl))
   | (refine' Np.Gn.of ?a ?b ?c; (case a => k_is); (case b => kernel_rfl); (case c => kernel_rfl))
   | (refine' Np.Ge.of ?a ?l ?c ?k ?t; (case a => k_is); (case l => k_is); (case c => k_is); (case k => k_is); (case t => k_is))
   | (refine' Np.Gd.of ?a ?b ?i ?l ?c ?k ?t; (case a => k_is); (case b => k_is); (case i => kernel_rfl); (case l => k_is); (case c => k_is); (case k => k_is); (case t => k_is))
   | k_is
end
