import PyProof.Rows.All
import Wide.All
import OpenK.AllK
import Wide.FinOn
import Lean
import PyProof.EqAt
import PyProof.EqKinds
import PyProof.TupleCall
import PySem.Str
import KE.KListMore
import KE.LcSums
import KE.KRevIter
import PyProof.EnumStmt
import PyProof.EnumMake
import PyProof.IsiTupleOf
import PyProof.P3In
import PyProof.CollectIter
import PyProof.ListRange
import OpenK.KOwn
import KE.KTryMore
import PyProof.NsDelKeeps
import KE.KIsAll
import PyProof.ExcAttrAll.ValueError
import KE.KUnpack
import PySem.Challenge.RW_nearplane_k56_refused_changes_nothing
set_option Elab.async false
set_option linter.all false
set_option maxRecDepth 100000
set_option maxHeartbeats 4000000
set_option autoImplicit true
open PySem.W renaming instObj -> jAa, methodObj -> jAb, hideAll -> jAh, of_hideAll -> jAj, lookIn -> jA2, plainGet -> jA3, hasDictIn -> jA4, findIn -> jA5, plainGet_of -> jA6, isFn -> jA7, plainOver -> jA8, takerIn -> jA9, makesIn -> jBb, emptyDict -> jBc, looks_findIn -> jBd, keepIn -> jBg, callWith_K -> jBm, methodCall_KW -> jBn, cellsFrom_some -> jBr, fnOf -> jB2, codeIn -> jB3, excIn -> jCt, kitOne -> jCv, clsIn -> jCw, subIn -> jCx, kitAny -> jCy, nsIn -> jC2, mg_of -> jC3, exmOne -> jC4, mg_none_of -> jD3
open PySem.Heap renaming lt_size -> jAc, get?_push_of_some -> jAv, get?_push_size -> jAx, size_push -> jBi, get?_update_self -> jB5, get?_update_other -> jB6
open Nat renaming lt_of_lt_of_le -> jAd, lt_irrefl -> jAe, ne_of_lt -> jAf, le_trans -> jAk, le_of_lt -> jAl, ne_of_gt -> jAw, le_refl -> jAy, lt_succ_self -> jBj, zero_le -> jBk, succ_le_succ -> jB9, le_of_not_lt -> jCd, lt_succ_of_lt -> jCk, lt_of_le_of_lt -> jCn, lt_trans -> jCo, le_of_succ_le_succ -> jC1, pow_le_pow_right -> jC8, reduceAdd -> jDd
open List renaming range -> jAg, mem_filter -> jAi, filterMap_cons -> jAm, mem_cons_self -> jAn, mem_cons_of_mem -> jAo, mem_cons -> jAp, mem_append -> jAq, mem_append_left -> jAr, getElem?_eq_some_iff -> jAs, getElem?_set_self -> jAt, getElem?_set_ne -> jAu, mem_filterMap -> jAz, mem_append_right -> jA0, size_toArray -> jA1, length_cons -> jBa, lookup -> jBe, map_cons -> jBf, length_map -> jBh, append_nil -> jBl, nodup_cons -> jBo, of_mem_zip -> jBp, replicate -> jBq, length -> jBt, length_take -> jBu, getElem?_append_right -> jBv, getElem?_replicate -> jBw, getElem?_append_left -> jBx, getElem?_map -> jBy, mem_of_getElem? -> jBz, length_append -> jB0, length_replicate -> jB1, length_drop -> jB4, replicate_succ -> jB7, flatten_cons -> jB8, length_singleton -> jCa, nil_append -> jCb, map_nil -> jCc, mem_map -> jCe, getElem?_eq_none_iff -> jCf, getElem?_cons_succ -> jCg, map_map -> jCh, lookup_cons -> jCi, forIn_cons -> jCj, forIn_nil -> jCm, all_eq_true -> jCp, not_mem_nil -> jCq, length_nil -> jCr, mem_singleton -> jCs, getElem?_set -> jCu, getElem?_cons_zero -> jC0, set_append_right -> jC5, getElem?_eq_none -> jC6, cons_append -> jDc, zipWith -> jDi, getElem?_zipWith -> jDj, range' -> jDk, take_add_one -> jDl, take_length -> jDm, getElem_of_mem -> jDn, drop_eq_nil_of_le -> jDo, getElem?_eq_getElem -> jDp, getElem_mem -> jDq, mem_or_eq_of_mem_set -> jDr, map_append -> jDt, drop_of_length_le -> jDu, drop_eq_getElem_cons -> jDv, filter_cons -> jDw, mem_of_mem_eraseIdx -> jDx, eraseIdx_sublist -> jDy, length_eraseIdx_le -> jDz, forall_mem_cons -> jD1, forall_mem_nil -> jD2
open Option renaming isSome_iff_exists -> jBs, isSome_some -> jCl, bind_some -> jDb
open Int renaming toNat_natCast -> jCz, natAbs_natCast -> jC9, natAbs_mul -> jDa, gcd -> jDe, fmod_eq_emod_of_nonneg -> jDf, eq_ofNat_of_zero_le -> jDg, gcd_natCast_natCast -> jDh, fdiv_eq_ediv_of_nonneg -> jDs, reduceEq -> jD0
open Rat renaming divInt -> jC7
section
namespace L2
open PySem PySem.Spec PyProof.Rows
abbrev Key := Sum Int Str
def qVi : Key -> Value -> Bool
 | .inl k, v => Value.isInt k v
 | .inr x, v => Value.isStrOf x v
def qZd (w : World) : Key -> Int
 | .inl k => hashInt k
 | .inr x => hashStr w x
theorem qAq : ∀ {k : Key} {v : Value}, qVi k v = true -> (∃ i t, k = Sum.inl i /\ v = Value.int i t) \/ (∃ x t, k = Sum.inr x /\ v = Value.str x t)
 | .inl i, v, h => by
  obtain ⟨t, e⟩ := Value.isInt_shape (k := i) (v := v) h
  exact .inl ⟨i, t, rfl, e⟩
 | .inr x, v, h => by
  obtain ⟨t, e⟩ := Value.isStrOf_shape (x := x) (v := v) h
  exact .inr ⟨x, t, rfl, e⟩
theorem qVh (a b : Int) : decide ((Sum.inl a : Key) = Sum.inl b) = (a == b) := by
 by_cases e : a = b
 ·subst e; simp
 ·have h : ¬ (Sum.inl a : Key) = Sum.inl b := λ q => e (Sum.inl.inj q)
  rw [decide_eq_false h]
  exact (beq_eq_false_iff_ne.mpr e).symm
theorem qVe (a b : Str) : decide ((Sum.inr a : Key) = Sum.inr b) = decide (a = b) := by
 by_cases e : a = b
 ·subst e; simp
 ·have h : ¬ (Sum.inr a : Key) = Sum.inr b := λ q => e (Sum.inr.inj q)
  rw [decide_eq_false h, decide_eq_false e]
theorem qVg (a : Int) (b : Str) : decide ((Sum.inl a : Key) = Sum.inr b) = false := decide_eq_false (λ q => nomatch q)
theorem qVf (a : Str) (b : Int) : decide ((Sum.inr a : Key) = Sum.inl b) = false := decide_eq_false (λ q => nomatch q)
def qH1 (prog : Program) (w : World) : PySem.KeyKind prog w Key where
 is := qVi
 hash := qZd w
 inj := λ v a b ha hb => by
  rcases qAq ha with ⟨i, t, rfl, rfl⟩ | ⟨x, t, rfl, rfl⟩
  ·rcases qAq hb with ⟨j, u, rfl, e⟩ | ⟨y, u, rfl, e⟩
   ·injection e with e1 _; rw [e1]
   ·exact nomatch e
  ·rcases qAq hb with ⟨j, u, rfl, e⟩ | ⟨y, u, rfl, e⟩
   ·exact nomatch e
   ·injection e with e1 _; rw [e1]
 byValue := λ k v h => by
  rcases qAq h with ⟨i, t, rfl, rfl⟩ | ⟨x, t, rfl, rfl⟩ <;> rfl
 pyHash := λ hv h => by
  rcases qAq hv with ⟨i, t, rfl, rfl⟩ | ⟨x, t, rfl, rfl⟩
  ·exact wpAny_pyHash_int h
  ·exact wpAny_pyHash_str h
 eqBool := λ hu hv h => by
  rcases qAq hu with ⟨i, t, rfl, rfl⟩ | ⟨x, t, rfl, rfl⟩
  ·rcases qAq hv with ⟨j, u, rfl, rfl⟩ | ⟨y, u, rfl, rfl⟩
   ·rw [qVh] at h; exact wpAny_eqBool_int h
   ·rw [qVg] at h; exact SeqAt.EqAt.int_str i t y u _ _ _ _ h
  ·rcases qAq hv with ⟨j, u, rfl, rfl⟩ | ⟨y, u, rfl, rfl⟩
   ·rw [qVf] at h; exact SeqAt.EqAt.str_int x t j u _ _ _ _ h
   ·rw [qVe] at h; exact wpAny_eqBool_str h
 «strs» := λ k x t v h => by
  rcases qAq h with ⟨i, u, rfl, e⟩ | ⟨y, u, rfl, e⟩
  ·exact nomatch e
  ·injection e with e1 _
   subst e1
   cases v <;> rfl
end L2
namespace L2
open PySem PySem.Spec PyProof.Rows
inductive V where
 | non | bl (b : Bool) | int (i : Int) | str (x : Str) | byt (b : Array UInt8) | flt (b : UInt64) | ref (a : Addr) | ty (n : String)
 deriving DecidableEq
def qA6 : V -> Value -> Prop
 | .non, u => u = Value.none
 | .bl b, u => u = Value.bool b
 | .int i, u => ∃ t, u = Value.int i t
 | .str x, u => ∃ t, u = Value.str x t
 | .byt b, u => ∃ t, u = Value.bytes b t
 | .flt b, u => ∃ t, u = Value.float b t
 | .ref a, u => u = Value.ref a
 | .ty n, u => u = Value.type n
abbrev qAn : List V -> List Value -> Prop := Paired qA6
theorem qAn.length (r : qAn xs us) : xs.length = us.length := Paired.length r
theorem qAn.get : ∀ {xs : List V} {us : List Value} {i : Nat} {x : V}, qAn xs us -> xs[i]? = some x -> ∃ u, us[i]? = some u /\ qA6 x u
 | _, _, _, _, .nil, e => by simp at e
 | _, _, 0, _, .cons r _, e => by simp at e; subst e; exact ⟨_, rfl, r⟩
 | _, _, i + 1, x, .cons _ t, e => by
  obtain ⟨u, h1, h2⟩ := qAn.get (i := i) (x := x) t (by simpa using e)
  exact ⟨u, by simpa using h1, h2⟩
theorem qAn.set (r : qA6 x u) : ∀ {xs : List V} {us : List Value} (i : Nat), qAn xs us -> qAn (xs.set i x) (us.set i u)
 | _, _, _, .nil => .nil
 | _, _, 0, .cons _ t => .cons r t
 | _, _, i + 1, .cons q t => .cons q (qAn.set r i t)
theorem qAn.append : ∀ {xs ys : List V} {us ws : List Value}, qAn xs us -> qAn ys ws -> qAn (xs ++ ys) (us ++ ws)
 | _, _, _, _, .nil, s => s
 | _, _, _, _, .cons r t, s => .cons r (qAn.append t s)
theorem qAn.take : ∀ {xs : List V} {us : List Value} (n : Nat), qAn xs us -> qAn (xs.take n) (us.take n)
 | _, _, 0, _ => .nil
 | _, _, _ + 1, .nil => .nil
 | _, _, n + 1, .cons r t => .cons r (qAn.take n t)
theorem qAn.drop : ∀ {xs : List V} {us : List Value} (n : Nat), qAn xs us -> qAn (xs.drop n) (us.drop n)
 | _, _, 0, r => r
 | _, _, _ + 1, .nil => .nil
 | _, _, n + 1, .cons _ t => qAn.drop n t
def qNh : Option V -> Option Value -> Prop
 | some v, some u => qA6 v u
 | none, none => True
 | _, _ => False
def KV {κ : Type} : List (κ × V) -> List (κ × Value) -> Prop := Paired λ (p : κ × V) (q : κ × Value) => p.1 = q.1 /\ qA6 p.2 q.2
def kV : Key -> V
 | .inl i => .int i
 | .inr x => .str x
inductive HO where
  | lst (xs : List V)
  | tup (xs : List V)
  | dK (kvs : List (Key × V)) | dT (kvs : List (List Key × V))
  | set (S : Int -> Bool) (n : Nat)
  | ins (C dx : Addr) (fs : List (Str × V))
  | own (x : Addr)
  | xd (fs : List (Str × V))
  | met (f x : Addr)
  | rng (lo hi : Int)
  | frz (o : Obj) (u : HO)
  | tbl (ps : Array Value)
  | ext (φ : Heap -> Prop)
abbrev Hp := Addr -> Option HO
def upd (H : Hp) (a : Addr) (o : HO) : Hp := λ b => if b = a then some o else H b
theorem zT : upd H a o a = some o := by unfold upd; rw [if_pos rfl]
theorem zN (h : b ≠ a) : upd H a o b = H b := by unfold upd; rw [if_neg h]
theorem qAd {H : Hp} {a b : Addr} {o : HO} (h : H a = some o) (h' : H b = none) : a ≠ b := by
 intro e; subst e; rw [h] at h'; cases h'
section
variable (P : Program) (w : World)
def qA9 (H : Hp) (h : Heap) (a : Addr) : HO -> Prop
 | .lst xs => xs.length <= sizeLine /\ ∃ (its : List Value) (n : Nat), qAn xs its /\ h.get? a = some { cls := .type "list", data := .seq its.toArray n }
 | .tup xs => xs.length <= sizeLine /\ ∃ its : List Value, qAn xs its /\ IsTup h a its.toArray
 | .dK kvs => kvs.length <= sizeLine /\ (a == sysModules) = false /\ ∃ vs, KV kvs vs /\ h.DictOf (qH1 P w) a vs
 | .dT kvs => kvs.length <= sizeLine /\ (a == sysModules) = false /\ ∃ xs : List (List Key × Addr × Value),
   Paired (λ (p : List Key × V) (q : List Key × Addr × Value) => p.1 = q.1 /\ H q.2.1 = some (.tup (p.1.map kV)) /\ qA6 p.2 q.2.2) kvs xs /\
   ∃ o es ep, h.get? a = some o /\ o.ExactDict /\ o.data = .dict es ep /\ es.toList = xs.map (entryOfKey (tupleKind (qH1 P w))) /\ (xs.map (·.1)).Nodup
 | .set S n => h.SetOf (intKind P w) a S n
 | .ins C dx fs => H dx = some (.own a) /\ fs.length <= 1000 /\ dx ≠ a /\ h.get? a = some (jAa C dx) /\
   ∃ mA, h.Ns1 dx mA /\ (∀ f, qNh (fs.lookup f) (mA f)) /\ PySem.Within mA (fs.map (·.1))
 | .own _ => ∃ o, h.get? a = some o
 | .xd fs => ∃ mA, h.Ns1 a mA /\ ∀ f, qNh (fs.lookup f) (mA f)
 | .rng lo hi => ∃ t u v, h.get? a = some { cls := .type "range", data := .fields #[.int lo t, .int hi u, .int 1 v] }
 | .frz o u => h.get? a = some o /\ qA9 H h a u
 | .tbl ps => h.get? a = some { cls := .none, data := .fields ps }
 | .met f x => h.get? a = some (jAb (.ref f) (.ref x))
 | .ext φ => φ h /\ (∃ o, h.get? a = some o) /\ ∀ h1 h2 : Heap, φ h1 -> (∀ o, h1.get? a = some o -> h2.get? a = some o) -> φ h2
def HOk (H : Hp) (h : Heap) : Prop := ∀ a o, H a = some o -> qA9 P w H h a o
end
section
variable {P : Program} {w : World} {H H' : Hp} {h h' : Heap} {a : Addr} {o : HO}
theorem qA9.lt (x : qA9 P w H h a o) : a < h.objs.size := by
 cases o with
 | lst xs => obtain ⟨_, _, _, _, e⟩ := x; exact jAc e
 | tup xs => obtain ⟨_, _, _, p⟩ := x; exact p.lt
 | dK kvs => obtain ⟨_, _, _, _, o, _, _, e, _⟩ := x; exact jAc e
 | dT kvs => obtain ⟨_, _, _, _, o, _, _, e, _⟩ := x; exact jAc e
 | set S n => obtain ⟨o, _, _, _, e, _⟩ := x; exact jAc e
 | ins C dx fs => obtain ⟨_, _, _, e, _⟩ := x; exact jAc e
 | own y => obtain ⟨_, e⟩ := x; exact jAc e
 | xd fs => obtain ⟨_, ⟨_, _, _, e, _⟩, _⟩ := x; exact jAc e
 | rng lo hi => obtain ⟨_, _, _, e⟩ := x; exact jAc e
 | frz ob u => obtain ⟨e, _⟩ := x; exact jAc e
 | tbl ps => exact jAc (show h.get? a = some _ from x)
 | met f y => exact jAc (show h.get? a = some _ from x)
 | ext φ => obtain ⟨_, ⟨_, e⟩, _⟩ := x; exact jAc e
theorem Paired.mapP : ∀ {l₁ : List α} {l₂ : List β}, Paired F l₁ l₂ -> (∀ a b, F a b -> G a b) -> Paired G l₁ l₂
 | _, _, .nil, _ => .nil
 | _, _, .cons r t, f => .cons (f _ _ r) (Paired.mapP t f)
theorem qA9.stay (x : qA9 P w H h a o) (k : ∀ b u, (b = a \/ H b = some (.own a)) -> h.get? b = some u -> h'.get? b = some u)
  (ho : ∀ b, H b = some (.own a) -> H' b = some (.own a)) (ht : ∀ b xs, H b = some (.tup xs) -> H' b = some (.tup xs)) : qA9 P w H' h' a o := by
 induction o with
 | lst xs => obtain ⟨z, its, n, r, e⟩ := x; exact ⟨z, its, n, r, k _ _ (.inl rfl) e⟩
 | tup xs => obtain ⟨z, its, r, ob, e, c⟩ := x; exact ⟨z, its, r, ob, k _ _ (.inl rfl) e, c⟩
 | dK kvs => obtain ⟨z, y, vs, r, ob, es, ep, e, c⟩ := x; exact ⟨z, y, vs, r, ob, es, ep, k _ _ (.inl rfl) e, c⟩
 | dT kvs =>
  obtain ⟨z, y, xs, r, ob, es, ep, e, c⟩ := x
  exact ⟨z, y, xs, Paired.mapP r λ p q z => ⟨z.1, ht _ _ z.2.1, z.2.2⟩, ob, es, ep, k _ _ (.inl rfl) e, c⟩
 | set S n => obtain ⟨ob, es, ep, t, e, c⟩ := x; exact ⟨ob, es, ep, t, k _ _ (.inl rfl) e, c⟩
 | ins C dx fs =>
  obtain ⟨d, z, ne, e, mA, ⟨od, es, ep, e2, c⟩, r⟩ := x
  exact ⟨ho _ d, z, ne, k _ _ (.inl rfl) e, mA, ⟨od, es, ep, k _ _ (.inr d) e2, c⟩, r⟩
 | own y => obtain ⟨ob, e⟩ := x; exact ⟨ob, k _ _ (.inl rfl) e⟩
 | xd fs => obtain ⟨mA, ⟨od, es, ep, e, c⟩, r⟩ := x; exact ⟨mA, ⟨od, es, ep, k _ _ (.inl rfl) e, c⟩, r⟩
 | rng lo hi => obtain ⟨t, u, v, e⟩ := x; exact ⟨t, u, v, k _ _ (.inl rfl) e⟩
 | frz ob u ih => obtain ⟨e, q⟩ := x; exact ⟨k _ _ (.inl rfl) e, ih q⟩
 | tbl ps =>
  have e : h.get? a = some { cls := .none, data := .fields ps } := x
  show h'.get? a = some { cls := .none, data := .fields ps }
  exact k a _ (.inl rfl) e
 | met f y =>
  have e : h.get? a = some (jAb (.ref f) (.ref y)) := x
  show h'.get? a = some (jAb (.ref f) (.ref y))
  exact k a _ (.inl rfl) e
 | ext φ => obtain ⟨p, ⟨o, e⟩, st⟩ := x; exact ⟨st _ _ p λ o q => k _ _ (.inl rfl) q, ⟨o, k _ _ (.inl rfl) e⟩, st⟩
theorem HOk.lt (x : HOk P w H h) (e : H a = some o) : a < h.objs.size := (x a o e).lt
theorem HOk.fresh (x : HOk P w H h) (e : h.objs.size <= a) : H a = none := by
 cases q : H a with
 | none => rfl
 | some u => exact absurd (jAd (x.lt q) e) (jAe _)
theorem HOk.kept (x : HOk P w H h) (k : ∀ b u, h.get? b = some u -> h'.get? b = some u) : HOk P w H h' := λ a o e =>
 (x a o e).stay (λ b u _ q => k b u q) (λ _ q => q) λ _ _ q => q
theorem HOk.laid (x : HOk P w H h) (k : ∀ b u, h.get? b = some u -> h'.get? b = some u) (hp : h.objs.size <= a) (new : qA9 P w (upd H a o) h' a o) : HOk P w (upd H a o) h' := λ b u e => by
 have hn := x.fresh hp
 by_cases hb : b = a
 ·subst hb; rw [zT] at e; cases e; exact new
 ·rw [zN hb] at e
  exact (x b u e).stay (λ c v _ q => k c v q) (λ c q => by rw [zN (qAd q hn)]; exact q) λ c xs q => by rw [zN (qAd q hn)]; exact q
end
def Rd (H : Hp) (a : Addr) (u : HO) : Prop := H a = some u \/ ∃ o, H a = some (.frz o u)
theorem Rd.of (h : H a = some u) : Rd H a u := .inl h
theorem Rd.ok (r : Rd H a u) (x : HOk P w H h) : qA9 P w H h a u := by
 rcases r with r | ⟨o, r⟩
 ·exact x a u r
 ·obtain ⟨_, q⟩ := x a _ r
  exact q
def Mut : Option HO -> Prop
 | some (.lst _) => True
 | some (.dK _) => True
 | some (.dT _) => True
 | some (.set _ _) => True
 | some (.ins _ _ _) => True
 | some (.ext _) => True
 | _ => False
section
variable {P : Program} {w : World} {H : Hp} {h h' : Heap} {x e : Addr} {o' : HO}
theorem HOk.write (ok : HOk P w H h) (mu : Mut (H x)) (he : e = x \/ H e = some (.own x)) (k : ∀ b u, b ≠ e -> h.get? b = some u -> h'.get? b = some u) (heo : ∃ u, h'.get? e = some u)
  (new : qA9 P w (upd H x o') h' x o') : HOk P w (upd H x o') h' := λ b u q => by
 have nown : ∀ c y, H c = some (.own y) -> c ≠ x := λ c y r z => by subst z; rw [r] at mu; exact mu
 have ntup : ∀ c xs, H c = some (.tup xs) -> c ≠ x := λ c xs r z => by subst z; rw [r] at mu; exact mu
 by_cases hb : b = x
 ·subst hb; rw [zT] at q; cases q; exact new
 ·rw [zN hb] at q
  by_cases hbe : b = e
  ·have q' : H b = some (.own x) := by
    rcases he with z | z
    ·exact absurd (hbe.trans z) hb
    ·rw [hbe]; exact z
   rw [q] at q'; cases q'
   obtain ⟨v, hv⟩ := heo
   exact ⟨v, by rw [hbe]; exact hv⟩
  ·refine (ok b u q).stay (λ c v hc r => k c v ?_ r) (λ c r => by rw [zN (nown c b r)]; exact r) λ c xs r => by rw [zN (ntup c xs r)]; exact r
   rcases hc with rfl | hc
   ·exact hbe
   ·rintro rfl
    rcases he with z | z
    ·exact nown c b hc z
    ·rw [hc] at z; cases z; exact hb rfl
end
structure Un (fs ex : List Addr) (H H' : Hp) (h h' : Heap) : Prop where
 keep : ∀ b o, h.get? b = some o -> H b = none -> b ∉ fs -> b ∉ ex -> h'.get? b = some o
 slot : ∀ b o, h.get? b = some o -> H b = none -> b ∈ fs -> b ∉ ex -> ∃ sl, h'.get? b = some { o with slots := sl }
 free : ∀ b o, h.get? b = some o -> H b = none -> b ∉ ex -> H' b = none
 there : ∀ b o, h.get? b = some o -> b ∉ ex -> ∃ o', h'.get? b = some o'
 tups : ∀ b xs, H b = some (.tup xs) -> H' b = some (.tup xs)
 frzs : ∀ b o u, H b = some (.frz o u) -> H' b = some (.frz o u)
 tbls : ∀ b ps, H b = some (.tbl ps) -> ∃ more, H' b = some (.tbl (ps ++ more))
section
variable {fs fs' ex ex' : List Addr} {H H1 H2 : Hp} {h h1 h2 h' : Heap} {a x e : Addr} {o : HO}
theorem Un.any (u : Un fs ex H H1 h h1) (q : h.get? b = some ob) (n : H b = none) (hx : b ∉ ex) : ∃ sl, h1.get? b = some { ob with slots := sl } := by
 by_cases hb : b ∈ fs
 ·exact u.slot b ob q n hb hx
 ·exact ⟨ob.slots, u.keep b ob q n hb hx⟩
theorem Un.trans (a : Un fs ex H H1 h h1) (b : Un fs ex H1 H2 h1 h2) : Un fs ex H H2 h h2 where
 keep := λ c ob q n hc hx => b.keep c ob (a.keep c ob q n hc hx) (a.free c ob q n hx) hc hx
 slot := λ c ob q n hc hx => by
  obtain ⟨sl, e1⟩ := a.slot c ob q n hc hx
  obtain ⟨sl', e2⟩ := b.slot c _ e1 (a.free c ob q n hx) hc hx
  exact ⟨sl', e2⟩
 free := λ c ob q n hx => by
  obtain ⟨o', e1⟩ := a.there c ob q hx
  exact b.free c o' e1 (a.free c ob q n hx) hx
 there := λ c ob q hx => by
  obtain ⟨o', e1⟩ := a.there c ob q hx
  exact b.there c o' e1 hx
 tups := λ c xs q => b.tups c xs (a.tups c xs q)
 frzs := λ c ob xs q => b.frzs c ob xs (a.frzs c ob xs q)
 tbls := λ c ps q => by
  obtain ⟨m1, e1⟩ := a.tbls c ps q
  obtain ⟨m2, e2⟩ := b.tbls c _ e1
  exact ⟨m1 ++ m2, by rw [e2, Array.append_assoc]⟩
theorem Un.kept (k : ∀ b u, h.get? b = some u -> h'.get? b = some u) : Un fs ex H H h h' :=
 ⟨λ b ob q _ _ _ => k b ob q, λ b ob q _ _ _ => ⟨ob.slots, k b ob q⟩, λ _ _ _ n _ => n, λ b ob q _ => ⟨ob, k b ob q⟩, λ _ _ q => q, λ _ _ _ q => q, λ _ ps q => ⟨#[], by rw [q]; simp⟩⟩
theorem Un.refl : Un fs ex H H h h := Un.kept λ _ _ q => q
theorem Un.laid (k : ∀ b u, h.get? b = some u -> h'.get? b = some u) (hp : h.objs.size <= a) (hn : H a = none) : Un fs ex H (upd H a o) h h' where
 keep := λ b u q _ _ _ => k b u q
 slot := λ b u q _ _ _ => ⟨u.slots, k b u q⟩
 free := λ b u q n _ => by rw [zN (jAf (jAd (jAc q) hp))]; exact n
 there := λ b u q _ => ⟨u, k b u q⟩
 tups := λ b xs q => by rw [zN (qAd q hn)]; exact q
 frzs := λ b u xs q => by rw [zN (qAd q hn)]; exact q
 tbls := λ b ps q => ⟨#[], by rw [zN (qAd q hn), q]; simp⟩
theorem Un.write (mu : Mut (H x)) (he : e = x \/ H e = some (.own x)) (k : ∀ b u, b ≠ e -> h.get? b = some u -> h'.get? b = some u) (heo : ∃ u, h'.get? e = some u) : Un fs ex H (upd H x o) h h' := by
 have hx : ∀ b, H b = none -> b ≠ x := λ b n z => by subst z; rw [n] at mu; exact mu
 have hb : ∀ b, H b = none -> b ≠ e := λ b n z => by
  subst z
  rcases he with r | r
  ·exact hx b n r
  ·rw [n] at r; cases r
 have hm : ∀ b u, H b = some u -> ¬ Mut (some u) -> b ≠ x := λ b u q nm z => by subst z; rw [q] at mu; exact nm mu
 refine ⟨λ b u q n _ _ => k b u (hb b n) q, λ b u q n _ _ => ⟨u.slots, k b u (hb b n) q⟩, λ b u q n _ => by rw [zN (hx b n)]; exact n, λ b u q _ => ?_,
  λ b xs q => by rw [zN (hm b _ q λ z => z)]; exact q, λ b u xs q => by rw [zN (hm b _ q λ z => z)]; exact q, λ b ps q => ⟨#[], by rw [zN (hm b _ q λ z => z), q]; simp⟩⟩
 by_cases hbe : b = e
 ·subst hbe; exact heo
 ·exact ⟨u, k b u hbe q⟩
theorem Un.mono (u : Un fs ex H H1 h h1) (hs : ∀ b ∈ fs, b ∈ fs') (hx : ∀ b ∈ ex, b ∈ ex') : Un fs' ex' H H1 h h1 :=
 ⟨λ b ob q n hb he => u.keep b ob q n (λ z => hb (hs b z)) λ z => he (hx b z), λ _ _ q n _ he => u.any q n λ z => he (hx _ z), λ b ob q n he => u.free b ob q n λ z => he (hx b z), λ b ob q he => u.there b ob q λ z => he (hx b z), u.tups, u.frzs, u.tbls⟩
end
def trk (h : Heap) (H : Hp) : List Addr := (jAg h.objs.size).filter λ a => (H a).isSome
def qO0 (h : Heap) (H : Hp) : Heap := jAh h (trk h H)
theorem qMh (h : Heap) (H : Hp) : (qO0 h H).objs.size = h.objs.size := PySem.W.hideAll_size _ _
theorem qOz (e : h.get? b = some o) (n : H b = none) : (qO0 h H).get? b = some o :=
 PySem.W.hideAll_get _ e λ hm => by
  have q : (H b).isSome = true := (jAi.mp hm).2
  rw [n] at q; simp at q
theorem qRr (e : (qO0 h H).get? b = some o) : h.get? b = some o /\ H b = none := by
 have e' : h.get? b = some o := jAj (trk h H) e
 refine ⟨e', ?_⟩
 cases q : H b with
 | none => rfl
 | some x =>
  have hm : b ∈ trk h H := jAi.mpr ⟨List.mem_range.mpr (jAc e'), by simp [q]⟩
  have z : (qO0 h H).get? b = none := PySem.W.hideAll_none (trk h H) hm
  rw [z] at e; cases e
end L2
namespace L2
open PySem PySem.Spec PyProof.Rows
structure Mod (K : PySem.W.Frag) (mg : Str -> Option Value) (base : Heap) : Prop where
 kin : K.In base
 glob : base.Ns mainGlobals mg
 blt : ∃ mb, base.Ns builtinsNs mb /\ ∀ x : Str, x ≠ "__name__" -> mb x = bootBuiltins x
 nolimit : base.NoLimit
 seer : base.NoSeer
structure Cx where
 prog : Program
 w : World
 K : PySem.W.Frag
 mg : Str -> Option Value
 base : Heap
 A : Around
 N : List Str
 s₀ : Shared
 H₀ : Hp
 env : Env
 outer : List Env
 stack : List Env
 ex : List Addr
 fn : Str -> Bool
 calm : Bool
 pn : List (Addr × Obj)
 xe : Value -> Shared -> Prop
def frs (l : List Env) : List Addr := l.filterMap (·.frame)
abbrev Cx.fs (X : Cx) : List Addr := frs X.outer
def Vis (sc : Scope) (x : Str) : Prop := sc.names.lookup x = some .local \/ sc.names.lookup x = some .cell \/ sc.names.lookup x = some .free
def Loc (sc : Scope) (x : Str) : Prop := sc.names.lookup x = some .local \/ sc.names.lookup x = some .cell
def qYs (env : Env) (h : Heap) (m : Str -> Option Value) (x : Str) (u : Value) : Prop :=
 (env.kindOf x = some .local /\ m x = some u) \/ ((env.kindOf x = some .cell \/ env.kindOf x = some .free) /\ ∃ c, env.cells.lookup x = some c /\ h.IsCell c (some u))
structure Cx.Ok (X : Cx) : Prop where
 mod : Mod X.K X.mg X.base
 kind : X.env.scope.kind = .function
 glob : X.env.globals = mainGlobals
 blt : X.env.builtins = builtinsNs
 above : X.s₀.heap.objs.size <= X.env.locals
 inj : ∀ x y c, X.env.cells.lookup x = some c -> X.env.cells.lookup y = some c -> x = y
 has : ∀ x, (X.env.kindOf x = some .cell \/ X.env.kindOf x = some .free) -> ∃ c, X.env.cells.lookup x = some c
 cab : ∀ x c, X.fn x = true -> X.env.cells.lookup x = some c -> X.s₀.heap.objs.size <= c
 hd : X.calm = true -> X.A.handled = none
 frames : X.A.frames = some X.stack
 stk : X.stack = X.outer \/ (X.stack = X.env :: X.outer /\ X.env.frame = some X.env.locals)
 exf : ∀ b ∈ X.ex, b ≠ X.env.locals /\ ∀ x c, X.env.cells.lookup x = some c -> c ≠ b
 bs : ∀ b o, X.base.get? b = some o -> X.s₀.heap.get? b = some o /\ X.H₀ b = none
 bsz : X.base.objs.size <= X.s₀.heap.objs.size
 noex : ∀ b o, X.base.get? b = some o -> b ∉ X.ex
 exfs : ∀ b ∈ X.ex, b ∉ X.fs
 funs : X.s₀.heap.FunFrames X.base X.outer
 frf : ∀ b ∈ X.fs, X.H₀ b = none
structure Inv (X : Cx) (pins : List (Addr × Obj)) (σ : List (Option V)) (H : Hp) (s : Shared) : Prop where
 ok : X.Ok
 os : s.os = X.s₀.os
 bare : AllBare s.gens
 base : Un X.fs X.ex X.H₀ H X.s₀.heap s.heap
 loc : ∃ m, s.heap.Ns X.env.locals m /\ ∀ (i : Nat) (x : Str) (v : V), X.N[i]? = some x -> σ[i]? = some (some v) -> Vis X.env.scope x -> ∃ u, qA6 v u /\ qYs X.env s.heap m x u
 cell : ∀ x c, X.env.cells.lookup x = some c -> ∃ v, s.heap.IsCell c v
 free : H X.env.locals = none
 freeC : ∀ x c, X.env.cells.lookup x = some c -> H c = none
 pin : ∀ p ∈ X.pn ++ pins, s.heap.get? p.1 = some p.2 /\ H p.1 = none /\ p.1 ≠ X.env.locals /\ p.1 ∉ X.fs /\ ∀ v, p.2.data ≠ .cell v
 hok : HOk X.prog X.w H s.heap
 len : σ.length = X.N.length
section
variable {X : Cx} {pins : List (Addr × Obj)} {σ : List (Option V)} {H H' : Hp} {s : Shared} {h' : Heap}
theorem Cx.Ok.nofr (ok : X.Ok) (e : X.base.get? b = some o) : b ∉ X.fs := λ hb => by
 have := (ok.funs.mem hb).1
 rw [e] at this; cases this
theorem Inv.bs (I : Inv X pins σ H s) : ∀ b o, X.base.get? b = some o -> s.heap.get? b = some o /\ H b = none := λ b o e =>
 ⟨I.base.keep b o (I.ok.bs b o e).1 (I.ok.bs b o e).2 (I.ok.nofr e) (I.ok.noex b o e), I.base.free b o (I.ok.bs b o e).1 (I.ok.bs b o e).2 (I.ok.noex b o e)⟩
theorem Inv.bk (I : Inv X pins σ H s) : ∀ b o, X.base.get? b = some o -> s.heap.get? b = some o := λ b o e => (I.bs b o e).1
theorem Inv.mod (I : Inv X pins σ H s) : Mod X.K X.mg X.base := I.ok.mod
theorem Inv.kIn (I : Inv X pins σ H s) : X.K.In s.heap := I.ok.mod.kin.keeps I.bk
theorem Inv.lt (I : Inv X pins σ H s) : X.env.locals < s.heap.objs.size := let ⟨_, hn, _⟩ := I.loc; hn.lt
theorem Inv.sz (I : Inv X pins σ H s) : X.s₀.heap.objs.size <= s.heap.objs.size := jAk I.ok.above (jAl I.lt)
theorem Inv.nofs (I : Inv X pins σ H s) (h : s.heap.objs.size <= a) : a ∉ X.fs := λ hb => by
 obtain ⟨_, o, ho, _⟩ := I.ok.funs.mem hb
 exact absurd (jAd (jAc ho) (jAk I.sz h)) (jAe _)
theorem Inv.cne (I : Inv X pins σ H s) : ∀ x c, X.env.cells.lookup x = some c -> c ≠ X.env.locals := λ x c e z => by
 obtain ⟨v, o, ho, hd⟩ := I.cell x c e
 obtain ⟨m, ⟨o', es, ep, ho', hd', _⟩, _⟩ := I.loc
 rw [z, ho'] at ho; cases ho; rw [hd'] at hd; cases hd
theorem Inv.funs (I : Inv X pins σ H s) : s.heap.FunFrames X.base X.outer := by
 have all : ∀ (l : List Env), (∀ b ∈ frs l, b ∈ X.fs) -> X.s₀.heap.FunFrames X.base l -> s.heap.FunFrames X.base l := by
  intro l
  induction l with
  | nil => intro _ _; trivial
  | cons env r ih =>
   intro hs hl
   obtain ⟨hk, ⟨L, o, hf, hn, ho, hd⟩, hr⟩ := hl
   have hL : L ∈ X.fs := hs L (by unfold frs; rw [jAm, hf]; exact jAn)
   obtain ⟨sl, e⟩ := I.base.slot L o ho (I.ok.frf L hL) hL λ z => I.ok.exfs L z hL
   exact ⟨hk, ⟨L, _, hf, hn, e, hd⟩, ih (λ b hb => hs b (by unfold frs; rw [jAm, hf]; exact jAo _ hb)) hr⟩
 exact all X.outer (λ _ hb => hb) I.ok.funs
theorem Inv.stack (I : Inv X pins σ H s) : s.heap.FunFrames X.base X.stack := by
 rcases I.ok.stk with e | ⟨e, hf⟩
 ·rw [e]; exact I.funs
 ·rw [e]
  obtain ⟨m, hn, _⟩ := I.loc
  refine .cons (by rw [I.ok.kind]; decide) hf hn ?_ I.funs
  exact Heap.get?_none_of_le (jAk I.ok.bsz I.ok.above)
theorem Inv.stkSub (I : Inv X pins σ H s) : ∀ b ∈ frs X.stack, b ∈ X.env.locals :: X.fs := λ b hb => by
 rcases I.ok.stk with e | ⟨e, hf⟩
 ·rw [e] at hb; exact jAo _ hb
 ·rw [e] at hb
  unfold frs at hb
  rw [jAm, hf] at hb
  exact hb
theorem Inv.stkFree (I : Inv X pins σ H s) : ∀ b ∈ frs X.stack, H b = none := λ b hb => by
 rcases jAp.mp (I.stkSub b hb) with e | hb
 ·rw [e]; exact I.free
 ·obtain ⟨_, o, ho, _⟩ := I.ok.funs.mem hb
  exact I.base.free b o ho (I.ok.frf b hb) λ z => I.ok.exfs b z hb
theorem Inv.step {g' : Array GenState} {t' : Nat} {d' : Drawn} {ch : List Addr} (I : Inv X pins σ H s)
  (hch : ∀ b ∈ ch, (b ∈ X.ex \/ X.s₀.heap.objs.size <= b) /\ b ≠ X.env.locals /\ (∀ x c, X.env.cells.lookup x = some c -> c ≠ b) /\ ∀ p ∈ X.pn ++ pins, p.1 ≠ b)
  (keep : ∀ b o, b ≠ X.env.locals -> b ∉ X.fs -> b ∉ ch -> s.heap.get? b = some o -> H b = none -> h'.get? b = some o)
  (slot : ∀ b o, b ≠ X.env.locals -> b ∈ X.fs -> b ∉ ch -> s.heap.get? b = some o -> H b = none -> ∃ sl, h'.get? b = some { o with slots := sl }) (free : ∀ b o, b ∉ ch -> s.heap.get? b = some o -> H b = none -> H' b = none)
  (there : ∀ b o, b ∉ ch -> s.heap.get? b = some o -> ∃ o', h'.get? b = some o')
  (tups : ∀ b xs, H b = some (.tup xs) -> H' b = some (.tup xs)) (frzs : ∀ b o u, H b = some (.frz o u) -> H' b = some (.frz o u)) (tbls : ∀ b ps, H b = some (.tbl ps) -> ∃ more, H' b = some (.tbl (ps ++ more)))
  (ns : ∀ m, s.heap.Ns X.env.locals m -> h'.Ns X.env.locals m) (hok : HOk X.prog X.w H' h') (hg : AllBare g') :
  Inv X pins σ H' { s with heap := h', gens := g', drawn := d', toks := t' } := by
 have neL : ∀ b o, X.s₀.heap.get? b = some o -> b ≠ X.env.locals := λ b o e => jAf (jAd (jAc e) I.ok.above)
 have neC : ∀ b o, X.s₀.heap.get? b = some o -> b ∉ X.ex -> b ∉ ch := λ b o e hx hb => by
  rcases (hch b hb).1 with z | z
  ·exact hx z
  ·exact absurd (jAd (jAc e) z) (jAe _)
 have cellK : ∀ x c, X.env.cells.lookup x = some c -> ∀ v, s.heap.IsCell c v -> h'.IsCell c v := λ x c e v ⟨o, ho, hd⟩ => by
  have nch : c ∉ ch := λ z => (hch c z).2.2.1 x c e rfl
  by_cases hc : c ∈ X.fs
  ·obtain ⟨sl, q⟩ := slot c o (I.cne x c e) hc nch ho (I.freeC x c e)
   exact ⟨_, q, hd⟩
  ·exact ⟨o, keep c o (I.cne x c e) hc nch ho (I.freeC x c e), hd⟩
 refine ⟨I.ok, I.os, hg, ⟨λ b o e n hb hx => ?_, λ b o e n hb hx => ?_, λ b o e n hx => ?_, λ b o e hx => ?_, λ b xs e => tups b xs (I.base.tups b xs e), λ b o xs e => frzs b o xs (I.base.frzs b o xs e), λ b ps e => ?_⟩, ?_, λ x c e => ?_, ?_, λ x c e => ?_, λ p hp => ?_, hok, I.len⟩
 ·exact keep b o (neL b o e) hb (neC b o e hx) (I.base.keep b o e n hb hx) (I.base.free b o e n hx)
 ·obtain ⟨sl, e1⟩ := I.base.slot b o e n hb hx
  obtain ⟨sl', e2⟩ := slot b _ (neL b o e) hb (neC b o e hx) e1 (I.base.free b o e n hx)
  exact ⟨sl', e2⟩
 ·obtain ⟨o', e1⟩ := I.base.there b o e hx
  exact free b o' (neC b o e hx) e1 (I.base.free b o e n hx)
 ·obtain ⟨o', e1⟩ := I.base.there b o e hx
  exact there b o' (neC b o e hx) e1
 ·obtain ⟨m1, e1⟩ := I.base.tbls b ps e
  obtain ⟨m2, e2⟩ := tbls b _ e1
  exact ⟨m1 ++ m2, by rw [e2, Array.append_assoc]⟩
 ·obtain ⟨m, hn, hl⟩ := I.loc
  refine ⟨m, ns m hn, λ i x v e1 e2 e3 => ?_⟩
  obtain ⟨u, r, l⟩ := hl i x v e1 e2 e3
  refine ⟨u, r, ?_⟩
  rcases l with l | ⟨k, c, e, z⟩
  ·exact .inl l
  ·exact .inr ⟨k, c, e, cellK x c e _ z⟩
 ·obtain ⟨v, z⟩ := I.cell x c e
  exact ⟨v, cellK x c e v z⟩
 ·obtain ⟨m, ⟨o, _, _, ho, _⟩, _⟩ := I.loc
  exact free _ o (λ z => (hch _ z).2.1 rfl) ho I.free
 ·obtain ⟨v, o, ho, hd⟩ := I.cell x c e
  exact free c o (λ z => (hch c z).2.2.1 x c e rfl) ho (I.freeC x c e)
 ·obtain ⟨e, n, ne, nf, d⟩ := I.pin p hp
  have nch : p.1 ∉ ch := λ z => (hch p.1 z).2.2.2 p hp rfl
  exact ⟨keep p.1 p.2 ne nf nch e n, free p.1 p.2 nch e n, ne, nf, d⟩
theorem Inv.un {t' : Nat} (I : Inv X pins σ H s) (u : Un X.fs [] H H' s.heap h') (hok : HOk X.prog X.w H' h') : Inv X pins σ H' { s with heap := h', toks := t' } := by
 obtain ⟨m, ⟨o, es, ep, ho, r⟩, _⟩ := id I.loc
 obtain ⟨sl, hL⟩ := u.any ho I.free (by simp)
 exact I.step (g' := s.gens) (d' := s.drawn) (ch := []) (λ _ z => nomatch z) (λ b o _ hb _ e n => u.keep b o e n hb (by simp)) (λ b o _ hb _ e n => u.slot b o e n hb (by simp)) (λ b o _ e n => u.free b o e n (by simp)) (λ b o _ e => u.there b o e (by simp)) u.tups u.frzs u.tbls (λ m' hm => by
  obtain ⟨o', es', ep', ho', r'⟩ := hm
  rw [ho] at ho'; cases ho'
  exact ⟨_, es', ep', hL, r'⟩) hok I.bare
theorem Inv.call {g' : Array GenState} {t' : Nat} {d' : Drawn} {ch : List Addr} (I : Inv X pins σ H s) (u : Un (frs X.stack) ch H H' s.heap h') (hok : HOk X.prog X.w H' h') (hg : AllBare g')
  (hch : ∀ b ∈ ch, (b ∈ X.ex \/ X.s₀.heap.objs.size <= b) /\ b ≠ X.env.locals /\ (∀ x c, X.env.cells.lookup x = some c -> c ≠ b) /\ ∀ p ∈ X.pn ++ pins, p.1 ≠ b) :
  Inv X pins σ H' { s with heap := h', gens := g', drawn := d', toks := t' } := by
 obtain ⟨m, ⟨o, es, ep, ho, r⟩, _⟩ := id I.loc
 obtain ⟨sl, hL⟩ := u.any ho I.free λ z => (hch _ z).2.1 rfl
 exact I.step (ch := ch) hch (λ b o hL hb hc e n => u.keep b o e n (λ z => (jAp.mp (I.stkSub b z)).elim hL hb) hc) (λ b o _ _ hc e n => u.any e n hc) (λ b o hc e n => u.free b o e n hc) (λ b o hc e => u.there b o e hc) u.tups u.frzs u.tbls (λ m' hm => by
  obtain ⟨o', es', ep', ho', r'⟩ := hm
  rw [ho] at ho'; cases ho'
  exact ⟨_, es', ep', hL, r'⟩) hok hg
theorem Inv.turned {t' : Nat} {it : Addr} (I : Inv X pins σ H s) (k : ∀ b o, b ≠ it -> s.heap.get? b = some o -> h'.get? b = some o) (hn : H it = none) (hL : it ≠ X.env.locals)
  (h1 : it ∈ X.ex \/ X.s₀.heap.objs.size <= it) (h2 : ∀ x c, X.env.cells.lookup x = some c -> c ≠ it) (h3 : ∀ p ∈ X.pn ++ pins, p.1 ≠ it) : Inv X pins σ H { s with heap := h', toks := t' } := by
 have nit : ∀ b u, H b = some u -> b ≠ it := λ b u e z => by rw [z, hn] at e; cases e
 refine I.step (g' := s.gens) (d' := s.drawn) (ch := [it]) (λ b hb => ?_) (λ b o _ _ hc e _ => k b o (λ z => hc (by simp [z])) e) (λ b o _ _ hc e _ => ⟨o.slots, k b o (λ z => hc (by simp [z])) e⟩) (λ _ _ _ _ n => n)
  (λ b o hc e => ⟨o, k b o (λ z => hc (by simp [z])) e⟩) (λ _ _ e => e) (λ _ _ _ e => e) (λ b ps e => ⟨#[], by rw [e]; simp⟩) (λ m hm => ?_) (λ b u e => ?_) I.bare
 ·have e : b = it := by simpa using hb
  subst e
  exact ⟨h1, hL, h2, h3⟩
 ·obtain ⟨o, es, ep, ho, r⟩ := hm
  exact ⟨o, es, ep, k _ o (Ne.symm hL) ho, r⟩
 ·refine (I.hok b u e).stay (λ c v hc q => k c v ?_ q) (λ _ q => q) λ _ _ q => q
  rcases hc with z | z
  ·rw [z]; exact nit b u e
  ·exact nit c _ z
theorem Inv.tok (I : Inv X pins σ H s) (t : Nat) : Inv X pins σ H { s with toks := t } := I.un (h' := s.heap) (t' := t) Un.refl I.hok
theorem Inv.kept (I : Inv X pins σ H s) (k : ∀ b u, s.heap.get? b = some u -> h'.get? b = some u) : Inv X pins σ H { s with heap := h', toks := t' } := I.un (Un.kept k) (I.hok.kept k)
theorem Inv.laid (I : Inv X pins σ H s) (k : ∀ b u, s.heap.get? b = some u -> h'.get? b = some u) (hp : s.heap.objs.size <= a) (new : qA9 X.prog X.w (upd H a o) h' a o) :
  Inv X pins σ (upd H a o) { s with heap := h', toks := t' } := I.un (Un.laid k hp (I.hok.fresh hp)) (I.hok.laid k hp new)
theorem Inv.write (I : Inv X pins σ H s) (mu : Mut (H x)) (he : e = x \/ H e = some (.own x)) (k : ∀ b u, b ≠ e -> s.heap.get? b = some u -> h'.get? b = some u) (heo : ∃ u, h'.get? e = some u)
  (new : qA9 X.prog X.w (upd H x o) h' x o) : Inv X pins σ (upd H x o) { s with heap := h', toks := t' } := I.un (Un.write mu he k heo) (I.hok.write mu he k heo new)
theorem Inv.pins_of (I : Inv X pins σ H s) (h : ∀ p ∈ pins', s.heap.get? p.1 = some p.2 /\ H p.1 = none /\ p.1 ≠ X.env.locals /\ p.1 ∉ X.fs /\ ∀ v, p.2.data ≠ .cell v) : Inv X pins' σ H s :=
 ⟨I.ok, I.os, I.bare, I.base, I.loc, I.cell, I.free, I.freeC, λ p hp => (jAq.mp hp).elim (λ z => I.pin p (jAr _ z)) (h p), I.hok, I.len⟩
theorem qFq {N : List Str} (hN : N.Nodup) {i j : Nat} {x : Str} (a : N[i]? = some x) (b : N[j]? = some x) : i = j := by
 obtain ⟨h1, e1⟩ := jAs.mp a
 obtain ⟨h2, e2⟩ := jAs.mp b
 exact (List.getElem_inj hN).mp (e1.trans e2.symm)
theorem qD6 {M : Model} {A : Around} {E : Value -> Shared -> Prop} {i : Nat} {x : Str} {v : V} {u : Value} {Q : Unit -> Shared -> Prop} (I : Inv X pins σ H s) (hN : X.N.Nodup) (hi : X.N[i]? = some x) (hx : Loc X.env.scope x) (r : qA6 v u)
  (h : ∀ s', Inv X pins (σ.set i (some v)) H s' -> (∃ a, Heap.SameBut a s.heap s'.heap /\ (a = X.env.locals \/ X.env.cells.lookup x = some a)) -> Q () s') (hf : X.fn x = true \/ X.env.scope.names.lookup x = some .local := by first | exact .inl rfl | exact .inr rfl | assumption) : wpAny M A (storeName X.env x u) Q E s := by
 obtain ⟨m, hn, hl⟩ := id I.loc
 have hcls : (X.env.scope.kind == .class || (X.env.scope.kind == .module && X.env.locals != X.env.globals)) = false := by rw [I.ok.kind]; rfl
 have hiσ : i < σ.length := by rw [I.len]; exact (jAs.mp hi).1
 have cne := I.cne
 have tracked : ∀ {a : Addr} {h' : Heap}, (∃ o, s.heap.get? a = some o /\ H a = none) -> Heap.SameBut a s.heap h' -> HOk X.prog X.w H h' := fun {a h'} ha hs b ob e => by
  obtain ⟨_, _, hfree⟩ := ha
  refine (I.hok b ob e).stay (λ c w' hc q => (hs.2 c ?_).trans q) (λ _ q => q) λ _ _ q => q
  rintro rfl
  rcases hc with rfl | hc
  ·rw [hfree] at e; cases e
  ·rw [hfree] at hc; cases hc
 rcases hx with hk | hk
 ·refine wpAny_storeName_local hk hn (λ h' hn' hs => ?_) hcls
  obtain ⟨oL, _, _, hoL, _⟩ := id hn
  refine h _ ⟨I.ok, I.os, I.bare, ⟨λ b o e n hb hx => ?_, λ b o e n hb hx => ?_, I.base.free, λ b o e hx => ?_, I.base.tups, I.base.frzs, I.base.tbls⟩, ⟨_, hn', λ j y v' e1 e2 e3 => ?_⟩, λ y c e => ?_, I.free, I.freeC, λ p hp => ?_, tracked ⟨oL, hoL, I.free⟩ hs, by simpa using I.len⟩ ⟨_, hs, .inl rfl⟩
  ·exact (hs.2 b (jAf (jAd (jAc e) I.ok.above))).trans (I.base.keep b o e n hb hx)
  ·obtain ⟨sl, e1⟩ := I.base.slot b o e n hb hx
   exact ⟨sl, (hs.2 b (jAf (jAd (jAc e) I.ok.above))).trans e1⟩
  ·obtain ⟨o', e1⟩ := I.base.there b o e hx
   exact ⟨o', (hs.2 b (jAf (jAd (jAc e) I.ok.above))).trans e1⟩
  ·by_cases hj : j = i
   ·subst hj
    rw [hi] at e1; cases e1
    rw [jAt hiσ] at e2
    cases e2
    exact ⟨u, r, .inl ⟨hk, by simp⟩⟩
   ·rw [jAu (Ne.symm hj)] at e2
    obtain ⟨u', r', q⟩ := hl j y v' e1 e2 e3
    refine ⟨u', r', ?_⟩
    rcases q with ⟨k, e⟩ | ⟨k, c, e, z⟩
    ·refine .inl ⟨k, ?_⟩
     have : y ≠ x := λ e => hj (qFq hN e1 (e ▸ hi))
     simp [this, e]
    ·exact .inr ⟨k, c, e, z.sameBut hs (cne y c e)⟩
  ·obtain ⟨w', z⟩ := I.cell y c e
   exact ⟨w', z.sameBut hs (cne y c e)⟩
  ·obtain ⟨e, n, ne, nf, d⟩ := I.pin p hp
   exact ⟨(hs.2 p.1 ne).trans e, n, ne, nf, d⟩
 ·have hfn : X.fn x = true := by
   rcases hf with z | z
   ·exact z
   ·rw [z] at hk; cases hk
  obtain ⟨c, hc⟩ := I.ok.has x (.inl hk)
  obtain ⟨w', z⟩ := I.cell x c hc
  refine wpAny_storeName_cell I.ok.kind hk hc z (λ h' hc' hs => ?_)
  obtain ⟨oc, hoc, hocd⟩ := id z
  refine h { s with heap := h' } ⟨I.ok, I.os, I.bare, ⟨λ b o e n hb hx => ?_, λ b o e n hb hx => ?_, I.base.free, λ b o e hx => ?_, I.base.tups, I.base.frzs, I.base.tbls⟩, ⟨m, hn.sameBut hs (Ne.symm (cne x c hc)), λ j y v' e1 e2 e3 => ?_⟩, λ y c' e => ?_, I.free, I.freeC, λ p hp => ?_, tracked ⟨oc, hoc, I.freeC x c hc⟩ hs, by simpa using I.len⟩ ⟨c, hs, .inr hc⟩
  ·exact (hs.2 b (jAf (jAd (jAc e) (I.ok.cab x c hfn hc)))).trans (I.base.keep b o e n hb hx)
  ·obtain ⟨sl, e1⟩ := I.base.slot b o e n hb hx
   exact ⟨sl, (hs.2 b (jAf (jAd (jAc e) (I.ok.cab x c hfn hc)))).trans e1⟩
  ·obtain ⟨o', e1⟩ := I.base.there b o e hx
   exact ⟨o', (hs.2 b (jAf (jAd (jAc e) (I.ok.cab x c hfn hc)))).trans e1⟩
  ·by_cases hj : j = i
   ·subst hj
    rw [hi] at e1; cases e1
    rw [jAt hiσ] at e2
    cases e2
    exact ⟨u, r, .inr ⟨.inl hk, c, hc, hc'⟩⟩
   ·rw [jAu (Ne.symm hj)] at e2
    obtain ⟨u', r', q⟩ := hl j y v' e1 e2 e3
    refine ⟨u', r', ?_⟩
    rcases q with q | ⟨k, c', e, z'⟩
    ·exact .inl q
    ·refine .inr ⟨k, c', e, z'.sameBut hs ?_⟩
     rintro rfl
     exact hj (qFq hN e1 (I.ok.inj _ _ _ e hc ▸ hi))
  ·by_cases hcc : c' = c
   ·subst hcc; exact ⟨_, hc'⟩
   ·obtain ⟨w2, z2⟩ := I.cell y c' e
    exact ⟨w2, z2.sameBut hs hcc⟩
  ·obtain ⟨e, n, ne, nf, d⟩ := I.pin p hp
   refine ⟨(hs.2 p.1 ?_).trans e, n, ne, nf, d⟩
   intro q
   rw [q, hoc] at e
   have q' : oc = p.2 := Option.some.inj e
   exact d w' (by rw [<- q']; exact hocd)
theorem qC0 (I : Inv X pins σ H s) (hN : X.N.Nodup) (hi : X.N[i]? = some x) (hx : Loc X.env.scope x) (r : qA6 v u)
  (h : ∀ s', Inv X pins (σ.set i (some v)) H s' -> Q () s') (hf : X.fn x = true \/ X.env.scope.names.lookup x = some .local := by first | exact .inl rfl | exact .inr rfl | assumption) : wpAny M A (storeName X.env x u) Q E s :=
 qD6 I hN hi hx r (λ s' I' _ => h s' I') hf
theorem Inv.call' (I : Inv X pins σ H s) (ho : s'.os = s.os) (u : Un (frs X.stack) ch H H' s.heap s'.heap) (hok : HOk X.prog X.w H' s'.heap) (hg : AllBare s'.gens)
  (hch : ∀ b ∈ ch, (b ∈ X.ex \/ X.s₀.heap.objs.size <= b) /\ b ≠ X.env.locals /\ (∀ x c, X.env.cells.lookup x = some c -> c ≠ b) /\ ∀ p ∈ X.pn ++ pins, p.1 ≠ b) : Inv X pins σ H' s' := by
 obtain ⟨h', g', d', t', o'⟩ := s'
 have e : o' = s.os := ho
 subst e
 exact I.call (g' := g') (t' := t') (d' := d') u hok hg hch
end
abbrev XK := Value -> Option Addr -> Hp -> Prop
abbrev St := List (Option V)
abbrev VK := V -> Hp -> Prop
abbrev TE := St -> Hp -> VK -> Prop
abbrev TT := St -> Hp -> (Bool -> Hp -> Prop) -> Prop
abbrev TA := St -> Hp -> (List V -> Hp -> Prop) -> Prop
structure qWe where
 nx : St -> Hp -> Prop
 rt : VK
 bk : St -> Hp -> Prop := λ _ _ => False
 ct : St -> Hp -> Prop := λ _ _ => False
abbrev TS := qWe -> St -> Hp -> Prop
def EP (X : Cx) (pins : List (Addr × Obj)) (σ : St) (Q : VK) (u : Value) (s' : Shared) : Prop := ∃ v H', Inv X pins σ H' s' /\ qA6 v u /\ Q v H'
def TP (X : Cx) (pins : List (Addr × Obj)) (σ : St) (Q : Bool -> Hp -> Prop) (b : Bool) (s' : Shared) : Prop := ∃ H', Inv X pins σ H' s' /\ Q b H'
def AP (X : Cx) (pins : List (Addr × Obj)) (σ : St) (Q : List V -> Hp -> Prop) (us : List Value) (s' : Shared) : Prop := ∃ vs H', Inv X pins σ H' s' /\ qAn vs us /\ Q vs H'
def SP (X : Cx) (pins : List (Addr × Obj)) (D : qWe) (f : Flow) (s' : Shared) : Prop :=
 match f with
 | .next => ∃ σ' H', Inv X pins σ' H' s' /\ D.nx σ' H'
 | .brk => ∃ σ' H', Inv X pins σ' H' s' /\ D.bk σ' H'
 | .cont => ∃ σ' H', Inv X pins σ' H' s' /\ D.ct σ' H'
 | .ret u => ∃ v σ' H', Inv X pins σ' H' s' /\ qA6 v u /\ D.rt v H'
def PE (X : Cx) (e : Expr) (t : TE) : Prop :=
 ∀ (pins : List (Addr × Obj)) (s : Shared) (σ : St) (H : Hp) (Q : VK), Inv X pins σ H s -> t σ H Q -> wpAny (model X.prog X.w) X.A (eval e X.env) (EP X pins σ Q) X.xe s
def PT (X : Cx) (e : Expr) (t : TT) : Prop :=
 ∀ (pins : List (Addr × Obj)) (s : Shared) (σ : St) (H : Hp) (Q : Bool -> Hp -> Prop), Inv X pins σ H s -> t σ H Q -> wpAny (model X.prog X.w) X.A (isTrue e X.env (eval e X.env)) (TP X pins σ Q) X.xe s
def PW (X : Cx) (e : Expr) (t : TT) : Prop :=
 ∀ (whole : Sem Value) (pins : List (Addr × Obj)) (s : Shared) (σ : St) (H : Hp) (Q : Bool -> Hp -> Prop), Inv X pins σ H s -> t σ H Q -> wpAny (model X.prog X.w) X.A (isTrue e X.env whole) (TP X pins σ Q) X.xe s
theorem PW.pt (h : PW X e t) : PT X e t := h _
def PA (X : Cx) (es : List Expr) (t : TA) : Prop :=
 ∀ (pos : Pos) (pins : List (Addr × Obj)) (s : Shared) (σ : St) (H : Hp) (Q : List V -> Hp -> Prop), Inv X pins σ H s -> t σ H Q -> wpAny (model X.prog X.w) X.A (spliced (backTo pos (starEach es X.env))) (AP X pins σ Q) X.xe s
def PS (X : Cx) (st : Stmt) (t : TS) : Prop :=
 ∀ (pins : List (Addr × Obj)) (s : Shared) (σ : St) (H : Hp) (D : qWe), Inv X pins σ H s -> t D σ H -> wpAny (model X.prog X.w) X.A (exec st X.env) (SP X pins D) X.xe s
def PSs (X : Cx) (st : List Stmt) (t : TS) : Prop :=
 ∀ (pins : List (Addr × Obj)) (s : Shared) (σ : St) (H : Hp) (D : qWe), Inv X pins σ H s -> t D σ H -> wpAny (model X.prog X.w) X.A (execs st X.env) (SP X pins D) X.xe s
theorem thn (h : wpAny M A t Q E s) (hQ : ∀ a s, Q a s -> Q' a s) : wpAny M A t Q' E s := wpAny_mono h hQ λ _ _ x => x
end L2
namespace L2
open PySem PySem.Spec PyProof.Rows
section
variable {X : Cx}
def qYw (i : Nat) : TE := λ σ H Q => ∃ v, σ[i]? = some (some v) /\ Q v H
def tC (v : V) : TE := λ _ H Q => Q v H
theorem qTx (hN : X.N[i]? = some x) (hv : Vis X.env.scope x) (hd : (x == ("__debug__" : Str)) = false := by decide) (hcd : (x == ("__classdict__" : Str)) = false := by decide) : PE X (.Name x pos) (qYw i) := by
 intro pins s σ H Q I h
 obtain ⟨v, e, h⟩ := h
 obtain ⟨m, hn, hl⟩ := I.loc
 obtain ⟨u, r, l⟩ := hl i x v hN e hv
 have fin : EP X pins σ Q u s := ⟨v, H, I, r, h⟩
 rcases l with ⟨hk, hm⟩ | ⟨hk, c, hc, hcell⟩
 ·exact wpAny_Name (wpAny_loadName_local I.ok.kind hk hn hm fin) hd
 ·rcases hk with hk | hk
  ·exact wpAny_Name (wpAny_loadName_cell I.ok.kind hk hc hcell fin) hd
  ·exact wpAny_Name (wpAny_loadName_free I.ok.kind hk hc hcell fin hcd) hd
theorem qPr {i j pos} : PE X (.Constant (.int i) j pos) (tC (.int i)) := λ _ _ _ H _ I h => wpAny_Constant_int ⟨.int i, H, I.tok _, ⟨_, rfl⟩, h⟩
theorem qT4 {b j pos} : PE X (.Constant (.bool b) j pos) (tC (.bl b)) := λ _ _ _ H _ I h => Constant_bool ⟨.bl b, H, I, rfl, h⟩
theorem qPq {j pos} : PE X (.Constant .none j pos) (tC .non) := λ _ _ _ H _ I h => Constant_none ⟨.non, H, I, rfl, h⟩
theorem qPp {x j pos} : PE X (.Constant (.str x) j pos) (tC (.str x)) := λ _ _ _ H _ I h => Calls.Constant_str ⟨.str x, H, I.tok _, ⟨_, rfl⟩, h⟩
def Gl (X : Cx) (x : Str) : Prop := X.env.kindOf x = some .globalImplicit
theorem qDf (I : Inv X pins σ H s) (hg : Gl X x) (hm : X.mg x = some u) (h : Q u s)
  (hd : (x == ("__debug__" : Str)) = false := by decide) : wpAny (model X.prog X.w) X.A (eval (.Name x pos) X.env) Q E s :=
 Calls.Name_function_global I.ok.kind hg (Calls.loadGlobal_global (by rw [I.ok.glob]; exact I.mod.glob.keeps I.bk) hm h) hd
theorem qEp (I : Inv X pins σ H s) (hg : Gl X x) (hm : X.mg x = none) (hv : bootBuiltins x = some u) (h : Q u s)
  (hn : x ≠ "__name__" := by decide) (hd : (x == ("__debug__" : Str)) = false := by decide) : wpAny (model X.prog X.w) X.A (eval (.Name x pos) X.env) Q E s := by
 obtain ⟨mb, h1, h2⟩ := I.mod.blt
 exact Calls.Name_function_global I.ok.kind hg (Calls.loadGlobal_builtin (by rw [I.ok.glob]; exact I.mod.glob.keeps I.bk) hm (by rw [I.ok.blt]; exact h1.keeps I.bk) ((h2 x hn).trans hv) h) hd
theorem qB4 (hg : Gl X x) (hm : X.mg x = some u) (r : qA6 v u) (hd : (x == ("__debug__" : Str)) = false := by decide) : PE X (.Name x pos) (tC v) :=
 λ _ _ _ H _ I h => qDf I hg hm ⟨v, H, I, r, h⟩ hd
theorem qLq (hg : Gl X x) (hm : X.mg x = none) (hv : bootBuiltins x = some u) (r : qA6 v u) (hn : x ≠ "__name__" := by decide) (hd : (x == ("__debug__" : Str)) = false := by decide) : PE X (.Name x pos) (tC v) :=
 λ _ _ _ H _ I h => qEp I hg hm hv ⟨v, H, I, r, h⟩ hn hd
variable {a b : Expr} {ta tb : TE} {pos : Pos}
def tB (t : TE) : TT := λ σ H Q => t σ H λ x H1 => ∃ c, x = .bl c /\ Q c H1
theorem qPn (h : PE X e t) (he : ∀ whole, isTrue e X.env whole = (do let v <- whole; standAt e.pos; holding [v] (truthy v)) := by intro _; rfl) : PT X e (tB t) := by
 intro pins s σ H Q I hw
 refine isTrue_plain (thn (h pins s σ H _ I hw) λ v s1 ⟨x, H1, I1, r1, q1⟩ => ?_) (he _)
 obtain ⟨d, rfl, q⟩ := q1
 cases r1
 exact wpAny_truthy_bool ⟨H1, I1, q⟩
variable {tA tB' : TT} {rest : List Expr}
def qY7 (t u : TT) : TT := λ σ H Q => t σ H λ c H1 => if c = true then u σ H1 Q else Q false H1
def tOr (t u : TT) : TT := λ σ H Q => t σ H λ c H1 => if c = true then Q true H1 else u σ H1 Q
def qY1 (t : TT) : TT := λ σ H Q => t σ H λ c H1 => Q (!c) H1
theorem qLb (ha : PT X a tA) : PW X (.BoolOp .And [a] pos) tA := by
 intro wh pins s σ H Q I h
 refine isTrue_and (thn (ha pins s σ H Q I h) λ c s1 e => ?_)
 cases c with
 | true => exact isTrue_and_nil e
 | false => exact e
theorem qPm (ha : PT X a tA) : PW X (.BoolOp .Or [a] pos) tA := by
 intro wh pins s σ H Q I h
 refine isTrue_or (thn (ha pins s σ H Q I h) λ c s1 e => ?_)
 cases c with
 | false => exact isTrue_or_nil e
 | true => exact e
theorem qTl (ha : PT X a tA) (hb : PW X (.BoolOp .And (b :: rest) pos) tB') : PW X (.BoolOp .And (a :: b :: rest) pos) (qY7 tA tB') := by
 intro wh pins s σ H Q I h
 refine isTrue_and (thn (ha pins s σ H _ I h) λ c s1 ⟨H1, I1, q1⟩ => ?_)
 cases c with
 | true => exact hb wh pins s1 σ H1 Q I1 q1
 | false => exact ⟨H1, I1, q1⟩
theorem qW8 (ha : PT X a tA) (hb : PW X (.BoolOp .Or (b :: rest) pos) tB') : PW X (.BoolOp .Or (a :: b :: rest) pos) (tOr tA tB') := by
 intro wh pins s σ H Q I h
 refine isTrue_or (thn (ha pins s σ H _ I h) λ c s1 ⟨H1, I1, q1⟩ => ?_)
 cases c with
 | true => exact ⟨H1, I1, q1⟩
 | false => exact hb wh pins s1 σ H1 Q I1 q1
theorem qTm (ha : PT X a tA) : PT X (.UnaryOp .Not a pos) (qY1 tA) := by
 intro pins s σ H Q I h
 exact isTrue_not (ha pins s σ H (λ c H1 => Q (!c) H1) I h)
def qW2 (ta tb : TE) : TE := λ σ H Q => ta σ H λ x H1 => ∃ c, x = .bl c /\ if c = true then tb σ H1 Q else Q (.bl false) H1
def qWu (ta : TE) : TE := λ σ H Q => ta σ H λ x H1 => ∃ c, x = .bl c /\ Q (.bl (!c)) H1
theorem qLm {op} (h : PE X a t) : PE X (.BoolOp op [a] pos) t := λ pins s σ H Q I hw => BoolOp_one (h pins s σ H Q I hw)
theorem qT5 (ha : PE X a ta) (hb : PE X (.BoolOp .And (b :: rest) pos) tb) : PE X (.BoolOp .And (a :: b :: rest) pos) (qW2 ta tb) := by
 intro pins s σ H Q I h
 refine BoolOp_and (thn (ha pins s σ H _ I h) λ v s1 ⟨x, H1, I1, r1, q1⟩ => ?_)
 obtain ⟨c, rfl, q1⟩ := q1
 cases r1
 refine wpAny_truthy_bool ?_
 cases c with
 | true => exact hb pins s1 σ H1 Q I1 q1
 | false => exact ⟨.bl false, H1, I1, rfl, q1⟩
theorem qT0 (ha : PE X a ta) : PE X (.UnaryOp .Not a pos) (qWu ta) := by
 intro pins s σ H Q I h
 refine UnaryOp_ (thn (ha pins s σ H _ I h) λ v s1 ⟨x, H1, I1, r1, q1⟩ => ?_)
 obtain ⟨c, rfl, q1⟩ := q1
 cases r1
 exact not_of (wpAny_truthy_bool ⟨.bl (!c), H1, I1, rfl, q1⟩)
def tIf (t : TT) (ta tb : TE) : TE := λ σ H Q => t σ H λ c H1 => if c = true then ta σ H1 Q else tb σ H1 Q
theorem qN4 (hc : PT X c tA) (ha : PE X a ta) (hb : PE X b tb) : PE X (.IfExp c a b pos) (tIf tA ta tb) := by
 intro pins s σ H Q I h
 refine wpAny_IfExp (thn (hc pins s σ H _ I h) λ d s1 ⟨H1, I1, q1⟩ => ?_)
 cases d with
 | true => exact ha pins s1 σ H1 Q I1 q1
 | false => exact hb pins s1 σ H1 Q I1 q1
end
end L2
namespace L2
open PySem PySem.Spec PyProof.Rows
def SqL (K : PySem.W.Frag) (H : Hp) (a : Addr) (xs : List V) : Prop :=
 Rd H a (.lst xs) \/
  ∃ (o : Obj) (its : Array Value) (n : Nat), K.lookup a = some o /\ o.cls = .type "list" /\ o.dict = none /\ o.data = .seq its n /\ its.size <= sizeLine /\ qAn xs its.toList
def SqT (K : PySem.W.Frag) (H : Hp) (a : Addr) (xs : List V) : Prop :=
 Rd H a (.tup xs) \/
  ∃ (o : Obj) (its : Array Value) (n : Nat), K.lookup a = some o /\ o.cls = .type "tuple" /\ o.data = .seq its n /\ its.size <= sizeLine /\ qAn xs its.toList
def qZp : Value -> Option V
 | .none => some .non
 | .bool b => some (.bl b)
 | .int i _ => some (.int i)
 | .str x _ => some (.str x)
 | .bytes b _ => some (.byt b)
 | .float b _ => some (.flt b)
 | .ref a => some (.ref a)
 | .type n => some (.ty n)
 | _ => none
theorem qA6.abs (r : qA6 x u) : qZp u = some x := by
 cases x with
 | non => cases r; rfl
 | bl _ => cases r; rfl
 | int _ => obtain ⟨t, rfl⟩ := r; rfl
 | str _ => obtain ⟨t, rfl⟩ := r; rfl
 | byt _ => obtain ⟨t, rfl⟩ := r; rfl
 | flt _ => obtain ⟨t, rfl⟩ := r; rfl
 | ref _ => cases r; rfl
 | ty _ => cases r; rfl
theorem qA6.inj (r : qA6 x u) (q : qA6 y u) : x = y := Option.some.inj (r.abs.symm.trans q.abs)
theorem qAn.inj : ∀ {xs ys : List V} {us : List Value}, qAn xs us -> qAn ys us -> xs = ys
 | _, _, _, .nil, .nil => rfl
 | _, _, _, .cons r t, .cons r' t' => by rw [r.inj r', qAn.inj t t']
section
variable {X : Cx} {pins : List (Addr × Obj)} {σ : St} {H : Hp} {s : Shared} {a : Addr} {xs ys : List V}
theorem SqL.of {K : PySem.W.Frag} (h : H a = some (.lst xs)) : SqL K H a xs := .inl (.inl h)
theorem SqT.of {K : PySem.W.Frag} (h : H a = some (.tup xs)) : SqT K H a xs := .inl (.inl h)
theorem Inv.list (I : Inv X pins σ H s) (h : SqL X.K H a xs) : ∃ its : List Value, qAn xs its /\ PlainL s.heap a its.toArray /\ xs.length <= sizeLine := by
 rcases h with h | ⟨o, its, n, hk, hc, hd, hs, hz, r⟩
 ·obtain ⟨z, its, n, r, e⟩ := h.ok I.hok
  exact ⟨its, r, ⟨_, n, e, rfl, rfl, rfl⟩, z⟩
 ·refine ⟨its.toList, r, ⟨o, n, I.kIn a o hk, hc, hd, by simpa using hs⟩, ?_⟩
  have e := r.length
  simp only [Array.length_toList] at e
  omega
theorem Inv.tuple (I : Inv X pins σ H s) (h : SqT X.K H a xs) : ∃ its : List Value, qAn xs its /\ IsTup s.heap a its.toArray /\ xs.length <= sizeLine := by
 rcases h with h | ⟨o, its, n, hk, hc, hs, hz, r⟩
 ·obtain ⟨z, its, r, p⟩ := h.ok I.hok
  exact ⟨its, r, p, z⟩
 ·refine ⟨its.toList, r, ⟨o, I.kIn a o hk, hc, n, by simpa using hs⟩, ?_⟩
  have e := r.length
  simp only [Array.length_toList] at e
  omega
theorem Inv.list_inj (I : Inv X pins σ H s) (h : SqL X.K H a xs) (h' : SqL X.K H a ys) : xs = ys := by
 obtain ⟨its, r, ⟨o, n, e, _, _, d⟩, _⟩ := I.list h
 obtain ⟨its', r', ⟨o', n', e', _, _, d'⟩, _⟩ := I.list h'
 rw [e] at e'; cases e'
 rw [d] at d'
 injection d' with d1 _
 have : its = its' := by simpa using congrArg Array.toList d1
 subst this
 exact r.inj r'
theorem Inv.tuple_inj (I : Inv X pins σ H s) (h : SqT X.K H a xs) (h' : SqT X.K H a ys) : xs = ys := by
 obtain ⟨its, r, ⟨o, e, _, n, d⟩, _⟩ := I.tuple h
 obtain ⟨its', r', ⟨o', e', _, n', d'⟩, _⟩ := I.tuple h'
 rw [e] at e'; cases e'
 rw [d] at d'
 injection d' with d1 _
 have : its = its' := by simpa using congrArg Array.toList d1
 subst this
 exact r.inj r'
end
abbrev Cx.wish (X : Cx) (E : Value -> Shared -> Prop) : Cx := { X with xe := E }
abbrev Cx.nox (X : Cx) : Cx := X.wish λ _ _ => False
theorem Cx.Ok.wish {X : Cx} (ok : X.Ok) (E : Value -> Shared -> Prop) : (X.wish E).Ok :=
 ⟨ok.mod, ok.kind, ok.glob, ok.blt, ok.above, ok.inj, ok.has, ok.cab, ok.hd, ok.frames, ok.stk, ok.exf, ok.bs, ok.bsz, ok.noex, ok.exfs, ok.funs, ok.frf⟩
theorem Cx.Ok.unwish {X : Cx} {E : Value -> Shared -> Prop} (ok : (X.wish E).Ok) : X.Ok :=
 ⟨ok.mod, ok.kind, ok.glob, ok.blt, ok.above, ok.inj, ok.has, ok.cab, ok.hd, ok.frames, ok.stk, ok.exf, ok.bs, ok.bsz, ok.noex, ok.exfs, ok.funs, ok.frf⟩
section
variable {X : Cx} {pins : List (Addr × Obj)} {σ : St} {H : Hp} {s : Shared} {E : Value -> Shared -> Prop}
theorem Inv.wish (I : Inv X pins σ H s) (E : Value -> Shared -> Prop) : Inv (X.wish E) pins σ H s := ⟨I.ok.wish E, I.os, I.bare, I.base, I.loc, I.cell, I.free, I.freeC, I.pin, I.hok, I.len⟩
theorem Inv.unwish (I : Inv (X.wish E) pins σ H s) : Inv X pins σ H s := ⟨I.ok.unwish, I.os, I.bare, I.base, I.loc, I.cell, I.free, I.freeC, I.pin, I.hok, I.len⟩
theorem SP.unwish (h : SP (X.wish E) pins D f s') : SP X pins D f s' := by
 cases f with
 | next => obtain ⟨σ', H', I, q⟩ := h; exact ⟨σ', H', I.unwish, q⟩
 | brk => obtain ⟨σ', H', I, q⟩ := h; exact ⟨σ', H', I.unwish, q⟩
 | cont => obtain ⟨σ', H', I, q⟩ := h; exact ⟨σ', H', I.unwish, q⟩
 | ret u => obtain ⟨v, σ', H', I, r, q⟩ := h; exact ⟨v, σ', H', I.unwish, r, q⟩
theorem PE.nox (h : PE X.nox e t) : PE X e t := λ pins s σ H Q I hw =>
 wpAny_mono (h pins s σ H Q (I.wish _) hw) (λ _ _ ⟨v, H', I', r, q⟩ => ⟨v, H', I'.unwish, r, q⟩) λ _ _ z => False.elim z
theorem PT.nox (h : PT X.nox e t) : PT X e t := λ pins s σ H Q I hw =>
 wpAny_mono (h pins s σ H Q (I.wish _) hw) (λ _ _ ⟨H', I', q⟩ => ⟨H', I'.unwish, q⟩) λ _ _ z => False.elim z
theorem PSs.nox {st : List Stmt} {t : TS} (h : PSs X.nox st t) : PSs X st t := λ pins s σ H D I hw =>
 wpAny_mono (h pins s σ H D (I.wish _) hw) (λ _ _ q => q.unwish) λ _ _ z => False.elim z
end
section
variable {X : Cx} {st : Stmt} {rest : List Stmt} {t u : TS} {e : Expr} {te : TE} {pos : Pos}
def qWw : TS := λ D σ H => D.nx σ H
def qYy (t u : TS) : TS := λ D σ H => t { D with nx := u D } σ H
theorem qQp : PSs X [] qWw := λ _ _ σ H _ I h => wpAny_execs_nil ⟨σ, H, I, h⟩
theorem qNu (h1 : PS X st t) (h2 : PSs X rest u) : PSs X (st :: rest) (qYy t u) := by
 intro pins s σ H D I h
 refine wpAny_execs_cons (thn (h1 pins s σ H { D with nx := u D } I h) λ f s1 q => ?_)
 cases f with
 | next =>
  obtain ⟨σ', H', I', q⟩ := q
  exact h2 pins s1 σ' H' D I' q
 | ret v => exact q
 | brk => exact q
 | cont => exact q
theorem qLf (h1 : PS X st t) : PSs X [st] t := by
 intro pins s σ H D I h
 refine wpAny_execs_cons (thn (h1 pins s σ H D I h) λ f s1 q => ?_)
 cases f with
 | next => exact wpAny_execs_nil q
 | ret v => exact q
 | brk => exact q
 | cont => exact q
theorem Inv.quiet (I : Inv X pins σ H s) : interactive X.env = false := by simp [interactive, I.ok.kind]
def qWy (te : TE) : TS := λ D σ H => te σ H λ _ H1 => D.nx σ H1
theorem qQq (he : PE X e te) (hs : swapsWith e none pos.line X.env = pure false := by rfl) : PS X (.Expr e pos) (qWy te) := by
 intro pins s σ H D I h
 exact wpAny_Expr_any (thn (he pins s σ H _ I h) λ v s1 ⟨x, H1, I1, r1, q1⟩ => ⟨σ, H1, I1, q1⟩) I.quiet hs
def qYz (te : TE) : TS := λ D σ H => te σ H D.rt
theorem qTo (he : PE X e te) : PS X (.Return (some e) pos) (qYz te) := by
 intro pins s σ H D I h
 exact wpAny_Return_some (thn (he pins s σ H _ I h) λ v s1 ⟨x, H1, I1, r1, q1⟩ => ⟨x, σ, H1, I1, r1, q1⟩)
def qY3 (c : TT) (t u : TS) : TS := λ D σ H => c σ H λ b H1 => if b = true then t D σ H1 else u D σ H1
theorem qW9 (hc : PT X c tc) (ha : PSs X a t) (hb : PSs X b u) : PS X (.If c a b pos) (qY3 tc t u) := by
 intro pins s σ H D I h
 refine wpAny_If (thn (hc pins s σ H _ I h) λ d s1 ⟨H1, I1, q1⟩ => ?_)
 cases d with
 | true => exact ha pins s1 σ H1 D I1 q1
 | false => exact hb pins s1 σ H1 D I1 q1
def qPg : TS := λ _ _ _ => False
theorem qIu : PS X st qPg := λ _ _ _ _ _ _ h => h.elim
theorem qGr : PSs X sts qPg := λ _ _ _ _ _ _ h => h.elim
end
abbrev TG := V -> St -> Hp -> (St -> Hp -> Prop) -> Prop
abbrev TGs := List V -> St -> Hp -> (St -> Hp -> Prop) -> Prop
def PG (X : Cx) (target : Expr) (t : TG) : Prop :=
 ∀ (pins : List (Addr × Obj)) (s : Shared) (σ : St) (H : Hp) (v : V) (u : Value) (Q : St -> Hp -> Prop), Inv X pins σ H s -> qA6 v u -> t v σ H Q ->
  wpAny (model X.prog X.w) X.A (assign target X.env u) (λ _ s' => ∃ σ' H', Inv X pins σ' H' s' /\ Q σ' H') X.xe s
def PGs (X : Cx) (ts : List Expr) (t : TGs) : Prop :=
 ∀ (pins : List (Addr × Obj)) (s : Shared) (σ : St) (H : Hp) (vs : List V) (us : List Value) (Q : St -> Hp -> Prop), Inv X pins σ H s -> qAn vs us -> t vs σ H Q ->
  wpAny (model X.prog X.w) X.A (assignInOrder ((assignEach ts X.env).map (·.2)) us) (λ _ s' => ∃ σ' H', Inv X pins σ' H' s' /\ Q σ' H') X.xe s
abbrev qYq := V -> V -> V -> Hp -> (Hp -> Prop) -> Prop
def qYr (X : Cx) (t : qYq) : Prop :=
 ∀ (pins : List (Addr × Obj)) (s : Shared) (σ : St) (H : Hp) (o i v : V) (ov iv u : Value) (Q : Hp -> Prop), Inv X pins σ H s -> qA6 o ov -> qA6 i iv -> qA6 v u -> t o i v H Q ->
  wpAny (model X.prog X.w) X.A (setItem ov iv u) (λ _ s' => ∃ H', Inv X pins σ H' s' /\ Q H') X.xe s
section
variable {X : Cx} {pos : Pos}
def qR4 (i : Nat) : TG := λ v σ H Q => Q (σ.set i (some v)) H
theorem qQu (hN : X.N.Nodup) (hi : X.N[i]? = some x) (hx : Loc X.env.scope x) (hf : X.fn x = true \/ X.env.scope.names.lookup x = some .local := by first | exact .inl rfl | exact .inr rfl | assumption) : PG X (.Name x pos) (qR4 i) := by
 intro pins s σ H v u Q I r h
 exact wpAny_assign_Name (qC0 I hN hi hx r (λ s' I' => ⟨_, H, I', h⟩) hf)
def qZi : TGs := λ vs σ H Q => vs = [] /\ Q σ H
def qX5 (t : TG) (u : TGs) : TGs := λ vs σ H Q => ∃ v r, vs = v :: r /\ t v σ H λ σ' H' => u r σ' H' Q
theorem qQt : PGs X [] qZi := by
 intro pins s σ H vs us Q I r h
 obtain ⟨e, h⟩ := h
 subst e
 cases r
 exact assignInOrder_nil ⟨σ, H, I, h⟩
theorem qN1 (h1 : PG X e t) (h2 : PGs X es u)
  (hs : (assignEach (e :: es) X.env).map (·.2) = assign e X.env :: (assignEach es X.env).map (·.2) := by rfl) : PGs X (e :: es) (qX5 t u) := by
 intro pins s σ H vs us Q I r h
 obtain ⟨v, vr, e1, h⟩ := h
 subst e1
 cases r with
 | cons r rr =>
  rw [hs]
  refine assignInOrder_cons (thn (h1 pins s σ H _ _ _ I r h) λ _ s1 ⟨σ1, H1, I1, q1⟩ => ?_)
  exact h2 pins s1 σ1 H1 _ _ Q I1 rr q1
def qZg (K : PySem.W.Frag) (n : Nat) (t : TGs) : TG := λ v σ H Q => ∃ a xs, v = .ref a /\ SqT K H a xs /\ xs.length = n /\ t xs σ H Q
theorem qTu (hc : X.calm = true) (h : PGs X es t)
  (hn : (assignEach es X.env).length = n := by rfl) (hst : (assignEach es X.env).findIdx? (·.1) = none := by rfl) : PG X (.Tuple es k pos) (qZg X.K n t) := by
 intro pins s σ H v u Q I r hw
 obtain ⟨a, xs, e1, hq, hl, hw⟩ := hw
 subst e1
 cases r
 obtain ⟨its, rv, ht, hz⟩ := I.tuple hq
 refine assign_Tuple_tuple (I.ok.hd hc) ht (by simp [hn, <- hl, rv.length]) hst λ h' hx => ?_
 have I1 : Inv X pins σ H { s with heap := h' } := I.kept (t' := s.toks) λ b o e => hx b o (jAf (jAc e)) e
 exact h pins _ σ H xs _ Q I1 (by simpa using rv) hw
def qZh (to ti : TE) (t : qYq) : TG := λ v σ H Q => to σ H λ o H1 => ti σ H1 λ i H2 => t o i v H2 λ H3 => Q σ H3
theorem qTv (ho : PE X o to) (hi : PE X i ti) (hs : qYr X t)
  (ha : ∀ v, assign (.Subscript o i pos) X.env v = (do
   let ov <- holding [v] (eval o X.env)
   let iv <- holding [v, ov] (eval i X.env)
   standAt pos
   holding [v, ov, iv] (setItem ov iv v)
   release [v, ov, iv] []) := by intro _; rfl) : PG X (.Subscript o i pos) (qZh to ti t) := by
 intro pins s σ H v u Q I r h
 rw [ha]
 refine wpAny_bind (wpAny_holding (thn (ho pins s σ H _ I h) λ ov s1 ⟨x, H1, I1, r1, q1⟩ => ?_))
 refine wpAny_bind (wpAny_holding (thn (hi pins s1 σ H1 _ I1 q1) λ iv s2 ⟨y, H2, I2, r2, q2⟩ => ?_))
 refine wpAny_bind (wpAny_standAt (wpAny_bind (wpAny_holding (thn (hs pins s2 σ H2 x y v ov iv u _ I2 r1 r2 r q2) λ _ s3 ⟨H3, I3, q3⟩ => ?_))))
 exact wpAny_release ⟨σ, H3, I3, q3⟩
def qW1 (te : TE) (g : TG) : TS := λ D σ H => te σ H λ x H1 => g x σ H1 D.nx
theorem qTs (he : PE X e te) (hg : PG X tg g) (hs : swapsWithSole [tg] e pos.line X.env = pure false := by rfl) (hw : swappedStores [tg] e X.env = pure none := by rfl)
  (h1 : (assignEach [tg] X.env).map (·.2) = [assign tg X.env] := by rfl) : PS X (.Assign [tg] e pos) (qW1 te g) := by
 intro pins s σ H D I h
 refine wpAny_Assign_stores (thn (he pins s σ H _ I h) λ v s1 ⟨x, H1, I1, r1, q1⟩ => ?_) hs hw
 rw [h1]
 exact thn (hg pins s1 σ H1 x v _ I1 r1 q1) λ _ s2 q => q
def qY0 (i j : Nat) (ta : TA) : TS := λ D σ H => ta σ H λ vs H1 => ∃ v w, vs = [v, w] /\ D.nx ((σ.set i (some v)).set j (some w)) H1
theorem qTp {kt k2 pt2} (hc : X.calm = true) (hN : X.N.Nodup) (hi : X.N[i]? = some x) (hj : X.N[j]? = some y) (hij : i ≠ j)
  (hx : X.env.scope.names.lookup x = some .local) (hy : X.env.scope.names.lookup y = some .local) (ha : PA X [a, b] ta)
  (hw : swappedStores [.Tuple [.Name x px, .Name y py] kt pt] (.Tuple [a, b] k2 pt2) X.env = pure (some [x, y]))
  (hs : swapsWithSole [.Tuple [.Name x px, .Name y py] kt pt] (.Tuple [a, b] k2 pt2) pos.line X.env = pure false := by rfl) :
  PS X (.Assign [.Tuple [.Name x px, .Name y py] kt pt] (.Tuple [a, b] k2 pt2) pos) (qY0 i j ta) := by
 intro pins s σ H D I h
 rw [exec_Assign_arm]
 refine wpAny_bind (wpAny_standAt ?_)
 rw [hs]
 refine wpAny_bind (wpAny_pure ?_)
 rw [if_neg (by decide)]
 refine wpAny_bind (Tuple_ (thn (ha _ pins s σ H _ I h) λ us s1 ⟨vs, H1, I1, r1, q1⟩ => ?_))
 obtain ⟨v, w, e1, q1⟩ := q1
 subst e1
 obtain ⟨u1, u2, rfl, rv, rw'⟩ : ∃ u1 u2, us = [u1, u2] /\ qA6 v u1 /\ qA6 w u2 := by
  cases r1 with
  | cons p q =>
   cases q with
   | cons p' q' =>
    cases q'
    exact ⟨_, _, rfl, p, p'⟩
 refine wpAny_newObj_type ?_ (by show 2 <= sizeLine; decide)
 have I2 : Inv X pins σ H1 { s1 with heap := s1.heap.push { cls := .type "tuple", data := .seq [u1, u2].toArray } } := I1.kept (t' := s1.toks) λ b o e => jAv _ e
 rw [hw]
 refine wpAny_bind (wpAny_pure ?_)
 show wpAny (model X.prog X.w) X.A (do rule "assign.swapped-stores"; let items <- unpackItems (.ref s1.heap.objs.size) 2 none; assignInOrder [λ v => bindName X.env y v, λ v => bindName X.env x v] items.reverse; pure Flow.next) _ _ _
 refine wpAny_bind (wpAny_rule (wpAny_bind (unpackItems_tuple (items := #[u1, u2]) (I.ok.hd hc) (IsTup.new s1.heap _) λ h' hx' => ?_)))
 have I3 := I2.kept (h' := h') (t' := s1.toks) λ b o e => hx' b o (jAf (jAc e)) e
 show wpAny _ _ (assignInOrder [λ v => bindName X.env y v, λ v => bindName X.env x v] [u2, u1] >>= λ _ => pure Flow.next) _ _ _
 refine wpAny_bind (assignInOrder_cons (wpAny_bindName (qC0 I3 hN hj (.inl hy) rw' (λ s2 I4 => ?_) (.inr hy))))
 refine assignInOrder_cons (wpAny_bindName (qC0 I4 hN hi (.inl hx) rv (λ s3 I5 => assignInOrder_nil (wpAny_pure ?_)) (.inr hx)))
 rw [List.set_comm _ _ (Ne.symm hij)] at I5
 exact ⟨_, H1, I5, q1⟩
end
section
variable {X : Cx} {pos : Pos}
def qS5 (c : TT) (tb : TS) : TS := λ D σ H => ∃ W : Nat -> St -> Hp -> Prop, (∃ m, W m σ H) /\ ∀ m σ H, W m σ H ->
 c σ H λ b H1 => if b = true then ∃ N : St -> Hp -> Prop, (∀ σ' H', N σ' H' -> ∃ m', m' < m /\ W m' σ' H') /\ tb { D with nx := N, ct := N, bk := D.nx } σ H1 else D.nx σ H1
theorem qNv (hp : PassesOwn (model X.prog X.w) X.A X.env X.xe) (hc : PT X c tc) (hb : PSs X body tb) : PS X (.While c body [] pos) (qS5 tc tb) := by
 intro pins s σ H D I h
 obtain ⟨W, ⟨m0, w0⟩, turn⟩ := h
 refine wpAny_While (codeAny_whileLoop (λ n s' => ∃ σ' H', Inv X pins σ' H' s' /\ W n σ' H') ?_ m0 ⟨σ, H, I, w0⟩)
 rintro n s1 ⟨σ1, H1, I1, w1⟩
 refine wpAny_passesOwn hp (thn (hc pins s1 σ1 H1 _ I1 (turn n σ1 H1 w1)) λ b s2 ⟨H2, I2, q2⟩ => ?_)
 cases b with
 | true =>
  obtain ⟨N, hN, q2⟩ := q2
  rw [if_pos rfl]
  refine wpAny_passesOwn hp (thn (hb pins s2 σ1 H2 _ I2 q2) λ f s3 q3 => ?_)
  cases f with
  | next =>
   obtain ⟨σ3, H3, I3, n3⟩ := q3
   obtain ⟨m', hm, w3⟩ := hN σ3 H3 n3
   exact ⟨m', hm, σ3, H3, I3, w3⟩
  | cont =>
   obtain ⟨σ3, H3, I3, n3⟩ := q3
   obtain ⟨m', hm, w3⟩ := hN σ3 H3 n3
   exact ⟨m', hm, σ3, H3, I3, w3⟩
  | brk => exact q3
  | ret v => exact q3
 | false =>
  rw [if_neg Bool.false_ne_true]
  exact wpAny_execs_nil ⟨σ1, H2, I2, q2⟩
end
structure It where
 go : Nat -> Hp -> Prop
 yld : Nat -> Hp -> V -> Hp -> Prop
 stop : Nat -> Hp -> Prop
def qFi (X : Cx) (pins : List (Addr × Obj)) (H : Hp) (b : Addr) : Prop :=
 H b = none /\ b ≠ X.env.locals /\ b ∉ X.fs /\ (b ∈ X.ex \/ X.s₀.heap.objs.size <= b) /\ (∀ x c, X.env.cells.lookup x = some c -> c ≠ b) /\ ∀ p ∈ X.pn ++ pins, p.1 ≠ b
theorem Inv.fpOk (I : Inv X pins σ H s) (hb : s.heap.objs.size <= b) (hn : H' b = none) : qFi X pins H' b := by
 refine ⟨hn, jAw (jAd I.lt hb), I.nofs hb, .inr (jAk I.sz hb), λ x c e z => ?_, λ p hp z => ?_⟩
 ·obtain ⟨v, q⟩ := I.cell x c e
  exact absurd (jAd q.lt (by rw [z]; exact hb)) (jAe _)
 ·exact absurd (jAd (jAc (I.pin p hp).1) (by rw [z]; exact hb)) (jAe _)
structure qWb (P : Program) (w : World) (K : PySem.W.Frag) (tg : Expr) (J : It) (fp : List Addr) (it : Addr) (tn : Nat -> Heap -> Prop) : Prop where
 mem : it ∈ fp
 obj : ∀ i h, tn i h -> ∀ b ∈ fp, ∃ o, h.get? b = some o /\ ∀ v, o.data ≠ .cell v
 keep : ∀ i h h', tn i h -> (∀ b ∈ fp, ∀ o, h.get? b = some o -> h'.get? b = some o) -> tn i h'
 item : ∀ (X : Cx), X.prog = P -> X.w = w -> X.K = K -> X.calm = true -> ∀ (i : Nat) (pins : List (Addr × Obj)) (s : Shared) (σ : St) (H : Hp) (E : Value -> Shared -> Prop), Inv X pins σ H s -> (∀ b ∈ fp, qFi X pins H b) -> tn i s.heap -> J.go i H ->
  wpAny (model P w) X.A (pyNext (.ref it)) (λ r s1 => ∃ u, r = some u /\
   wpAny (model P w) X.A (letOwnedTupleGo tg (.ref it) u) (λ _ s2 => ∃ x H', Inv X pins σ H' s2 /\ qA6 x u /\ J.yld i H x H' /\ tn (i + 1) s2.heap /\ ∀ b ∈ fp, H' b = none) E s1) E s
 done : ∀ (X : Cx), X.prog = P -> X.w = w -> X.K = K -> X.calm = true -> ∀ (i : Nat) (pins : List (Addr × Obj)) (s : Shared) (σ : St) (H : Hp) (E : Value -> Shared -> Prop), Inv X pins σ H s -> (∀ b ∈ fp, qFi X pins H b) -> tn i s.heap -> J.stop i H ->
  wpAny (model P w) X.A (pyNext (.ref it)) (λ r s1 => r = none /\ Inv X pins σ H s1) E s
 self : ∀ (A : Around) (i : Nat) (s : Shared) (Q : Value -> Shared -> Prop) (E : Value -> Shared -> Prop), tn i s.heap -> Q (.ref it) s -> wpAny (model P w) A (pyIter (.ref it)) Q E s
abbrev TI := St -> Hp -> (It -> Hp -> Prop) -> Prop
def PIE (X : Cx) (pins : List (Addr × Obj)) (σ : St) (tg : Expr) (R : It -> Hp -> Prop) (itv : Value) (s2 : Shared) : Prop :=
 ∃ (it : Addr) (fp : List Addr) (tn : Nat -> Heap -> Prop) (J : It) (H' : Hp), itv = .ref it /\ Inv X pins σ H' s2 /\ qWb X.prog X.w X.K tg J fp it tn /\ tn 0 s2.heap /\ (∀ b ∈ fp, qFi X pins H' b) /\ R J H'
def PI (X : Cx) (tg iter : Expr) (wi : TI) : Prop :=
 ∀ (pins : List (Addr × Obj)) (s : Shared) (σ : St) (H : Hp) (R : It -> Hp -> Prop), Inv X pins σ H s -> wi σ H R ->
  wpAny (model X.prog X.w) X.A (eval iter X.env) (λ v s1 => wpAny (model X.prog X.w) X.A (pyIter v) (PIE X pins σ tg R) X.xe s1) X.xe s
theorem qVm (ho : s.heap.get? it = some o) (hc : o.cls = .type n) (hd : o.data = .fields vs)
    (hn : ["enumerate", "zip", "dict_itemiterator", "dict_reverseitemiterator", "odict_iterator", "itertools.zip_longest", "itertools.pairwise"].contains n = false) (hQ : Q () s) : wpAny M A (letOwnedTupleGo tg (.ref it) u) Q E s := by
  unfold letOwnedTupleGo
  cases tg <;> first
    | exact wpAny_pure hQ
    | (cases u <;> first
        | exact wpAny_pure hQ
        | (refine wpAny_bind (wpAny_load ho ?_)
           rw [hc, hd]
           show wpAny M A (if (["enumerate", "zip", "dict_itemiterator", "dict_reverseitemiterator", "odict_iterator", "itertools.zip_longest", "itertools.pairwise"].contains n && vs[0]? == some (rawInt _)) = true then _ else _) Q E s
           rw [if_neg (by intro h; rw [hn, Bool.false_and] at h; cases h)]
           exact wpAny_pure hQ))
def Itl (K : PySem.W.Frag) (a : Addr) : It :=
 ⟨λ i H => ∃ xs x, SqL K H a xs /\ xs[i]? = some x, λ i H x H' => H' = H /\ ∀ xs, SqL K H a xs -> xs[i]? = some x, λ i H => ∃ xs, SqL K H a xs /\ xs.length <= i⟩
def Itr (lo : Int) (n : Nat) : It := ⟨λ i _ => i < n, λ i H x H' => H' = H /\ x = .int (lo + i), λ i _ => n <= i⟩
theorem qKu {P : Program} {w : World} {K : PySem.W.Frag} {tg : Expr} (a it : Addr) : qWb P w K tg (Itl K a) [it] it (λ i h => h.IsListIter it a i) where
 mem := by simp
 obj := λ i h st b hb => by
  have e : b = it := by simpa using hb
  subst e
  obtain ⟨o, e, c, d⟩ := st
  exact ⟨o, e, λ v z => by rw [d] at z; cases z⟩
 keep := λ i h h' st k => st.at λ o e => k it (by simp) o e
 item := by
  intro X hP hw hK hc i pins s σ H E I hf st hg
  subst hP hw hK
  obtain ⟨xs, x, hq, hx⟩ := hg
  obtain ⟨its, rv, p, hz⟩ := I.list hq
  obtain ⟨u, hu, ru⟩ := rv.get hx
  obtain ⟨f0, f1, f2, f3, f4, f5⟩ := hf it (by simp)
  refine wpAny_pyNext_list_item st p.isList (x := u) (by simpa using hu) λ h' st' sb => ?_
  have I1 : Inv X pins σ H { s with heap := h' } := I.turned (t' := s.toks) (λ b o hb e => (sb.2 b hb).trans e) f0 f1 f3 f4 f5
  obtain ⟨o, e, c, d⟩ := id st'
  exact ⟨u, rfl, qVm (s := { s with heap := h' }) e c d (by decide) ⟨x, H, I1, ru, ⟨rfl, λ ys hy => by rw [I.list_inj hy hq]; exact hx⟩, st', λ b hb => (hf b hb).1⟩⟩
 done := by
  intro X hP hw hK hc i pins s σ H E I hf st hg
  subst hP hw hK
  obtain ⟨xs, hq, hx⟩ := hg
  obtain ⟨its, rv, p, hz⟩ := I.list hq
  obtain ⟨f0, f1, f2, f3, f4, f5⟩ := hf it (by simp)
  have hl := rv.length
  exact wpAny_pyNext_list_end (I.ok.hd hc) st p.isList (by simp; omega) λ h' eb => ⟨rfl, I.turned (t' := s.toks) (λ b o hb e => eb b o hb e) f0 f1 f3 f4 f5⟩
 self := λ _ _ _ _ _ st h => wpAny_pyIter_listiter st h
theorem qJp {P : Program} {w : World} {K : PySem.W.Frag} {tg : Expr} (it : Addr) (lo : Int) (n : Nat) : qWb P w K tg (Itr lo n) [it] it (λ i h => IsRangeIter h it (lo + (i : Nat) * 1) ((n : Int) - (i : Nat)) 1) where
 mem := by simp
 obj := λ i h st b hb => by
  have e : b = it := by simpa using hb
  subst e
  exact ⟨_, st, λ v z => by
   have z' : Data.fields _ = Data.cell v := z
   cases z'⟩
 keep := λ i h h' st k => k it (by simp) _ st
 item := by
  intro X hP hw hK hc i pins s σ H E I hf st hg
  subst hP hw hK
  obtain ⟨f0, f1, f2, f3, f4, f5⟩ := hf it (by simp)
  have W := Walks.range (prog := X.prog) (w := X.w) (I.ok.hd hc) it lo 1 n
  refine W.item i s _ _ hg st λ v h' tk hv st' kk => ?_
  obtain ⟨t, rfl⟩ := hv
  have I1 : Inv X pins σ H { s with heap := h', toks := tk } := I.turned (λ b o hb e => kk b o (by simpa using hb) e) f0 f1 f3 f4 f5
  refine ⟨_, rfl, qVm (s := { s with heap := h', toks := tk }) (n := "range_iterator") st' rfl rfl (by decide) ⟨.int (lo + i), H, I1, ⟨t, ?_⟩, ⟨rfl, rfl⟩, st', λ b hb => (hf b hb).1⟩⟩
  rw [Int.mul_one]
 done := by
  intro X hP hw hK hc i pins s σ H E I hf st hg
  subst hP hw hK
  obtain ⟨f0, f1, f2, f3, f4, f5⟩ := hf it (by simp)
  exact wpAny_pyNext_range_end (I.ok.hd hc) st (by have : n <= i := hg; omega) λ h' eb => ⟨rfl, I.turned (t' := s.toks) (λ b o hb e => eb b o hb e) f0 f1 f3 f4 f5⟩
 self := λ _ _ _ _ _ st h => wpAny_pyIter_rangeiter st h
end L2
namespace L2
open PySem PySem.Spec PyProof.Rows
section
variable {X : Cx} {tg : Expr}
def qX4 (K : PySem.W.Frag) (tl : TE) : TI := λ σ H R => tl σ H λ x H1 => ∃ a, x = .ref a /\ (∃ xs, SqL K H1 a xs) /\ R (Itl K a) H1
theorem qQs {l : Expr} {tl : TE} (hl : PE X l tl) : PI X tg l (qX4 X.K tl) := by
 intro pins s σ H R I h
 refine thn (hl pins s σ H _ I h) λ v s1 ⟨x, H1, I1, r1, q1⟩ => ?_
 obtain ⟨a, e, ⟨xs, hq⟩, q⟩ := q1
 subst e
 cases r1
 obtain ⟨its, rv, p, hz⟩ := I1.list hq
 refine wpAny_pyIter_list p.isList ?_
 refine ⟨s1.heap.objs.size, [s1.heap.objs.size], _, _, H1, rfl, I1.kept (t' := s1.toks) λ b o e => jAv _ e, qKu a _, ⟨_, jAx _ rfl, rfl, rfl⟩, λ b hb => ?_, q⟩
 have e : b = s1.heap.objs.size := by simpa using hb
 subst e
 exact I1.fpOk (jAy _) (I1.hok.fresh (jAy _))
theorem qIr {pins : List (Addr × Obj)} {σ : St} {H : Hp} {s : Shared} {R : It -> Hp -> Prop} {E : Value -> Shared -> Prop} {lo hi : Int} {t u v : Tok} {tk : Nat} (I : Inv X pins σ H s) (h1 : -(2 ^ 62) <= lo) (h2 : lo < 2 ^ 62) (h3 : -(2 ^ 62) <= hi) (h4 : hi < 2 ^ 62)
  (q : R (Itr lo (hi - lo).toNat) H) : wpAny (model X.prog X.w) X.A (pyIter (.ref s.heap.objs.size)) (PIE X pins σ tg R) E { s with heap := s.heap.push { cls := .type "range", data := .fields #[.int lo t, .int hi u, .int 1 v] }, toks := tk } := by
 refine wpAny_pyIter_range (IsRange.new ..) (small_one h1 h2 h3 h4) ?_
 have I1 : Inv X pins σ H { s with heap := s.heap.push { cls := .type "range", data := .fields #[.int lo t, .int hi u, .int 1 v] }, toks := tk } := I.kept λ b o e => jAv _ e
 refine ⟨(s.heap.push { cls := .type "range", data := .fields #[.int lo t, .int hi u, .int 1 v] }).objs.size, [(s.heap.push { cls := .type "range", data := .fields #[.int lo t, .int hi u, .int 1 v] }).objs.size], _, _, H, rfl,
  I1.kept (t' := tk) λ b o e => jAv _ e, qJp _ lo (hi - lo).toNat, ?_, λ b hb => ?_, q⟩
 ·have e1 : lo + ((0 : Nat) : Int) * 1 = lo := by simp
  have e2 : (((hi - lo).toNat : Nat) : Int) - ((0 : Nat) : Int) = Builtin.Range.rangeSize lo hi 1 := by rw [rangeSize_one]; split <;> omega
  show IsRangeIter _ _ (lo + ((0 : Nat) : Int) * 1) ((((hi - lo).toNat : Nat) : Int) - ((0 : Nat) : Int)) 1
  rw [e1, e2]
  exact jAx _ rfl
 ·have e : b = (s.heap.push { cls := .type "range", data := .fields #[.int lo t, .int hi u, .int 1 v] }).objs.size := by simpa using hb
  subst e
  exact I1.fpOk (jAy _) (I1.hok.fresh (jAy _))
def qX3 (ta : TA) : TI := λ σ H R => ta σ H λ vs H1 => ∃ j : Int, vs = [.int j] /\ -(2 ^ 62) <= j /\ j < 2 ^ 62 /\ R (Itr 0 j.toNat) H1
def qX2 (ta : TA) : TI := λ σ H R => ta σ H λ vs H1 => ∃ i j : Int, vs = [.int i, .int j] /\ (-(2 ^ 62) <= i /\ i < 2 ^ 62 /\ -(2 ^ 62) <= j /\ j < 2 ^ 62) /\ R (Itr i (j - i).toNat) H1
theorem qLl {a : Expr} {ta : TA} {p pos : Pos} (hg : Gl X "range") (hm : X.mg "range" = none) (ha : PA X [a] ta) (hs : starEach [a] X.env = [(false, eval a X.env)] := by rfl) : PI X tg (.Call (.Name "range" p) [a] [] pos) (qX3 ta) := by
 intro pins s σ H R I h
 refine Call_ (qEp I hg hm boot_range (PyProof.Rows.callWith_type1 (thn (ha pos pins s σ H _ I h) λ us s1 ⟨vs, H1, I1, r1, q1⟩ => ?_) hs rfl))
 obtain ⟨j, e, q1, q2, q⟩ := q1
 subst e
 cases r1 with
 | cons r rr =>
  cases rr
  obtain ⟨t, rfl⟩ := r
  exact call_range_1 (qIr I1 (by omega) (by omega) q1 q2 (by simpa using q))
theorem qLk (hg : Gl X "range") (hm : X.mg "range" = none) (ha : PA X [a, b] ta) (hs : starEach [a, b] X.env = [(false, eval a X.env), (false, eval b X.env)] := by rfl) (hs2 : starEach [b] X.env = [(false, eval b X.env)] := by rfl) :
  PI X tg (.Call (.Name "range" p) [a, b] [] pos) (qX2 ta) := by
 intro pins s σ H R I h
 refine Call_ (qEp I hg hm boot_range (PyProof.Rows.callWith_type1 (thn (ha pos pins s σ H _ I h) λ us s1 ⟨vs, H1, I1, r1, q1⟩ => ?_) (by rw [hs, hs2]) (by rw [hs2]; rfl)))
 obtain ⟨i, j, e, ⟨q1, q2, q3, q4⟩, q⟩ := q1
 subst e
 cases r1 with
 | cons r rr =>
  cases rr with
  | cons r' rr =>
   cases rr
   obtain ⟨t, rfl⟩ := r
   obtain ⟨t', rfl⟩ := r'
   exact call_range_2 (qIr I1 q1 q2 q3 q4 q)
def qY4 (wi : TI) (g : TG) (tb : TS) : TS := λ D σ H => wi σ H λ J H1 => ∃ W : Nat -> Nat -> St -> Hp -> Prop, (∃ m, W 0 m σ H1) /\ ∀ i m σ H, W i m σ H ->
 (J.stop i H /\ D.nx σ H) \/ (J.go i H /\ ∃ N : St -> Hp -> Prop, (∀ σ' H', N σ' H' -> ∃ m', m' < m /\ W (i + 1) m' σ' H') /\ ∀ x H', J.yld i H x H' -> g x σ H' λ σ2 H2 => tb { D with nx := N, ct := N, bk := D.nx } σ2 H2)
def qCg (fp : List Addr) (h : Heap) : List (Addr × Obj) := fp.filterMap λ b => (h.get? b).map λ o => (b, o)
theorem qAz (hb : b ∈ fp) (e : h.get? b = some o) : (b, o) ∈ qCg fp h := jAz.mpr ⟨b, hb, by rw [e]; rfl⟩
theorem qEg (hp : p ∈ qCg fp h) : p.1 ∈ fp /\ h.get? p.1 = some p.2 := by
 obtain ⟨b, hb, e⟩ := jAz.mp hp
 cases q : h.get? b with
 | none => rw [q] at e; cases e
 | some o =>
  rw [q] at e
  have e' : (b, o) = p := Option.some.inj e
  subst e'
  exact ⟨hb, q⟩
theorem Inv.pinned (I : Inv X pins σ H s) (hf : ∀ b ∈ fp, qFi X pins H b) (ho : ∀ b ∈ fp, ∃ o, s.heap.get? b = some o /\ ∀ v, o.data ≠ .cell v) : Inv X (pins ++ qCg fp s.heap) σ H s :=
 I.pins_of λ p hp => (jAq.mp hp).elim (λ z => I.pin p (jA0 _ z)) λ z => by
  obtain ⟨hb, e⟩ := qEg z
  obtain ⟨f0, f1, f2, _⟩ := hf p.1 hb
  obtain ⟨o, e', d⟩ := ho p.1 hb
  rw [e] at e'; cases e'
  exact ⟨e, f0, f1, f2, d⟩
theorem Inv.unpinned (I : Inv X (pins ++ pl) σ H s) : Inv X pins σ H s := I.pins_of λ p hp => I.pin p (jA0 _ (jAr _ hp))
theorem qTq (hp : PassesOwn (model X.prog X.w) X.A X.env X.xe) (hc : X.calm = true) (hi : PI X tg iter wi) (hg : PG X tg g) (hb : PSs X body tb)
  (hs : ∀ x, foldedSetIterable iter X.env x = pure x := by intro _; rfl) : PS X (.For tg iter body [] pos) (qY4 wi g tb) := by
 intro pins s σ H D I h
 refine wpAny_For (thn (hi pins s σ H _ I h) λ v s1 h1 => thn h1 λ itv s2 h2 => ?_) hs
 obtain ⟨it, fp, tn, J, H2, e, I2, T, st2, f2, W, ⟨m0, w0⟩, turn⟩ := h2
 subst e
 -- what stays true of the iterator's objects through the loop
 have stat : ∀ {H' : Hp}, (∀ b ∈ fp, H' b = none) -> ∀ b ∈ fp, qFi X pins H' b := λ hn b hb => ⟨hn b hb, (f2 b hb).2⟩
 refine codeAny_forLoop_any (λ n s' => ∃ i σ' H', Inv X pins σ' H' s' /\ tn i s'.heap /\ (∀ b ∈ fp, H' b = none) /\ W i n σ' H') ?_ m0 ⟨0, σ, H2, I2, st2, λ b hb => (f2 b hb).1, w0⟩
 rintro n s3 ⟨i, σ3, H3, I3, st3, fr3, w3⟩
 rcases turn i n σ3 H3 w3 with ⟨stop, qn⟩ | ⟨go, N, hN, step⟩
 ·refine wpAny_passesOwn hp (thn (T.done X rfl rfl rfl hc i pins s3 σ3 H3 X.xe I3 (stat fr3) st3 stop) λ r s4 ⟨hr, I4⟩ => ?_)
  subst hr
  exact wpAny_execs_nil ⟨σ3, H3, I4, qn⟩
 ·refine wpAny_passesOwn hp (thn (T.item X rfl rfl rfl hc i pins s3 σ3 H3 X.xe I3 (stat fr3) st3 go) λ r s4 ⟨u, hr, h4⟩ => ?_)
  subst hr
  refine wpAny_passesOwn hp (thn h4 λ _ s5 ⟨x, H5, I5, r5, y5, st5, fr5⟩ => ?_)
  have I5' := I5.pinned (stat fr5) (T.obj _ _ st5)
  refine wpAny_passesOwn hp (thn (hg _ s5 σ3 H5 x u _ I5' r5 (step x H5 y5)) λ _ s6 ⟨σ6, H6, I6, q6⟩ => ?_)
  refine wpAny_passesOwn hp (thn (hb _ s6 σ6 H6 _ I6 q6) λ f s7 q7 => ?_)
  have again : ∀ {σ7 : St} {H7 : Hp}, Inv X (pins ++ qCg fp s5.heap) σ7 H7 s7 -> N σ7 H7 -> ∃ m, m < n /\ ∃ i σ' H', Inv X pins σ' H' s7 /\ tn i s7.heap /\ (∀ b ∈ fp, H' b = none) /\ W i m σ' H' := fun {σ7 H7} I7 n7 => by
   obtain ⟨m', hm, w7⟩ := hN σ7 H7 n7
   refine ⟨m', hm, i + 1, σ7, H7, I7.unpinned, T.keep _ _ _ st5 λ b hb o e => (I7.pin (b, o) (jA0 _ (jA0 _ (qAz hb e)))).1, λ b hb => ?_, w7⟩
   obtain ⟨o, e, d⟩ := T.obj _ _ st5 b hb
   exact (I7.pin (b, o) (jA0 _ (jA0 _ (qAz hb e)))).2.1
  cases f with
  | next => obtain ⟨σ7, H7, I7, n7⟩ := q7; exact again I7 n7
  | cont => obtain ⟨σ7, H7, I7, n7⟩ := q7; exact again I7 n7
  | brk => obtain ⟨σ7, H7, I7, q7⟩ := q7; exact ⟨σ7, H7, I7.unpinned, q7⟩
  | ret v => obtain ⟨x7, σ7, H7, I7, r7, q7⟩ := q7; exact ⟨x7, σ7, H7, I7.unpinned, r7, q7⟩
end
end L2
namespace L2
open PySem PySem.Spec PyProof.Rows
abbrev R2 := V -> V -> Hp -> VK -> Prop
def OpR (X : Cx) (f : Value -> Value -> Sem Value) (r : R2) : Prop :=
 ∀ (pins : List (Addr × Obj)) (s : Shared) (σ : St) (H : Hp) (x y : V) (v u : Value) (Q : VK), Inv X pins σ H s -> qA6 x v -> qA6 y u -> r x y H Q ->
  wpAny (model X.prog X.w) X.A (f v u) (EP X pins σ Q) X.xe s
def UnR (X : Cx) (f : Value -> Sem Value) (r : V -> Hp -> VK -> Prop) : Prop :=
 ∀ (pins : List (Addr × Obj)) (s : Shared) (σ : St) (H : Hp) (x : V) (v : Value) (Q : VK), Inv X pins σ H s -> qA6 x v -> r x H Q ->
  wpAny (model X.prog X.w) X.A (f v) (EP X pins σ Q) X.xe s
def qBm (X : Cx) (f : Value) (r : List V -> Hp -> VK -> Prop) : Prop :=
 ∀ (pins : List (Addr × Obj)) (s : Shared) (σ : St) (H : Hp) (xs : List V) (us : List Value) (Q : VK), Inv X pins σ H s -> qAn xs us -> r xs H Q ->
  wpAny (model X.prog X.w) X.A (call f us) (EP X pins σ Q) X.xe s
def qZq (X : Cx) (r : V -> Hp -> (Bool -> Hp -> Prop) -> Prop) : Prop :=
 ∀ (pins : List (Addr × Obj)) (s : Shared) (σ : St) (H : Hp) (x : V) (v : Value) (Q : Bool -> Hp -> Prop), Inv X pins σ H s -> qA6 x v -> r x H Q ->
  wpAny (model X.prog X.w) X.A (truthy v) (TP X pins σ Q) X.xe s
def tOp (r : R2) (ta tb : TE) : TE := λ σ H Q => ta σ H λ x H1 => tb σ H1 λ y H2 => r x y H2 Q
def tUn (r : V -> Hp -> VK -> Prop) (ta : TE) : TE := λ σ H Q => ta σ H λ x H1 => r x H1 Q
def rI (C : Int -> Int -> Prop) (g : Int -> Int -> V) : R2 := λ x y H Q => ∃ i j, x = .int i /\ y = .int j /\ C i j /\ Q (g i j) H
def rI0 (g : Int -> Int -> V) : R2 := λ x y H Q => ∃ i j, x = .int i /\ y = .int j /\ Q (g i j) H
def rU (g : Int -> V) : V -> Hp -> VK -> Prop := λ x H Q => ∃ i, x = .int i /\ Q (g i) H
section
variable {X : Cx} {a b c : Expr} {ta tb tc : TE} {pos : Pos}
theorem qX8 (ha : PE X a ta) (hb : PE X b tb) {pins : List (Addr × Obj)} {s : Shared} {σ : St} {H : Hp} {R : V -> V -> Hp -> Prop} (I : Inv X pins σ H s)
  (h : ta σ H λ x H1 => tb σ H1 λ y H2 => R x y H2) {Q : Value -> Shared -> Prop} {f : Value -> Value -> Sem Value}
  (hf : ∀ v u s2 x y H2, Inv X pins σ H2 s2 -> qA6 x v -> qA6 y u -> R x y H2 -> wpAny (model X.prog X.w) X.A (f v u) Q X.xe s2) :
  wpAny (model X.prog X.w) X.A (eval a X.env) (λ v s₁ => wpAny (model X.prog X.w) X.A (eval b X.env) (λ u s₂ => wpAny (model X.prog X.w) X.A (f v u) Q X.xe s₂) X.xe s₁) X.xe s := by
 refine thn (ha pins s σ H _ I h) λ v s1 ⟨x, H1, I1, r1, q1⟩ => ?_
 refine thn (hb pins s1 σ H1 _ I1 q1) λ u s2 ⟨y, H2, I2, r2, q2⟩ => ?_
 exact hf v u s2 x y H2 I2 r1 r2 q2
theorem qTz {op : Operator} {r : R2} (ho : OpR X (binaryOp op) r) (ha : PE X a ta) (hb : PE X b tb) : PE X (.BinOp a op b pos) (tOp r ta tb) := by
 intro pins s σ H Q I h
 exact wpAny_BinOp (qX8 ha hb I h λ v u s2 x y H2 I2 rx ry q => ho pins s2 σ H2 x y v u Q I2 rx ry q)
theorem qXa (ho : UnR X (unaryOp op) r) (ha : PE X a ta) : PE X (.UnaryOp op a pos) (tUn r ta) := by
 intro pins s σ H Q I h
 exact UnaryOp_ (thn (ha pins s σ H _ I h) λ v s1 ⟨x, H1, I1, r1, q1⟩ => ho pins s1 σ H1 x v Q I1 r1 q1)
theorem opI {f : Value -> Value -> Sem Value} {C : Int -> Int -> Prop} {g : Int -> Int -> Int}
  (rule : ∀ (i j : Int) (t u : Tok) (s : Shared) (Q : Value -> Shared -> Prop) (E : Value -> Shared -> Prop), C i j -> Q (.int (g i j) s.toks) { s with toks := s.toks + 1 } -> wpAny (model X.prog X.w) X.A (f (.int i t) (.int j u)) Q E s) :
  OpR X f (rI C λ i j => .int (g i j)) := by
 intro pins s σ H x y v u Q I rx ry h
 obtain ⟨i, j, rfl, rfl, hc, q⟩ := h
 obtain ⟨t, rfl⟩ := rx
 obtain ⟨t', rfl⟩ := ry
 exact rule i j t t' s _ _ hc ⟨.int (g i j), H, I.tok _, ⟨_, rfl⟩, q⟩
theorem qYl {f : Value -> Value -> Sem Value} {g : Int -> Int -> Int}
  (rule : ∀ (i j : Int) (t u : Tok) (s : Shared) (Q : Value -> Shared -> Prop) (E : Value -> Shared -> Prop), Q (.int (g i j) s.toks) { s with toks := s.toks + 1 } -> wpAny (model X.prog X.w) X.A (f (.int i t) (.int j u)) Q E s) :
  OpR X f (rI0 λ i j => .int (g i j)) := by
 intro pins s σ H x y v u Q I rx ry h
 obtain ⟨i, j, rfl, rfl, q⟩ := h
 obtain ⟨t, rfl⟩ := rx
 obtain ⟨t', rfl⟩ := ry
 exact rule i j t t' s _ _ ⟨.int (g i j), H, I.tok _, ⟨_, rfl⟩, q⟩
theorem qWl {f : Value -> Value -> Sem Value} {g : Int -> Int -> Bool}
  (rule : ∀ (i j : Int) (t u : Tok) (s : Shared) (Q : Value -> Shared -> Prop) (E : Value -> Shared -> Prop), Q (.bool (g i j)) s -> wpAny (model X.prog X.w) X.A (f (.int i t) (.int j u)) Q E s) :
  OpR X f (rI0 λ i j => .bl (g i j)) := by
 intro pins s σ H x y v u Q I rx ry h
 obtain ⟨i, j, rfl, rfl, q⟩ := h
 obtain ⟨t, rfl⟩ := rx
 obtain ⟨t', rfl⟩ := ry
 exact rule i j t t' s _ _ ⟨.bl (g i j), H, I, rfl, q⟩
def qYu (i j : Int) : Prop := 0 <= j /\ j <= 1000000 /\ i.natAbs < 2 ^ 64
def qYv (i j : Int) : Prop := (-(2 ^ 64) < i /\ i < 2 ^ 64) \/ (-(2 ^ 64) < j /\ j < 2 ^ 64)
theorem qYv.ok (h : qYv i j) : IntMulOk i j := by
 rcases h with ⟨h1, h2⟩ | ⟨h1, h2⟩
 ·exact .of_left (intBits_le_64 h1 h2)
 ·exact .of_right (intBits_le_64 h1 h2)
theorem qUz : OpR X (binaryOp .Add) (rI0 λ i j => .int (i + j)) := qYl λ _ _ _ _ _ _ _ q => add_int q
theorem qUs : OpR X (binaryOp .Sub) (rI0 λ i j => .int (i - j)) := qYl λ _ _ _ _ _ _ _ q => sub_int q
theorem qRp : OpR X (binaryOp .Mod) (rI (λ _ j => j ≠ 0) λ i j => .int (i.fmod j)) := opI λ _ _ _ _ _ _ _ hc q => mod_int' hc q
theorem qUu : OpR X (binaryOp .Pow) (rI qYu λ i j => .int (i ^ j.toNat)) := opI λ _ _ _ _ _ _ _ hc q => pow_int_small hc.1 hc.2.1 hc.2.2 q
theorem unI {f : Value -> Sem Value} {g : Int -> Int}
  (rule : ∀ (i : Int) (t : Tok) (s : Shared) (Q : Value -> Shared -> Prop) (E : Value -> Shared -> Prop), Q (.int (g i) s.toks) { s with toks := s.toks + 1 } -> wpAny (model X.prog X.w) X.A (f (.int i t)) Q E s) :
  UnR X f (rU λ i => .int (g i)) := by
 intro pins s σ H x v Q I rx h
 obtain ⟨i, rfl, q⟩ := h
 obtain ⟨t, rfl⟩ := rx
 exact rule i t s _ _ ⟨.int (g i), H, I.tok _, ⟨_, rfl⟩, q⟩
theorem qSw : UnR X (unaryOp .USub) (rU λ i => .int (-i)) := unI λ _ _ _ _ _ q => neg_int q
end
section
variable {X : Cx} {a b c : Expr} {ta tb tc : TE} {pos : Pos}
theorem qVo (I : Inv X pins σ H s) (q : Q (.bl k) H) (e : k = k') : EP X pins σ Q (.bool k') s := by
 subst e
 exact ⟨.bl k, H, I, rfl, q⟩
theorem qUw : OpR X (compareOp .Lt) (rI0 λ i j => .bl (decide (i < j))) := qWl λ _ _ _ _ _ _ _ q => lt_int q
theorem qOg : OpR X (compareOp .LtE) (rI0 λ i j => .bl (decide (i <= j))) := qWl λ _ _ _ _ _ _ _ q => le_int q
theorem qXr : OpR X (compareOp .Gt) (rI0 λ i j => .bl (decide (j < i))) := qWl λ _ _ _ _ _ _ _ q => gt_int q
theorem qXs : OpR X (compareOp .GtE) (rI0 λ i j => .bl (decide (j <= i))) := qWl λ _ _ _ _ _ _ _ q => ge_int q
theorem qUx : OpR X (compareOp .Is) (λ x y H Q => y = .non /\ Q (.bl (decide (x = .non))) H) := by
 intro pins s σ H x y v u Q I rx ry h
 obtain ⟨rfl, q⟩ := h
 cases ry
 refine is_none_gen (qVo I q ?_)
 cases x <;> first
  | (cases rx; rfl)
  | (obtain ⟨t, rfl⟩ := rx; rfl)
theorem OpR.or (h : OpR X f r) (h' : OpR X f r') : OpR X f (λ x y H Q => r x y H Q \/ r' x y H Q) := by
 intro pins s σ H x y v u Q I rx ry q
 rcases q with q | q
 ·exact h pins s σ H x y v u Q I rx ry q
 ·exact h' pins s σ H x y v u Q I rx ry q
theorem zW (b : Expr) (h : op ≠ .In := by decide) (h2 : op ≠ .NotIn := by decide) : behindInMarks op b = false := by
 have e1 : (op == CmpOp.In) = false := by cases op <;> first | rfl | exact absurd rfl h
 have e2 : (op == CmpOp.NotIn) = false := by cases op <;> first | rfl | exact absurd rfl h2
 cases b <;> simp [behindInMarks, e1, e2]
theorem qLp (ho : OpR X (compareOp op) r) (ha : PE X a ta) (hb : PE X b tb) (hm : behindInMarks op b = false) : PE X (.Compare a [op] [b] pos) (tOp r ta tb) := by
 intro pins s σ H Q I h
 exact wpAny_Compare1 (qX8 ha hb I h λ v u s2 x y H2 I2 rx ry q => ho pins s2 σ H2 x y v u Q I2 rx ry q) hm
def qS6 (t : TE) : TT := λ σ H Q => t σ H λ x H' => ∃ k, x = .bl k /\ Q k H'
theorem qLd (ho : OpR X (compareOp op) r) (ha : PE X a ta) (hb : PE X b tb) (hm : behindInMarks op b = false) : PT X (.Compare a [op] [b] pos) (qS6 (tOp r ta tb)) := by
 intro pins s σ H Q I h
 refine wpAny_isTrue_Compare1 (thn (ha pins s σ H _ I h) λ v s1 ⟨x, H1, I1, r1, q1⟩ => thn (hb pins s1 σ H1 _ I1 q1) λ u s2 ⟨y, H2, I2, r2, q2⟩ =>
  thn (ho pins s2 σ H2 x y v u _ I2 r1 r2 q2) λ c s3 ⟨z, H3, I3, r3, k, e, q3⟩ => ?_) hm
 subst e
 cases r3
 exact wpAny_truthy_bool ⟨H3, I3, q3⟩
def qK2 (r r' : R2) (ta tb tc : TE) : TE := λ σ H Q => ta σ H λ x H1 => tb σ H1 λ y H2 => r x y H2 λ z H3 => ∃ k, z = .bl k /\
 (if k = true then tc σ H3 λ w' H4 => r' y w' H4 Q else Q (.bl false) H3)
theorem qIw (ho : OpR X (compareOp op) r) (ho' : OpR X (compareOp op') r') (ha : PE X a ta) (hb : PE X b tb) (hc : PE X c tc)
  (hm : lastMarks [op, op'] [b, c] = false := by with_unfolding_all rfl) : PE X (.Compare a [op, op'] [b, c] pos) (qK2 r r' ta tb tc) := by
 intro pins s σ H Q I h
 refine Compare_chain (thn (ha pins s σ H _ I h) λ v s1 ⟨x, H1, I1, r1, q1⟩ => chain_link (thn (hb pins s1 σ H1 _ I1 q1) λ u s2 ⟨y, H2, I2, r2, q2⟩ =>
  thn (ho pins s2 σ H2 x y v u _ I2 r1 r2 q2) λ d s3 ⟨z, H3, I3, r3, k, e, q3⟩ => ?_)) hm
 subst e
 cases r3
 refine wpAny_truthy_bool ?_
 cases k with
 | false => exact ite_ff ⟨.bl false, H3, I3, rfl, q3⟩
 | true => exact ite_tt (chain_last (thn (hc pins s3 σ H3 _ I3 q3) λ w' s4 ⟨z', H4, I4, r4, q4⟩ => ho' pins s4 σ H4 y z' u w' Q I4 r2 r4 q4))
theorem qIt (ho : OpR X (compareOp op) r) (ho' : OpR X (compareOp op') r') (ha : PE X a ta) (hb : PE X b tb) (hc : PE X c tc)
  (hm : lastMarks [op, op'] [b, c] = false := by with_unfolding_all rfl) : PT X (.Compare a [op, op'] [b, c] pos) (qS6 (qK2 r r' ta tb tc)) := by
 intro pins s σ H Q I h
 refine isTrue_chain (thn (ha pins s σ H _ I h) λ v s1 ⟨x, H1, I1, r1, q1⟩ => test_link (thn (hb pins s1 σ H1 _ I1 q1) λ u s2 ⟨y, H2, I2, r2, q2⟩ =>
  thn (ho pins s2 σ H2 x y v u _ I2 r1 r2 q2) λ d s3 ⟨z, H3, I3, r3, k, e, q3⟩ => ?_)) hm
 subst e
 cases r3
 refine wpAny_truthy_bool ?_
 cases k with
 | false =>
  obtain ⟨k', e', q'⟩ := q3
  cases e'
  exact ite_ff ⟨H3, I3, q'⟩
 | true =>
  refine ite_tt (test_last (thn (hc pins s3 σ H3 _ I3 q3) λ w' s4 ⟨z', H4, I4, r4, q4⟩ => thn (ho' pins s4 σ H4 y z' u w' _ I4 r2 r4 q4) λ d' s5 ⟨z2, H5, I5, r5, k2, e2, q5⟩ => ?_))
  subst e2
  cases r5
  exact wpAny_truthy_bool ⟨H5, I5, q5⟩
def qX9 (K : PySem.W.Frag) (x : V) (H : Hp) (k : Bool) : Prop :=
 match x with
 | .non => k = false
 | .bl b => k = b
 | .int i => k = (i != 0)
 | .str y => y.length <= sizeLine /\ k = ((y.length : Int) != 0)
 | .byt y => y.size <= sizeLine /\ k = ((y.size : Int) != 0)
 | .ref p => (∃ xs, SqL K H p xs /\ k = !xs.isEmpty) \/ (∃ xs, SqT K H p xs /\ k = !xs.isEmpty) \/ ∃ kvs, H p = some (.dK kvs) /\ k = !kvs.isEmpty
 | _ => False
theorem qJ8 (r : KV kvs vs) : (!vs.isEmpty) = !kvs.isEmpty := by
 cases r <;> rfl
theorem qE9 (r : qAn xs its) : (!its.toArray.isEmpty) = !xs.isEmpty := by
 cases r <;> simp
theorem qE7 : (sizeLine : Nat) < 2 ^ 63 := by rw [sizeLine_eq]; decide
theorem qS1 : qZq X (λ x H Q => ∃ k, qX9 X.K x H k /\ Q k H) := by
 intro pins s σ H x v Q I rx h
 obtain ⟨k, e, q⟩ := h
 have hl := qE7
 have hs : sizeLine = 16777216 := sizeLine_eq
 cases x with
 | non =>
  cases rx
  have e' : k = false := e
  subst e'
  exact truthy_none ⟨H, I, q⟩
 | bl b =>
  cases rx
  have e' : k = b := e
  subst e'
  exact wpAny_truthy_bool ⟨H, I, q⟩
 | int i =>
  obtain ⟨t, rfl⟩ := rx
  have e' : k = (i != 0) := e
  subst e'
  exact PySem.P.truthy_int ⟨H, I, q⟩
 | str y =>
  obtain ⟨t, rfl⟩ := rx
  obtain ⟨hy, e'⟩ : y.length <= sizeLine /\ k = ((y.length : Int) != 0) := e
  subst e'
  exact PySem.P.truthy_str (by omega) ⟨H, I.tok _, q⟩
 | byt y =>
  obtain ⟨t, rfl⟩ := rx
  obtain ⟨hy, e'⟩ : y.size <= sizeLine /\ k = ((y.size : Int) != 0) := e
  subst e'
  exact PySem.W.truthy_bytes (by omega) ⟨H, I.tok _, q⟩
 | ref p =>
  cases rx
  have e' : (∃ xs, SqL X.K H p xs /\ k = !xs.isEmpty) \/ (∃ xs, SqT X.K H p xs /\ k = !xs.isEmpty) \/ ∃ kvs, H p = some (.dK kvs) /\ k = !kvs.isEmpty := e
  rcases e' with ⟨xs, hx, e'⟩ | ⟨xs, hx, e'⟩ | ⟨kvs, hx, e'⟩
  ·subst e'
   obtain ⟨its, r, pl, hz⟩ := I.list hx
   have hlen := r.length
   exact wpAny_truthy_list pl.isList (by simp only [jA1]; omega) ⟨H, I.tok _, by rw [qE9 r]; exact q⟩
  ·subst e'
   obtain ⟨its, r, pl, hz⟩ := I.tuple hx
   have hlen := r.length
   exact truthy_tuple pl (by simp only [jA1]; omega) ⟨H, I.tok _, by rw [qE9 r]; exact q⟩
  ·subst e'
   obtain ⟨hz, hS, vs, r, m⟩ : kvs.length <= sizeLine /\ (p == sysModules) = false /\ ∃ vs, KV kvs vs /\ s.heap.DictOf (qH1 X.prog X.w) p vs := I.hok p _ hx
   have hlen : kvs.length = vs.length := Paired.length r
   exact wpAny_truthy_dict hS m (by omega) ⟨H, I.tok _, by rw [qJ8 r]; exact q⟩
 | _ => exact (show False from e).elim
theorem qJ0 : OpR X (binaryOp .Add) (λ x y H Q => ∃ i j, x = .str i /\ y = .str j /\ i.length + j.length <= sizeLine /\ Q (.str (i ++ j)) H) := by
 intro pins s σ H x y v u Q I rx ry h
 obtain ⟨i, j, rfl, rfl, hz, q⟩ := h
 obtain ⟨t, rfl⟩ := rx
 obtain ⟨t', rfl⟩ := ry
 exact add_str (λ t' tk => ⟨.str (i ++ j), H, I.tok _, ⟨_, rfl⟩, q⟩) hz
theorem qJo (r : qAn [x] us) : ∃ u, us = [u] /\ qA6 x u := by
 cases r with
 | cons r1 r2 => cases r2; exact ⟨_, rfl, r1⟩
theorem qP6 (r : qAn [x, y] us) : ∃ u w', us = [u, w'] /\ qA6 x u /\ qA6 y w' := by
 cases r with
 | cons r1 r2 =>
  cases r2 with
  | cons r3 r4 => cases r4; exact ⟨_, _, rfl, r1, r3⟩
theorem qO9 : qBm X (.builtin "abs") (λ xs H Q => ∃ i, xs = [.int i] /\ Q (.int (if i < 0 then -i else i)) H) := by
 intro pins s σ H xs us Q I r h
 obtain ⟨i, rfl, q⟩ := h
 obtain ⟨u, rfl, t, rfl⟩ := qJo r
 exact call_abs_int λ u tk => ⟨.int (if i < 0 then -i else i), H, I.tok _, ⟨_, rfl⟩, q⟩
theorem qMw (hc : X.calm = true) : qBm X (.builtin "max") (λ xs H Q => ∃ i j, xs = [.int i, .int j] /\ Q (.int (if j > i then j else i)) H) := by
 intro pins s σ H xs us Q I r h
 obtain ⟨i, j, rfl, q⟩ := h
 obtain ⟨u, w', rfl, ⟨t, rfl⟩, ⟨t', rfl⟩⟩ := qP6 r
 refine max_two_ints (I.ok.hd hc) λ h' tk k => ⟨_, H, I.kept k, ?_, q⟩
 by_cases hj : j > i
 ·rw [if_pos hj, if_pos hj]; exact ⟨_, rfl⟩
 ·rw [if_neg hj, if_neg hj]; exact ⟨_, rfl⟩
theorem qMv (hc : X.calm = true) : qBm X (.builtin "min") (λ xs H Q => ∃ i j, xs = [.int i, .int j] /\ Q (.int (if j < i then j else i)) H) := by
 intro pins s σ H xs us Q I r h
 obtain ⟨i, j, rfl, q⟩ := h
 obtain ⟨u, w', rfl, ⟨t, rfl⟩, ⟨t', rfl⟩⟩ := qP6 r
 refine min_two_ints (I.ok.hd hc) λ h' tk k => ⟨_, H, I.kept k, ?_, q⟩
 by_cases hj : j < i
 ·rw [if_pos hj, if_pos hj]; exact ⟨_, rfl⟩
 ·rw [if_neg hj, if_neg hj]; exact ⟨_, rfl⟩
end
end L2
namespace L2
open PySem PySem.Spec PyProof.Rows
structure qSg (h : Heap) (x dx C : Addr) (mA : Str -> Option Value) : Prop where
 obj : h.get? x = some (jAa C dx)
 ns : h.Ns1 dx mA
 ne : dx ≠ x
theorem qMa {h : Heap} {dx : Addr} {mA : Str -> Option Value} (n : h.Ns1 dx mA) : ∃ od, h.get? dx = some od /\ ∀ name, jA2 name od = some (mA name) := by
 obtain ⟨o, es, ep, ho, hd, hk, _, hm⟩ := n
 refine ⟨o, ho, λ name => ?_⟩
 have e := hm name
 unfold nsFind findBy at e
 rw [<- Array.find?_toList] at e
 unfold jA2
 rw [hd]
 dsimp only
 split
 ·rename_i y q
  rw [q] at e
  exact congrArg some e
 ·rename_i q
  rw [q] at e
  have a : es.toList.any (·.refKey) = false := by
   rw [List.any_eq_false]
   intro y hy
   obtain ⟨z, t, hkey⟩ := hk y (Array.mem_toList_iff.mp hy)
   simp [DictEntry.refKey, hkey]
  have a' : ¬ es.toList.any (·.refKey) = true := by rw [a]; exact Bool.false_ne_true
  rw [if_neg a']
  exact congrArg some e
theorem qSg.look (I : qSg h x dx C mA) : ∃ od, PySem.W.InstAt h x (jAa C dx) C (some od) /\ ∀ name, jA2 name od = some (mA name) :=
 let ⟨od, ho, hl⟩ := qMa I.ns
 ⟨od, ⟨I.obj, rfl, rfl, ho⟩, hl⟩
section
variable {prog : Program} {w : World} {A : Around} {E : Value -> Shared -> Prop} {s : Shared} {K : PySem.W.Frag} {x dx C f : Addr} {mA : Str -> Option Value} {name : Str} {v : Value}
theorem qIa (X : K.In s.heap) (I : qSg s.heap x dx C mA) (hg : jA3 K C name = true) (hh : jA4 K C = true)
  (ha : jA5 K (.ref C) name = some none) (hv : mA name = some v) (hv' : PySem.W.handedIn v = true) (h : Q v { s with toks := s.toks + 1 }) :
  wpAny (model prog w) A (getAttr (.ref x) name expr) Q E s := by
 obtain ⟨od, J, hl⟩ := I.look
 exact PySem.W.get_value X J (jA6 hg).1 (PySem.W.findObj_own hh ha rfl (by rw [hl, hv])) hv' h
theorem qO1 (X : K.In s.heap) (I : qSg s.heap x dx C mA) (hg : jA3 K C name = true)
  (hf : jA5 K (.ref C) name = some (some (.ref f))) (ht : jA7 K (.ref f) = true) (hv : mA name = none) (h : Q (.ref f, [.ref x]) s) :
  wpAny (model prog w) A (getMethod (.ref x) name pl) Q E s := by
 obtain ⟨od, J, hl⟩ := I.look
 exact PySem.W.method_fn X J (jA6 hg).1 (jA6 hg).2 hf (beq_iff_eq.mp ht) (by show (jA2 name od).map (·.isSome) = some false; rw [hl, hv]; rfl) h
theorem qQg (X : K.In s.heap) (I : qSg s.heap x dx C mA)
  (hs : jA5 K (.ref C) "__setattr__" = some (some (.builtin "object.__setattr__"))) (hp : jA8 K C = true) (ht : jA9 K C name = some none) (hh : jA4 K C = true)
  (hw : PySem.Within mA ns) (hsz : ns.length <= sizeLine)
  (h : ∀ h', qSg h' x dx C (λ y => if y = name then some v else mA y) -> Heap.SameBut dx s.heap h' -> Q () { s with heap := h', toks := s.toks + 2 }) :
  wpAny (model prog w) A (setAttr (.ref x) name v) Q E s := by
 obtain ⟨od, J, hl⟩ := I.look
 refine PySem.W.set_plain X J hs (PySem.W.osa_open (s := { s with toks := s.toks + 1 }) (r := none) X J hp ht λ b => ?_)
 obtain ⟨cd, hc, hd'⟩ := PySem.W.any_some hh
 have hx : s.heap.get? x = some ⟨.ref C, some dx, .plain, #[]⟩ := I.obj
 refine wpAny_bind (wpAny_pure (wpAny_bind (wpAny_bind (wpAny_loadPart hx (wpAny_bind (PySem.W.Looks.here (s := { s with toks := s.toks + 1 }) (PySem.W.looks_clsIn X hc) ?_))))))
 rw [hd']
 refine wpAny_pure (a := some dx) (wpAny_bind (wpAny_pure (wpAny_bind ?_)))
 refine wpAny_nsSet1 (s := { s with toks := s.toks + 1 }) I.ns λ h' hn2 hs2 => ?_
 obtain ⟨oD, esD, epD, hoD, hdD, hcD⟩ := hn2.count (PySem.Within.cons name v hw)
 refine wpAny_bind (wpAny_lookBehind hoD (by rw [hdD]; exact pastItsLine_dict (jAk hcD (by rw [jBa]; omega))) ?_)
 exact wpAny_pure (h _ ⟨(hs2.2 _ (Ne.symm I.ne)).trans I.obj, hn2, I.ne⟩ hs2)
theorem qOr (X : K.In s.heap) (hm : jBb K C = true)
  (hi : jA5 K (.ref C) "__init__" = some (some (.ref f))) (hf : PySem.W.typeIn K (.ref f) = some (.type "function"))
  (h : codeAny (model prog w) (A.under (.builtin "type.__call__" ⟨.ref C :: vs, kw⟩)) (.call (.ref f) ⟨.ref (s.heap.objs.size + 1) :: vs, kw⟩) (PySem.W.InitBack (s.heap.objs.size + 1) R)
   { s with heap := (s.heap.push jBc).push (jAa C s.heap.objs.size) }) :
  codeAny (model prog w) A (.call (.ref C) ⟨vs, kw⟩) R s := by
 obtain ⟨hh, g, d, t, os⟩ := s
 exact PySem.W.make_core (PySem.W.makes_of X hm) (jBd X hi) (λ self => PySem.W.bind_fn X self hf) (.inl rfl) h
end
def qEb (f : Str) (v : V) : List (Str × V) -> List (Str × V)
 | [] => [(f, v)]
 | (g, x) :: r => if g = f then (g, v) :: r else (g, x) :: qEb f v r
theorem qEl (f g : Str) (v : V) : ∀ fs : List (Str × V), (qEb f v fs).lookup g = if g = f then some v else fs.lookup g
 | [] => by
  show jBe g [(f, v)] = _
  by_cases h : g = f
  ·have hb : (g == f) = true := beq_iff_eq.mpr h
   simp only [jBe, hb, if_pos h]
  ·have hb : (g == f) = false := beq_eq_false_iff_ne.mpr h
   simp only [jBe, hb, if_neg h]
 | (k, x) :: r => by
  have ih := qEl f g v r
  rw [show qEb f v ((k, x) :: r) = (if k = f then (k, v) :: r else (k, x) :: qEb f v r) from rfl]
  by_cases hk : k = f
  ·rw [if_pos hk]
   by_cases h : g = k
   ·have hb : (g == k) = true := beq_iff_eq.mpr h
    simp only [jBe, hb, if_pos (h.trans hk)]
   ·have hb : (g == k) = false := beq_eq_false_iff_ne.mpr h
    simp only [jBe, hb, if_neg (λ e : g = f => h (e.trans hk.symm))]
  ·rw [if_neg hk]
   by_cases h : g = k
   ·have hb : (g == k) = true := beq_iff_eq.mpr h
    simp only [jBe, hb, if_neg (λ e : g = f => hk (h.symm.trans e))]
   ·have hb : (g == k) = false := beq_eq_false_iff_ne.mpr h
    simp only [jBe, hb]
    exact ih
theorem qEq (f : Str) (v : V) : ∀ fs : List (Str × V), f ∈ (qEb f v fs).map (·.1) /\ ∀ g, g ∈ fs.map (·.1) -> g ∈ (qEb f v fs).map (·.1)
 | [] => ⟨by simp [qEb], λ g h => by simp at h⟩
 | (k, x) :: r => by
  obtain ⟨i1, i2⟩ := qEq f v r
  rw [show qEb f v ((k, x) :: r) = (if k = f then (k, v) :: r else (k, x) :: qEb f v r) from rfl]
  by_cases hk : k = f
  ·rw [if_pos hk]
   subst hk
   exact ⟨by simp, λ g h => by simpa using h⟩
  ·rw [if_neg hk]
   refine ⟨?_, λ g h => ?_⟩
   ·rw [jBf]
    exact jAo _ i1
   ·rw [jBf] at h ⊢
    rcases jAp.mp h with e | e
    ·exact jAp.mpr (.inl e)
    ·exact jAo _ (i2 g e)
theorem qEo (f : Str) (v : V) : ∀ fs : List (Str × V), (qEb f v fs).length <= fs.length + 1
 | [] => by simp [qEb]
 | (k, x) :: r => by
  have ih := qEo f v r
  rw [show qEb f v ((k, x) :: r) = (if k = f then (k, v) :: r else (k, x) :: qEb f v r) from rfl]
  by_cases hk : k = f
  ·rw [if_pos hk, jBa, jBa]; omega
  ·rw [if_neg hk, jBa, jBa]; omega
theorem qNh.some_of (r : qNh (some v) o) : ∃ u, o = some u /\ qA6 v u := by
 cases o with
 | none => exact (show False from r).elim
 | some u => exact ⟨u, rfl, r⟩
theorem qNh.none_of (r : qNh none o) : o = none := by
 cases o with
 | none => rfl
 | some u => exact (show False from r).elim
theorem qMi (r : qA6 v u) : PySem.W.handedIn u = true := by
 cases v with
 | non => cases (show u = Value.none from r); rfl
 | bl b => cases (show u = Value.bool b from r); rfl
 | int i => obtain ⟨t, e⟩ := (show ∃ t, u = Value.int i t from r); cases e; rfl
 | str x => obtain ⟨t, e⟩ := (show ∃ t, u = Value.str x t from r); cases e; rfl
 | byt b => obtain ⟨t, e⟩ := (show ∃ t, u = Value.bytes b t from r); cases e; rfl
 | flt b => obtain ⟨t, e⟩ := (show ∃ t, u = Value.float b t from r); cases e; rfl
 | ref a => cases (show u = Value.ref a from r); rfl
 | ty n => cases (show u = Value.type n from r); rfl
section
variable {P : Program} {w : World} {H H' : Hp} {h h' : Heap} {a C dx : Addr} {fs fs' : List (Str × V)}
theorem qH9 (hok : HOk P w H h) (e : H a = some (.ins C dx fs)) : ∃ mA, qSg h a dx C mA /\ (∀ f, qNh (fs.lookup f) (mA f)) /\ PySem.Within mA (fs.map (·.1)) /\ fs.length <= 1000 /\ H dx = some (.own a) := by
 obtain ⟨d, z, ne, ob, mA, n, r, q⟩ := (show qA9 P w H h a (.ins C dx fs) from hok a _ e)
 exact ⟨mA, ⟨ob, n, ne⟩, r, q, z, d⟩
end
structure Cls (K : PySem.W.Frag) (C : Addr) : Prop where
 pg : jA3 K C Str.empty = true
 hd : jA4 K C = true
 po : jA8 K C = true
 sa : jA5 K (.ref C) "__setattr__" = some (some (.builtin "object.__setattr__"))
theorem Cls.get {K : PySem.W.Frag} {C : Addr} (c : Cls K C) (f : Str) : jA3 K C f = true := c.pg
def qDc (K : PySem.W.Frag) (C : Addr) (f : Str) : Prop := jA5 K (.ref C) f = some none
theorem qDc.taker {K : PySem.W.Frag} {C : Addr} {f : Str} (n : qDc K C f) : jA9 K C f = some none := by
 unfold jA9
 rw [show jA5 K (.ref C) f = some none from n]
 rfl
structure qP2 (K : PySem.W.Frag) (C : Addr) (m : Str) (f : Addr) : Prop where
 at_ : jA5 K (.ref C) m = some (some (.ref f))
 fn : jA7 K (.ref f) = true
 kp : jBg K (.ref f) = true
section
variable {X : Cx} {pins : List (Addr × Obj)} {σ : St} {H : Hp} {s : Shared} {a C dx : Addr} {fs : List (Str × V)} {f : Str} {v : V} {A : Around} {E : Value -> Shared -> Prop}
theorem qJ9 (I : Inv X pins σ H s) (e : H a = some (.ins C dx fs)) (c : Cls X.K C) (n : qDc X.K C f) (l : fs.lookup f = some v)
  (h : ∀ u s', Inv X pins σ H s' -> qA6 v u -> Q u s') : wpAny (model X.prog X.w) A (getAttr (.ref a) f b) Q E s := by
 obtain ⟨mA, O, r, _, _, _⟩ := qH9 I.hok e
 obtain ⟨u, hu, ru⟩ := qNh.some_of (v := v) (o := mA f) (by rw [<- l]; exact r f)
 exact qIa I.kIn O (c.get f) c.hd n hu (qMi ru) (h u _ (I.tok _) ru)
theorem qFa (I : Inv X pins σ H s) (e : H a = some (.ins C dx fs)) (c : Cls X.K C) (k : qP2 X.K C m g) (l : fs.lookup m = none)
  (h : Q (.ref g, [.ref a]) s) : wpAny (model X.prog X.w) A (getMethod (.ref a) m pl) Q E s := by
 obtain ⟨mA, O, r, _, _, _⟩ := qH9 I.hok e
 have hn : mA m = none := qNh.none_of (by rw [<- l]; exact r m)
 exact qO1 I.kIn O (c.get m) k.at_ k.fn hn h
theorem qJs (I : Inv X pins σ H s) (e : H a = some (.ins C dx fs)) (c : Cls X.K C) (n : qDc X.K C f) (hl : fs.length < 1000) (ry : qA6 y u)
  (h : ∀ s', Inv X pins σ (upd H a (.ins C dx (qEb f y fs))) s' -> Q () s') : wpAny (model X.prog X.w) A (setAttr (.ref a) f u) Q E s := by
 obtain ⟨mA, O, r, wi, _, ho⟩ := qH9 I.hok e
 have hz : (fs.map (·.1)).length <= sizeLine := by rw [jBh, sizeLine_eq]; omega
 refine qQg I.kIn O c.sa c.po n.taker c.hd wi hz λ h' O' sb => h _ ?_
 have hd : ∃ o, h'.get? dx = some o := let ⟨o, _, _, e', _⟩ := O'.ns; ⟨o, e'⟩
 refine I.write (x := a) (e := dx) (by rw [e]; exact True.intro) (.inr ho) (λ b q hb z => (sb.2 b hb).trans z) hd ?_
 refine ⟨by rw [zN O.ne]; exact ho, ?_, O.ne, O'.obj, _, O'.ns, λ g => ?_, λ g hg => ?_⟩
 ·have := qEo f y fs; omega
 ·show qNh ((qEb f y fs).lookup g) (if g = f then some u else mA g)
  rw [qEl]
  by_cases q : g = f
  ·rw [if_pos q, if_pos q]; exact ry
  ·rw [if_neg q, if_neg q]; exact r g
 ·by_cases q : g = f
  ·rw [q]; exact (qEq f y fs).1
  ·refine (qEq f y fs).2 g (wi g λ z => hg ?_)
   show (if g = f then some u else mA g) = none
   rw [if_neg q]; exact z
theorem Inv.made (I : Inv X pins σ H s) : Inv X pins σ (upd (upd H s.heap.objs.size (.own (s.heap.objs.size + 1))) (s.heap.objs.size + 1) (.ins C s.heap.objs.size []))
  { s with heap := (s.heap.push jBc).push (jAa C s.heap.objs.size) } := by
 have e1 : (s.heap.push jBc).get? s.heap.objs.size = some jBc := jAx s.heap rfl
 have e2 : ((s.heap.push jBc).push (jAa C s.heap.objs.size)).get? (s.heap.objs.size + 1) = some (jAa C s.heap.objs.size) := by
  have := jAx (s.heap.push jBc) (o := jAa C s.heap.objs.size) rfl
  rwa [jBi] at this
 have e3 : (s.heap.push jBc).Ns s.heap.objs.size (λ _ => none) := ⟨jBc, #[], _, e1, rfl, (λ e he => absurd he (by simp)), λ _ => rfl⟩
 have I1 := I.laid (a := s.heap.objs.size) (o := .own (s.heap.objs.size + 1)) (h' := s.heap.push jBc) (t' := s.toks) (λ b u q => jAv _ q) (jAy _) ⟨_, e1⟩
 refine I1.laid (a := s.heap.objs.size + 1) (o := .ins C s.heap.objs.size []) (t' := s.toks) (λ b u q => jAv _ q) (Nat.le_of_eq (jBi _ _)) ?_
 have ne : s.heap.objs.size ≠ s.heap.objs.size + 1 := jAf (jBj _)
 refine ⟨by rw [zN ne, zT], jBk _, ne, e2, λ _ => none, (Heap.Ns1.of_empty e3).at λ o q => jAv _ q, λ _ => True.intro, λ y hy => absurd rfl hy⟩
theorem qSc (hb : attributeBase e f env (eval e env) = eval e env)
  (h : wpAny (model prog w) A (eval e env) (λ o s₁ => wpAny (model prog w) A (getAttr o f true) Q E s₁) E s) : wpAny (model prog w) A (eval (.Attribute e f pos) env) Q E s :=
 Attribute_any_ h (by rw [arm_eval_Attribute, hb])
end
def qY5 (K : PySem.W.Frag) (ta : TE) (f : Str) : TE := λ σ H Q => ta σ H λ x H1 => ∃ a C dx fs v, x = .ref a /\ H1 a = some (.ins C dx fs) /\ Cls K C /\ qDc K C f /\ fs.lookup f = some v /\ Q v H1
def qY8 (K : PySem.W.Frag) (ta tv : TE) (f : Str) : TS := λ D σ H => tv σ H λ y H1 => ta σ H1 λ x H2 => ∃ a C dx fs, x = .ref a /\ H2 a = some (.ins C dx fs) /\ Cls K C /\ qDc K C f /\ fs.length < 1000 /\
 D.nx σ (upd H2 a (.ins C dx (qEb f y fs)))
section
variable {X : Cx} {o e value : Expr} {f : Str} {pos pos' tpos : Pos} {ta tv : TE}
theorem qT3 (he : PE X e ta) (hb : attributeBase e f X.env (eval e X.env) = eval e X.env) : PE X (.Attribute e f pos) (qY5 X.K ta f) := by
 intro pins s σ H Q I h
 refine qSc hb (thn (he pins s σ H _ I h) λ u s1 ⟨x, H1, I1, rx, a, C, dx, fs, v, ex, ea, c, n, l, q⟩ => ?_)
 subst ex
 obtain rfl : u = Value.ref a := rx
 exact qJ9 I1 ea c n l λ u' s2 I2 ru => ⟨v, H1, I2, ru, q⟩
theorem qTr (ha : PE X o ta) (hv : PE X value tv) (hs : swapsWith value (some (.Attribute o f pos')) pos.line X.env = pure false) : PS X (.Assign [.Attribute o f pos'] value pos) (qY8 X.K ta tv f) := by
 intro pins s σ H D I h
 refine plainObj_wpAny_Assign_Attribute (thn (hv pins s σ H _ I h) λ u s1 ⟨y, H1, I1, ry, q⟩ => thn (ha pins s1 σ H1 _ I1 q) λ ov s2 ⟨x, H2, I2, rx, a, C, dx, fs, ex, ea, c, n, l, q2⟩ => ?_) hs
 subst ex
 obtain rfl : ov = Value.ref a := rx
 exact qJs I2 ea c n l ry λ s3 I3 => ⟨σ, _, I3, q2⟩
end
end L2
namespace L2
open PySem PySem.Spec PyProof.Rows
structure qBd (k : Nat) (A : Around) : Prop where
 hd : A.handled = none
 dp : A.depth + 3 * k + 120 < recursionLimit
 un : A.units + 16 * k + 200 < cLine
theorem qBd.mono (r : qBd k A) (h : j <= k) : qBd j A := ⟨r.hd, by have := r.dp; omega, by have := r.un; omega⟩
theorem qBd.deeper (r : qBd (k + 1) A) (env : Env) : qBd k (A.deeper env) :=
 ⟨r.hd, by have := r.dp; show A.depth + 1 + 3 * k + 120 < _; omega, by have := r.un; show A.units + 3 + 16 * k + 200 < _; omega⟩
theorem qJ5 {A : Around} {C : Addr} {us : List Value} {kw : List (Str × Value)} : (A.under (.builtin "type.__call__" ⟨.ref C :: us, kw⟩)).depth = A.depth + 1 := by
 first | rfl | simp [Around.under, Code.weight, Code.isCreation, Code.isGuard, Code.isCaller, Code.frames, Code.isFrame, guardIds]
theorem qJ4 {A : Around} {C : Addr} {us : List Value} {kw : List (Str × Value)} : (A.under (.builtin "type.__call__" ⟨.ref C :: us, kw⟩)).units = A.units + 1 := by
 first | rfl | simp [Around.under, Code.cUnits, Code.frames, Code.isFrame]
theorem qBd.make (r : qBd (k + 1) A) (C : Addr) (us : List Value) (kw : List (Str × Value)) : qBd k (A.under (.builtin "type.__call__" ⟨.ref C :: us, kw⟩)) :=
 ⟨r.hd, by have := r.dp; rw [qJ5]; omega, by have := r.un; rw [qJ4]; omega⟩
theorem qBd.depth (r : qBd k A) : A.depth < recursionLimit := by have := r.dp; omega
theorem qBd.units (r : qBd k A) : A.units + 64 < cLine := by have := r.un; omega
def qWv : TA := λ _ H Q => Q [] H
def qWz (ta : TE) (tr : TA) : TA := λ σ H Q => ta σ H λ x H1 => tr σ H1 λ xs H2 => Q (x :: xs) H2
section
variable {X : Cx} {e : Expr} {es : List Expr} {te : TE} {t : TA} {pos : Pos}
theorem qEf : PA X [] qWv := λ _ _ _ _ H Q I h => Calls.spliced_nil ⟨[], H, I, .nil, h⟩
theorem qAr (ha : PE X e te) (hr : PA X es t) (hs : starEach (e :: es) X.env = (false, eval e X.env) :: starEach es X.env := by rfl) : PA X (e :: es) (qWz te t) := by
 intro pos pins s σ H Q I h
 rw [hs]
 show wpAny _ _ (spliced ((false, eval e X.env) :: backTo pos (starEach es X.env))) _ _ s
 refine Calls.spliced_cons (thn (ha pins s σ H _ I h) λ u s1 ⟨x, H1, I1, r1, q1⟩ => ?_)
 exact thn (hr pos pins s1 σ H1 _ I1 q1) λ us s2 ⟨xs, H2, I2, r2, q2⟩ => ⟨x :: xs, H2, I2, .cons r1 r2, q2⟩
def qYx (t : TA) : TE := λ σ H Q => t σ H λ xs H1 => xs.length <= sizeLine /\ ∀ p, H1 p = none -> Q (.ref p) (upd H1 p (.tup xs))
def qY2 (t : TA) : TE := λ σ H Q => t σ H λ xs H1 => xs.length <= sizeLine /\ ∀ p, H1 p = none -> Q (.ref p) (upd H1 p (.lst xs))
theorem qPo {x1} (h : PA X es t) : PE X (.Tuple es x1 pos) (qYx t) := by
 intro pins s σ H Q I hq
 refine wpAny_Tuple_spliced (thn (h pos pins s σ H _ I hq) λ us s1 ⟨xs, H1, I1, r, z, q⟩ => ⟨by rw [<- r.length]; exact z, ?_⟩)
 have hf : H1 s1.heap.objs.size = none := I1.hok.fresh (jAy _)
 refine ⟨.ref s1.heap.objs.size, upd H1 s1.heap.objs.size (.tup xs), I1.laid (t' := s1.toks) (λ b u e => jAv _ e) (jAy _) ?_, rfl, q _ hf⟩
 exact ⟨z, us, r, ⟨_, jAx _ rfl, rfl, _, rfl⟩⟩
theorem qT1 (h : PA X es t) : PE X (.List es pos) (qY2 t) := by
 intro pins s σ H Q I hq
 refine wpAny_List_spliced (thn (h pos pins s σ H _ I hq) λ us s1 ⟨xs, H1, I1, r, z, q⟩ => ⟨by rw [<- r.length]; exact z, ?_⟩)
 have hf : H1 s1.heap.objs.size = none := I1.hok.fresh (jAy _)
 refine ⟨.ref s1.heap.objs.size, upd H1 s1.heap.objs.size (.lst xs), I1.laid (t' := s1.toks) (λ b u e => jAv _ e) (jAy _) ?_, rfl, q _ hf⟩
 exact ⟨z, us, 0, r, jAx _ rfl⟩
end
abbrev Sp := List V -> Hp -> VK -> XK -> Prop
abbrev CXT := List Env -> Hp -> Shared -> XK -> Value -> Shared -> Prop
structure qSj (P : Program) (w : World) (K : PySem.W.Frag) (mg : Str -> Option Value) (base : Heap) (A : Around) (outer : List Env) (s : Shared) (H : Hp) : Prop where
 frames : A.frames = some outer
 mod : Mod K mg base
 bs : ∀ b o, base.get? b = some o -> s.heap.get? b = some o /\ H b = none
 bsz : base.objs.size <= s.heap.objs.size
 funs : s.heap.FunFrames base outer
 frf : ∀ b ∈ frs outer, H b = none
 hok : HOk P w H s.heap
 bare : AllBare s.gens
def CE (outer : List Env) (P : Program) (w : World) (H : Hp) (s : Shared) (Q : VK) (u : Value) (s' : Shared) : Prop :=
 ∃ v H', s'.os = s.os /\ AllBare s'.gens /\ Un (frs outer) [] H H' s.heap s'.heap /\ HOk P w H' s'.heap /\ qA6 v u /\ Q v H'
def CR (CX : CXT) (outer : List Env) (P : Program) (w : World) (H : Hp) (s : Shared) (Q : VK) (E : XK) (r : Result) (s' : Shared) : Prop :=
 match r with
 | .ok (.ret u) => CE outer P w H s Q u s'
 | .ok _ => False
 | .error e => CX outer H s E e s'
structure qCf (P : Program) (w : World) (K : PySem.W.Frag) (mg : Str -> Option Value) (base : Heap) (CX : CXT) (k : Nat) (f : Addr) (fd : FuncData) (ps : List Str) (sp : Sp) : Prop where
 len : ∀ vs H Q E, sp vs H Q E -> vs.length = ps.length
 run : ∀ (A : Around) (outer : List Env) (s : Shared) (H : Hp) (args : Args) (us : List Value) (vs : List V) (Q : VK) (E : XK), qBd k A -> qSj P w K mg base A outer s H -> BindsTo s fd args (ps.zip us) -> qAn vs us -> sp vs H Q E ->
  codeAny (model P w) A (.call (.ref f) args) (CR CX outer P w H s Q E) s
theorem qCf.mono {P : Program} {w : World} {K : PySem.W.Frag} {mg : Str -> Option Value} {base : Heap} {CX : CXT} {j k : Nat} {f : Addr} {fd : FuncData} {ps : List Str} {sp : Sp} (F : qCf P w K mg base CX j f fd ps sp) (h : j <= k) :
  qCf P w K mg base CX k f fd ps sp := ⟨F.len, λ A outer s H args us vs Q E hr => F.run A outer s H args us vs Q E (hr.mono h)⟩
theorem qCf.imp {P : Program} {w : World} {K : PySem.W.Frag} {mg : Str -> Option Value} {base : Heap} {CX : CXT} {k : Nat} {f : Addr} {fd : FuncData} {ps : List Str} {sp sp' : Sp} (F : qCf P w K mg base CX k f fd ps sp)
  (h : ∀ vs H Q E, sp' vs H Q E -> sp vs H Q E) : qCf P w K mg base CX k f fd ps sp' :=
 ⟨λ vs H Q E q => F.len vs H Q E (h _ _ _ _ q), λ A outer s H args us vs Q E hr he hb hv hs => F.run A outer s H args us vs Q E hr he hb hv (h _ _ _ _ hs)⟩
theorem qSj.make {P : Program} {w : World} {K : PySem.W.Frag} {mg : Str -> Option Value} {base : Heap} {A : Around} {outer : List Env} {s : Shared} {H : Hp} (e : qSj P w K mg base A outer s H) (C : Addr) (us : List Value) (kw : List (Str × Value)) :
  qSj P w K mg base (A.under (.builtin "type.__call__" ⟨.ref C :: us, kw⟩)) outer s H := ⟨by first | exact e.frames | (simpa [Around.under, Code.envs, Code.isFrame, pushEnvs] using e.frames), e.mod, e.bs, e.bsz, e.funs, e.frf, e.hok, e.bare⟩
section
variable {X : Cx} {pins : List (Addr × Obj)} {σ : St} {H : Hp} {s s' : Shared}
theorem Inv.env0 (I : Inv X pins σ H s) : qSj X.prog X.w X.K X.mg X.base X.A X.stack s H :=
 ⟨I.ok.frames, I.ok.mod, I.bs, jAk I.ok.bsz I.sz, I.stack, I.stkFree, I.hok, I.bare⟩
theorem Inv.after (I : Inv X pins σ H s) (h : CE X.stack X.prog X.w H s Q u s') : EP X pins σ Q u s' := by
 obtain ⟨v, H', os, bare, un, hok, r, q⟩ := h
 obtain ⟨hh, g, d, t, os'⟩ := s'
 obtain rfl : os' = s.os := os
 exact ⟨v, H', I.call (h' := hh) (g' := g) (d' := d) (t' := t) (ch := []) un hok bare (λ b z => absurd z (by simp)), r, q⟩
end
def qW0 (sp : Sp) (dvs : List V) (E : XK) (t : TA) : TE := λ σ H Q => t σ H λ vs H1 => sp (vs ++ dvs) H1 Q E
def qS7 (C : Addr) (m : Str) (sp : Sp) (dvs : List V) (E : XK) (ta : TE) (t : TA) : TE := λ σ H Q => ta σ H λ x H1 => ∃ a dx fs, x = .ref a /\ H1 a = some (.ins C dx fs) /\ fs.lookup m = none /\
 t σ H1 λ vs H2 => sp (x :: (vs ++ dvs)) H2 Q E
def qWx (C : Addr) (sp : Sp) (dvs : List V) (E : XK) (t : TA) : TE := λ σ H Q => t σ H λ vs H1 => ∀ x dx, H1 x = none -> H1 dx = none -> dx ≠ x ->
 sp (.ref x :: (vs ++ dvs)) (upd (upd H1 dx (.own x)) x (.ins C dx [])) (λ v H2 => v = .non /\ Q (.ref x) H2) E
def zS (K : PySem.W.Frag) (fd : FuncData) (ps : List Str) (ds : List Value) : Prop :=
 ∀ (s : Shared) (us : List Value), K.In s.heap -> (us ++ ds).length = ps.length -> BindsTo s fd ⟨us, []⟩ (ps.zip (us ++ ds))
theorem zS.all {K : PySem.W.Frag} {fd : FuncData} {ps : List Str} (h : ∀ us : List Value, us.length = ps.length -> bindArgs fd ⟨us, []⟩ = pure (ps.zip us)) : zS K fd ps [] := λ s us _ hl => by
 rw [jBl] at hl ⊢
 exact .of_eq (h us hl)
def qAv (CX : CXT) (X : Cx) (E : XK) : Prop := ∀ (pins : List (Addr × Obj)) (σ : St) (H : Hp) (s : Shared) (e : Value) (s' : Shared), Inv X pins σ H s -> CX X.stack H s E e s' -> X.xe e s'
section
variable {X : Cx} {CX : CXT} {k : Nat} {f C : Addr} {fd : FuncData} {ps : List Str} {sp : Sp} {dvs : List V} {ds : List Value} {E : XK} {x m : Str} {p pos apos : Pos} {e o : Expr} {es : List Expr} {ta : TE} {t : TA}
theorem qK6 (F : qCf X.prog X.w X.K X.mg X.base CX k f fd ps sp) (hr : qBd k X.A) (hb : zS X.K fd ps ds) (hd : qAn dvs ds) (hx : qAv CX X E)
  (I : Inv X pins σ H s) (r : qAn vs us) (h : sp (vs ++ dvs) H Q E) : wpAny (model X.prog X.w) X.A (call (.ref f) us) (EP X pins σ Q) X.xe s := by
 have r2 : qAn (vs ++ dvs) (us ++ ds) := r.append hd
 have hl : (us ++ ds).length = ps.length := by rw [<- r2.length]; exact F.len _ _ _ _ h
 refine wpAny_call (codeAny_mono (F.run X.A X.stack s H ⟨us, []⟩ (us ++ ds) (vs ++ dvs) Q E hr I.env0 (hb s us I.kIn hl) r2 h) λ r s' hq => ?_)
 cases r with
 | error e => exact hx pins σ H s e s' I hq
 | ok fl =>
  cases fl with
  | ret u => exact I.after hq
  | next => exact False.elim hq
  | brk => exact False.elim hq
  | cont => exact False.elim hq
theorem qQx (F : qCf X.prog X.w X.K X.mg X.base CX k f fd ps sp) (hr : qBd k X.A) (hg : Gl X x) (hm : X.mg x = some (.ref f)) (hk : jBg X.K (.ref f) = true) (hb : zS X.K fd ps ds) (hd : qAn dvs ds) (hx : qAv CX X E)
  (ha : PA X (e :: es) t) (hdb : (x == ("__debug__" : Str)) = false := by decide) (he : starEach (e :: es) X.env = (false, eval e X.env) :: starEach es X.env := by rfl) (hpl : (backTo pos (starEach es X.env)).any (·.1) = false := by rfl) :
  PE X (.Call (.Name x p) (e :: es) [] pos) (qW0 sp dvs E t) := by
 intro pins s σ H Q I h
 refine wpAny_Call_Name_kw (qDf I hg hm ?_ hdb)
 refine jBm (h₀ := X.base) I.ok.mod.kin hk (thn (ha pos pins s σ H _ I h) λ us s1 ⟨vs, H1, I1, r, q⟩ => ⟨I1.kIn, ?_⟩) he hpl
 exact qK6 F hr hb hd hx I1 r q
theorem qLn (he : PE X o ta) (c : Cls X.K C) (hm : qP2 X.K C m f) (F : qCf X.prog X.w X.K X.mg X.base CX k f fd ps sp) (hr : qBd k X.A) (hb : zS X.K fd ps ds) (hd : qAn dvs ds) (hx : qAv CX X E) (ha : PA X (e :: es) t)
  (hst : starEach (e :: es) X.env = (false, eval e X.env) :: starEach es X.env := by rfl) (hpl : (backTo pos (starEach es X.env)).any (·.1) = false := by rfl)
  (ht : eval (.Call (.Attribute o m apos) (e :: es) [] pos) X.env = (do
   let ov <- eval o X.env
   standAt apos.atName
   let (f, first) <- holding [ov] (getMethod ov m pl)
   callWith pos f first (backTo pos (starEach (e :: es) X.env)) (backToKw pos (keywordEach [] X.env))) := by rfl) :
  PE X (.Call (.Attribute o m apos) (e :: es) [] pos) (qS7 C m sp dvs E ta t) := by
 intro pins s σ H Q I h
 refine jBn (pl := pl) (thn (he pins s σ H _ I h) λ u s1 ⟨x, H1, I1, rx, a, dx, fs, ex, ea, l, q⟩ => ?_) ht
 subst ex
 obtain rfl : u = Value.ref a := rx
 refine qFa I1 ea c hm l ?_
 refine jBm (first := [.ref a]) (h₀ := X.base) I.ok.mod.kin hm.kp (thn (ha pos pins s1 σ H1 _ I1 q) λ us s2 ⟨vs, H2, I2, r, q2⟩ => ⟨I2.kIn, ?_⟩) hst hpl
 exact qK6 (us := .ref a :: us) (vs := .ref a :: vs) F hr hb hd hx I2 (.cons rfl r) q2
theorem qN3 (he : PE X o ta) (c : Cls X.K C) (hm : qP2 X.K C m f) (F : qCf X.prog X.w X.K X.mg X.base CX k f fd ps sp) (hr : qBd k X.A) (hb : zS X.K fd ps ds) (hd : qAn dvs ds) (hx : qAv CX X E)
  (ht : eval (.Call (.Attribute o m apos) [] [] pos) X.env = (do
   let ov <- eval o X.env
   standAt apos.atName
   let (f, first) <- holding [ov] (getMethod ov m pl)
   callWith pos f first (backTo pos (starEach [] X.env)) (backToKw pos (keywordEach [] X.env))) := by rfl) :
  PE X (.Call (.Attribute o m apos) [] [] pos) (qS7 C m sp dvs E ta qWv) := by
 intro pins s σ H Q I h
 refine jBn (pl := pl) (thn (he pins s σ H _ I h) λ u s1 ⟨x, H1, I1, rx, a, dx, fs, ex, ea, l, q⟩ => ?_) ht
 subst ex
 obtain rfl : u = Value.ref a := rx
 refine qFa I1 ea c hm l ?_
 exact PySem.W.callWith_K0 (first := [.ref a]) I1.kIn hm.kp (qK6 (us := [.ref a]) (vs := [.ref a]) F hr hb hd hx I1 (.cons rfl .nil) q)
structure Mk (K : PySem.W.Frag) (C f : Addr) : Prop where
 makes : jBb K C = true
 init : jA5 K (.ref C) "__init__" = some (some (.ref f))
 fn : jA7 K (.ref f) = true
 kp : jBg K (.ref C) = true
theorem qNt (M : Mk X.K C f) (F : qCf X.prog X.w X.K X.mg X.base CX k f fd ps sp) (hr : qBd (k + 1) X.A) (hb : zS X.K fd ps ds) (hd : qAn dvs ds)
  (hx : qAv CX X E) (I : Inv X pins σ H s) (r : qAn vs us)
  (h : ∀ x dx, H x = none -> H dx = none -> dx ≠ x -> sp (.ref x :: (vs ++ dvs)) (upd (upd H dx (.own x)) x (.ins C dx [])) (λ v H2 => v = .non /\ Q (.ref x) H2) E) :
  wpAny (model X.prog X.w) X.A (call (.ref C) us) (EP X pins σ Q) X.xe s := by
 have hq := h (s.heap.objs.size + 1) s.heap.objs.size (I.hok.fresh (Nat.le_succ _)) (I.hok.fresh (jAy _)) (jAf (jBj _))
 have I2 := Inv.made (C := C) I
 have r2 : qAn (V.ref (s.heap.objs.size + 1) :: (vs ++ dvs)) (Value.ref (s.heap.objs.size + 1) :: (us ++ ds)) := .cons rfl (r.append hd)
 have hl : (Value.ref (s.heap.objs.size + 1) :: us ++ ds).length = ps.length := by
  have e := r2.length
  rw [F.len _ _ _ _ hq] at e
  exact e.symm
 refine wpAny_call (qOr (f := f) I.kIn M.makes M.init (beq_iff_eq.mp M.fn) (codeAny_mono (F.run _ X.stack _ _ ⟨Value.ref (s.heap.objs.size + 1) :: us, []⟩ (Value.ref (s.heap.objs.size + 1) :: (us ++ ds)) _ _ E (hr.make C us [])
  (I2.env0.make C us []) (hb _ (Value.ref (s.heap.objs.size + 1) :: us) I2.kIn hl) r2 hq) λ r s' hq' => ?_))
 cases r with
 | error e => exact hx pins σ _ _ e s' I2 hq'
 | ok fl =>
  cases fl with
  | ret u =>
   obtain ⟨v, H', I3, rv, ev, q3⟩ := I2.after hq'
   subst ev
   exact ⟨rv, ⟨V.ref (s.heap.objs.size + 1), H', I3, rfl, q3⟩⟩
  | next => exact False.elim hq'
  | brk => exact False.elim hq'
  | cont => exact False.elim hq'
theorem qQv (M : Mk X.K C f) (F : qCf X.prog X.w X.K X.mg X.base CX k f fd ps sp) (hr : qBd (k + 1) X.A) (hg : Gl X x) (hm : X.mg x = some (.ref C)) (hb : zS X.K fd ps ds) (hd : qAn dvs ds) (hx : qAv CX X E)
  (ha : PA X (e :: es) t) (hdb : (x == ("__debug__" : Str)) = false := by decide) (he : starEach (e :: es) X.env = (false, eval e X.env) :: starEach es X.env := by rfl) (hpl : (backTo pos (starEach es X.env)).any (·.1) = false := by rfl) :
  PE X (.Call (.Name x p) (e :: es) [] pos) (qWx C sp dvs E t) := by
 intro pins s σ H Q I h
 refine wpAny_Call_Name_kw (qDf I hg hm ?_ hdb)
 refine jBm (h₀ := X.base) I.ok.mod.kin M.kp (thn (ha pos pins s σ H _ I h) λ us s1 ⟨vs, H1, I1, r, q⟩ => ⟨I1.kIn, ?_⟩) he hpl
 exact qNt M F hr hb hd hx I1 r q
end
structure zM (N P : List Str) (sc : Scope) : Prop where
 kind : sc.kind = .function
 co : sc.isCoroutine = false
 gen : sc.isGenerator = false
 nd : N.Nodup
 pre : N.take P.length = P
 par : ∀ x ∈ P, sc.names.lookup x = some .local \/ sc.names.lookup x = some .cell
 nofree : ∀ y ∈ sc.names, y.2 ≠ .free
theorem qHh {kindOf : Str -> Option NameKind} {x : Str} : ∀ {binds : List (Str × Value)} {m : Str -> Option Value}, (∀ v, (x, v) ∉ binds) -> bindL kindOf binds m x = m x
 | [], _, _ => rfl
 | (n, v) :: r, m, h => by
  unfold bindL
  rw [qHh λ w hw => h w (jAo _ hw)]
  split
  ·have : x ≠ n := by rintro rfl; exact h v jAn
   simp [this]
  ·rfl
theorem qHj {kindOf : Str -> Option NameKind} {x : Str} : ∀ {binds : List (Str × Value)} {m : Str -> Option Value}, (∀ v, (x, v) ∉ binds) -> bindC kindOf binds m x = m x
 | [], _, _ => rfl
 | (n, v) :: r, m, h => by
  unfold bindC
  rw [qHj λ w hw => h w (jAo _ hw)]
  split
  ·rfl
  ·have : x ≠ n := by rintro rfl; exact h v jAn
   simp [this]
theorem qHi {kindOf : Str -> Option NameKind} {x : Str} {v : Value} : ∀ {P : List Str} {vs : List Value} {i : Nat} {m : Str -> Option Value}, P.Nodup -> P[i]? = some x -> vs[i]? = some v -> kindOf x = some .local ->
  bindL kindOf (P.zip vs) m x = some v
 | [], _, _, _, _, h, _, _ => by simp at h
 | _ :: _, [], _, _, _, _, h, _ => by simp at h
 | p :: P, w :: vs, 0, m, nd, h1, h2, hk => by
  simp at h1 h2; subst h1; subst h2
  show bindL kindOf ((p, w) :: P.zip vs) m p = _
  unfold bindL
  rw [qHh λ v hv => (jBo.mp nd).1 (jBp hv).1, if_pos hk]
  simp
 | p :: P, w :: vs, i + 1, m, nd, h1, h2, hk => by
  show bindL kindOf ((p, w) :: P.zip vs) m x = _
  unfold bindL
  exact qHi (i := i) (jBo.mp nd).2 (by simpa using h1) (by simpa using h2) hk
theorem qHk {kindOf : Str -> Option NameKind} {x : Str} {v : Value} : ∀ {P : List Str} {vs : List Value} {i : Nat} {m : Str -> Option Value}, P.Nodup -> P[i]? = some x -> vs[i]? = some v -> kindOf x ≠ some .local ->
  bindC kindOf (P.zip vs) m x = some v
 | [], _, _, _, _, h, _, _ => by simp at h
 | _ :: _, [], _, _, _, _, h, _ => by simp at h
 | p :: P, w :: vs, 0, m, nd, h1, h2, hk => by
  simp at h1 h2; subst h1; subst h2
  show bindC kindOf ((p, w) :: P.zip vs) m p = _
  unfold bindC
  rw [qHj λ v hv => (jBo.mp nd).1 (jBp hv).1, if_neg hk]
  simp
 | p :: P, w :: vs, i + 1, m, nd, h1, h2, hk => by
  show bindC kindOf ((p, w) :: P.zip vs) m x = _
  unfold bindC
  exact qHk (i := i) (jBo.mp nd).2 (by simpa using h1) (by simpa using h2) hk
def start (N : List Str) (vs : List V) : St := vs.map some ++ jBq (N.length - vs.length) none
def qFe (CX : CXT) (P : Program) (w : World) (K : PySem.W.Frag) (mg : Str -> Option Value) (base : Heap) (N : List Str) (qual : Str) (scope : Scope) (f : Addr) (cd : Value) (A : Around) (outer : List Env) (s : Shared) (H : Hp) (E : XK) : Cx where
 prog := P
 w := w
 K := K
 mg := mg
 base := base
 A := A.deeper (envOfC qual scope s.heap.objs.size f cd)
 N := N
 s₀ := s
 H₀ := H
 env := envOfC qual scope s.heap.objs.size f cd
 outer := outer
 stack := envOfC qual scope s.heap.objs.size f cd :: outer
 ex := []
 calm := true
 fn := λ _ => true
 pn := []
 xe := λ e s' => wpAny (model P w) (A.deeper (envOfC qual scope s.heap.objs.size f cd)) (leaving (envOfC qual scope s.heap.objs.size f cd) e) (λ _ s'' => CX outer H s E e s'') (λ e' s'' => CX outer H s E e' s'') s'
theorem qJe {sc : Scope} {n : Nat} {x : Str} (h : sc.names.lookup x = some .cell) : ∃ c, (cellsFrom n sc.names []).lookup x = some c := by
 have q := jBr sc.names n [] (.inl h)
 exact jBs.mp q
theorem qMg {CX : CXT} {P : Program} {w : World} {K : PySem.W.Frag} {mg : Str -> Option Value} {base : Heap} {N ps : List Str} {qual : Str} {scope : Scope} {f : Addr} {cd : Value} {A : Around} {outer : List Env} {s s1 : Shared} {H : Hp} {E : XK} {us : List Value} {vs : List V}
  (S : zM N ps scope) (hd : A.handled = none) (e0 : qSj P w K mg base A outer s H) (hl : vs.length = ps.length) (r : qAn vs us)
  (x : InCallC s s.heap.objs.size (bindL (envOfC qual scope s.heap.objs.size f cd).kindOf (ps.zip us) λ _ => none) (cellsFrom (s.heap.objs.size + 1) scope.names []) (bindC (envOfC qual scope s.heap.objs.size f cd).kindOf (ps.zip us) λ _ => none) s1) :
  Inv (qFe CX P w K mg base N qual scope f cd A outer s H E) [] (start N vs) H s1 := by
 have hpl : ps.length <= N.length := by have := congrArg jBt S.pre; rw [jBu] at this; omega
 obtain ⟨h1, tk, rfl, hk⟩ := x.done
 have noA : ∀ b : Addr, b ∉ (qFe CX P w K mg base N qual scope f cd A outer s H E).ex := λ b z => absurd (show b ∈ ([] : List Addr) from z) (by simp)
 refine ⟨⟨e0.mod, S.kind, rfl, rfl, jAy _, λ y z c h1 h2 => ?_, λ y hy => ?_, λ y c _ h => ?_, λ _ => hd, Around.frames_deeper e0.frames, .inr ⟨rfl, rfl⟩, λ b z => absurd z (noA b), e0.bs, e0.bsz, λ b _ _ => noA b, λ b z => absurd z (noA b), e0.funs, e0.frf⟩,
  rfl, e0.bare, Un.kept hk, ⟨_, x.toInCall.ns, λ i y v h1 h2 h3 => ?_⟩, λ y c h => ⟨_, x.cell y c h⟩, e0.hok.fresh (jAy _), λ y c h => ?_, λ p hp => absurd (show p ∈ ([] : List (Addr × Obj)) from hp) (by simp), e0.hok.kept hk, ?_⟩
 ·exact name_of_addr x.apart (PySem.mem_of_lookup h1) (PySem.mem_of_lookup h2)
 ·have hy : scope.names.lookup y = some .cell \/ scope.names.lookup y = some .free := hy
  rcases hy with hy | hy
  ·exact qJe hy
  ·exact absurd rfl (S.nofree _ (PySem.mem_of_lookup hy))
 ·exact jAl (x.above y c (PySem.mem_of_lookup h))
 ·have hi : i < vs.length := by
   unfold start at h2
   by_cases hi : i < vs.length
   ·exact hi
   ·rw [jBv (by simpa using hi)] at h2
    rw [jBw] at h2
    split at h2 <;> cases h2
  have ha : vs[i]? = some v := by
   unfold start at h2
   rw [jBx (by simpa using hi), jBy] at h2
   cases e : vs[i]? with
   | none => rw [e] at h2; cases h2
   | some a => rw [e] at h2; cases h2; rfl
  obtain ⟨u, hu, rv⟩ := r.get ha
  have hp : ps[i]? = some y := by
   rw [<- S.pre, List.getElem?_take_of_lt (by omega)]; exact h1
  have ndP : ps.Nodup := by rw [<- S.pre]; exact S.nd.sublist (List.take_sublist _ _)
  refine ⟨u, rv, ?_⟩
  rcases S.par y (jBz hp) with k | k
  ·exact .inl ⟨k, qHi ndP hp hu k⟩
  ·obtain ⟨c, e⟩ := qJe (n := s.heap.objs.size + 1) k
   refine .inr ⟨.inl k, c, e, ?_⟩
   have q := x.cell y c e
   rw [qHk ndP hp hu (by show scope.names.lookup y ≠ _; rw [k]; decide)] at q
   exact q
 ·exact e0.hok.fresh (jAl (x.above y c (PySem.mem_of_lookup h)))
 ·unfold start
  show _ = N.length
  rw [jB0, jBh, jB1]
  omega
theorem qR5 {CX : CXT} {P : Program} {w : World} {K : PySem.W.Frag} {mg : Str -> Option Value} {base : Heap} {k : Nat} {f : Addr} {name qual : Str} {params : Arguments} {body : List Stmt} {scope : Scope} {dV kV doc pm cdv ct oc : Value} {an od : Option Addr}
  {osl : Array (Option Value)} {N ps : List Str} {sp : Sp} (lk : K.lookup f = some ⟨oc, od, .func (jB2 name qual params body scope dV kV doc pm an cdv ct), osl⟩) (hcd : jB3 K cdv qual = true) (S : zM N ps scope)
  (len : ∀ vs H Q E, sp vs H Q E -> vs.length = ps.length)
  (hbody : ∀ (A : Around) (outer : List Env) (s : Shared) (H : Hp) (vs : List V) (Q : VK) (E : XK), qBd k (A.deeper (envOfC qual scope s.heap.objs.size f cdv)) -> sp vs H Q E ->
   ∃ t, PSs (qFe CX P w K mg base N qual scope f cdv A outer s H E) body t /\ t { nx := λ _ H' => Q .non H', rt := Q } (start N vs) H) :
  qCf P w K mg base CX (k + 1) f (jB2 name qual params body scope dV kV doc pm an cdv ct) ps sp := by
 refine ⟨len, λ A outer s H args us vs Q E hr e0 hb r hsp => ?_⟩
 have hl := len _ _ _ _ hsp
 have KX : K.In s.heap := e0.mod.kin.keeps λ b o e => (e0.bs b o e).1
 have lim : s.heap.NoLimit := e0.mod.nolimit.keeps λ b o e => (e0.bs b o e).1
 have hkind : ∀ y ∈ ps.zip us, scope.names.lookup y.1 = some .local \/ (scope.names.lookup y.1 = some .cell /\ ((cellsFrom (s.heap.objs.size + 1) scope.names []).lookup y.1).isSome = true) := λ ⟨n, v⟩ hy => by
  rcases S.par n (jBp hy).1 with q | q
  ·exact .inl q
  ·exact .inr ⟨q, jBr _ _ _ (.inl q)⟩
 refine codeAny_call_function hr.depth (KX _ _ lk) rfl S.co S.gen rfl (PySem.W.codeRec_of KX hcd) (hb _ _ _ _ ?_)
 refine wpAny_newFunctionEnv_cells S.kind hkind λ env he s1 x => ?_
 subst he
 refine ⟨lim.keeps x.toInCall.keep, codeAny_func ?_⟩
 obtain ⟨t, ht, hq⟩ := hbody A outer s H vs Q E (hr.deeper _) hsp
 have I : Inv (qFe CX P w K mg base N qual scope f cdv A outer s H E) [] (start N vs) H s1 := qMg S hr.hd e0 hl r x
 refine wpAny_mono (ht [] s1 (start N vs) H _ I hq) (λ fl s' hs => ?_) λ e s' hs => hs
 have fin : ∀ {σ' : St} {H' : Hp} {v : V} {u : Value}, Inv (qFe CX P w K mg base N qual scope f cdv A outer s H E) [] σ' H' s' -> qA6 v u -> Q v H' -> CE outer P w H s Q u s' :=
  fun {σ' H' v u} J rv q => ⟨v, H', J.os, J.bare, J.base, J.hok, rv, q⟩
 cases fl with
 | ret u =>
  obtain ⟨v, σ', H', J, rv, q⟩ := hs
  exact fin J rv q
 | next =>
  obtain ⟨σ', H', J, q⟩ := hs
  exact fin (v := V.non) (u := Value.none) J rfl q
 | brk =>
  obtain ⟨_, _, _, q⟩ := hs
  exact False.elim q
 | cont =>
  obtain ⟨_, _, _, q⟩ := hs
  exact False.elim q
end L2
namespace L2
open PySem PySem.Spec PyProof.Rows
section
variable {X : Cx} {x : Str} {p pos : Pos} {e : Expr} {es : List Expr} {t : TA} {id T : String} {r : List V -> Hp -> VK -> Prop}
def tCB (r : List V -> Hp -> VK -> Prop) (t : TA) : TE := λ σ H Q => t σ H λ vs H1 => r vs H1 Q
theorem qCm (hc : qBm X (.builtin id) r) (hg : Gl X x) (hm : X.mg x = none) (hv : bootBuiltins x = some (.builtin id)) (ha : PA X (e :: es) t) (hn : x ≠ "__name__" := by decide) (hdb : (x == ("__debug__" : Str)) = false := by decide)
  (he : starEach (e :: es) X.env = (false, eval e X.env) :: starEach es X.env := by rfl) (hpl : (backTo pos (starEach es X.env)).any (·.1) = false := by rfl) : PE X (.Call (.Name x p) (e :: es) [] pos) (tCB r t) := by
 intro pins s σ H Q I h
 refine wpAny_Call_Name_kw (qEp I hg hm hv ?_ hn hdb)
 exact PyProof.Rows.callWith_builtin1 (thn (ha pos pins s σ H _ I h) λ us s1 ⟨vs, H1, I1, r1, q1⟩ => hc pins s1 σ H1 vs us Q I1 r1 q1) he hpl
theorem qGt (hc : qBm X (.type T) r) (hg : Gl X x) (hm : X.mg x = none) (hv : bootBuiltins x = some (.type T)) (ha : PA X (e :: es) t) (hn : x ≠ "__name__" := by decide) (hdb : (x == ("__debug__" : Str)) = false := by decide)
  (he : starEach (e :: es) X.env = (false, eval e X.env) :: starEach es X.env := by rfl) (hpl : (backTo pos (starEach es X.env)).any (·.1) = false := by rfl) : PE X (.Call (.Name x p) (e :: es) [] pos) (tCB r t) := by
 intro pins s σ H Q I h
 refine wpAny_Call_Name_kw (qEp I hg hm hv ?_ hn hdb)
 exact PyProof.Rows.callWith_type1 (thn (ha pos pins s σ H _ I h) λ us s1 ⟨vs, H1, I1, r1, q1⟩ => hc pins s1 σ H1 vs us Q I1 r1 q1) he hpl
end
end L2
namespace HT
open PySem PyProof.Rows
section
variable {prog : Program} {w : World} {A : Around} {E : Value -> Shared -> Prop} {s : Shared}
def sIx (n d : Nat) : Option Int -> Nat
 | none => d
 | some v => if v < 0 then (v + (n : Int)).toNat else min v.toNat n
theorem qTd (n d : Nat) (hd : d <= n) (o : Option Int) : sIx n d o <= n := by
 cases o with
 | none => exact hd
 | some v =>
  show (if v < 0 then (v + (n : Int)).toNat else min v.toNat n) <= n
  by_cases hv : v < 0
  ·rw [if_pos hv]; omega
  ·rw [if_neg hv]; exact Nat.min_le_right _ _
theorem qMt (v : Int) (n d : Nat) : (if v < 0 then max (v + (n : Int)) 0 else min v (n : Int)) = ((sIx n d (some v) : Nat) : Int) := by
 show (if v < 0 then max (v + (n : Int)) 0 else min v (n : Int)) = (((if v < 0 then (v + (n : Int)).toNat else min v.toNat n) : Nat) : Int)
 by_cases hv : v < 0
 ·simp only [if_pos hv]; omega
 ·simp only [if_neg hv]; omega
theorem qKe (lo hi : Option Int) (n : Nat) : Builtin.Slice.sliceAdjust lo hi 1 (n : Int) = (((sIx n 0 lo : Nat) : Int), ((sIx n n hi : Nat) : Int)) := by
 have h1 : ¬ ((1 : Int) < 0) := by omega
 unfold Builtin.Slice.sliceAdjust
 simp only [h1, if_false]
 refine Prod.ext ?_ ?_
 ·cases lo with
  | none => rfl
  | some v => exact qMt v n 0
 ·cases hi with
  | none => rfl
  | some v => exact qMt v n n
theorem qJv (i j : Nat) : Builtin.Slice.slicePlaces (i : Int) (j : Int) 1 = j - i := by
 unfold Builtin.Slice.slicePlaces
 have h1 : (1 : Int) > 0 := by omega
 simp only [h1, if_true, Int.ediv_one]
 split <;> omega
theorem qE0 (p : IsPart v o) (h : Q o s) : wpAny (model prog w) A (Builtin.Slice.slicePartIndex v) Q E s := by
 cases p with
 | none => exact slicePart_none h
 | int i t => exact slicePart_int h
theorem qDu {sl : Addr} {vl vu : Value} {lo hi : Option Int} {n : Nat} {Q : Int × Int × Nat -> Shared -> Prop} (hs : s.heap.IsSliceOf sl vl vu .none) (pl : IsPart vl lo) (pu : IsPart vu hi)
  (h : Q (((sIx n 0 lo : Nat) : Int), 1, sIx n n hi - sIx n 0 lo) s) : wpAny (model prog w) A (Builtin.Slice.sliceApplied (.ref sl) (pure (n : Int))) Q E s := by
 obtain ⟨os, hos, hcs, hds⟩ := id hs
 unfold Builtin.Slice.sliceApplied Builtin.Slice.sliceFields
 refine wpAny_bind (wpAny_bind (wpAny_field hos hds (x := vl) rfl (wpAny_bind (wpAny_field hos hds (x := vu) rfl (wpAny_bind (wpAny_field hos hds (x := .none) rfl (wpAny_pure ?_)))))))
 refine wpAny_bind (slicePart_none ?_)
 show wpAny _ _ (if ((1 : Int) == 0) = true then _ else _) _ _ s
 rw [if_neg (by decide)]
 refine wpAny_bind (qE0 pl (wpAny_bind (qE0 pu (wpAny_bind (wpAny_pure ?_)))))
 show wpAny _ _ (match Builtin.Slice.sliceAdjust lo hi 1 (n : Int) with | (lo, hi) => pure (lo, (1 : Int), Builtin.Slice.slicePlaces lo hi 1)) _ _ s
 rw [qKe lo hi n]
 show wpAny _ _ (pure (((sIx n 0 lo : Nat) : Int), (1 : Int), Builtin.Slice.slicePlaces ((sIx n 0 lo : Nat) : Int) ((sIx n n hi : Nat) : Int) 1)) _ _ s
 rw [qJv]
 exact wpAny_pure h
theorem qN0 (xs : Array Value) (i k : Nat) : ((jAg k).filterMap λ (m : Nat) => xs[((i : Int) + (m : Int) * 1).toNat]?).toArray = ((xs.toList.drop i).take k).toArray := by
 have e : (λ (m : Nat) => xs[((i : Int) + (m : Int) * 1).toNat]?) = λ m => xs[i + m]? := by
  funext m
  have : ((i : Int) + (m : Int) * 1).toNat = i + m := by omega
  rw [this]
 rw [e]
 have := pick_run xs i k
 rw [List.filterMap_map] at this
 have e2 : ((λ x => xs[x]?) ∘ λ x => i + x) = λ m => xs[i + m]? := rfl
 rw [e2] at this
 rw [this]
theorem getItem_tuple_cut {t sl : Addr} {items : Array Value} {vl vu : Value} {lo hi : Option Int} {Q : Value -> Shared -> Prop} (ht : IsTup s.heap t items) (hs : s.heap.IsSliceOf sl vl vu .none) (pl : IsPart vl lo) (pu : IsPart vu hi)
  (hw : ¬ (sIx items.size 0 lo = 0 /\ sIx items.size items.size hi = items.size))
  (h : Q (.ref s.heap.objs.size) { s with heap := s.heap.push { cls := .type "tuple", data := .seq ((items.toList.drop (sIx items.size 0 lo)).take (sIx items.size items.size hi - sIx items.size 0 lo)).toArray } })
  (hsz : items.size <= sizeLine) : wpAny (model prog w) A (getItem (.ref t) (.ref sl)) Q E s := by
 have htake : sizeOk (.seq ((items.toList.drop (sIx items.size 0 lo)).take (sIx items.size items.size hi - sIx items.size 0 lo)).toArray) := by
  show ((items.toList.drop (sIx items.size 0 lo)).take (sIx items.size items.size hi - sIx items.size 0 lo)).toArray.size <= sizeLine
  rw [jA1, jBu, jB4, Array.length_toList]
  omega
 have hj : sIx items.size items.size hi <= items.size := qTd _ _ (jAy _) hi
 obtain ⟨os, hos, hcs, hds⟩ := id hs
 have hTs : s.TypeIs (.ref sl) "slice" := ⟨os, hos, hcs⟩
 unfold getItem
 try with_reducible refine wpAny_holding ?_
 first | refine wpAny_bind (wpAny_pure ?_) | skip
 refine wpAny_bind (wpAny_sequenceKey ht.typeIs (by decide) ?_)
 refine wpAny_bind (wpAny_callSpecial?_slot (name := Str.ofString "__getitem__") ht.typeIs PyProof.Rows.slot_tuple_getitem
  (wpAny_call_entry PyProof.Rows.slot_tuple_getitem ht.typeIs entry_tuple_getitem ?_ (args_tuple_getitem _ _)))
 show wpAny _ _ (Builtin.Tuple.tupleItemsOf (.ref t) >>= _) _ _ s
 refine wpAny_bind (tupleItemsOf_ ht ?_)
 refine wpAny_bind (wpAny_typeOf hTs ?_)
 rw [if_pos (by decide)]
 refine wpAny_bind (qDu hs pl pu ?_)
 have hno : ¬ ((((sIx items.size 0 lo : Nat) : Int) == 0 && (1 : Int) == 1 && (sIx items.size items.size hi - sIx items.size 0 lo) == items.size) = true) := by
  intro q
  rw [Bool.and_eq_true, Bool.and_eq_true] at q
  have q1 : ((sIx items.size 0 lo : Nat) : Int) = 0 := eq_of_beq q.1.1
  have q2 : sIx items.size items.size hi - sIx items.size 0 lo = items.size := eq_of_beq q.2
  exact hw ⟨by omega, by omega⟩
 show wpAny _ _ (if (((sIx items.size 0 lo : Nat) : Int) == 0 && (1 : Int) == 1 && (sIx items.size items.size hi - sIx items.size 0 lo) == items.size) = true then _ else _) _ _ s
 rw [if_neg hno, qN0]
 first
  | exact wpAny_bind (m := Builtin.Tuple.tupleExact _) (wpAny_newObj_type (wpAny_pure ⟨_, rfl, wpAny_pure h⟩) htake)
  | exact wpAny_bind (m := Builtin.Tuple.tupleExact _) (wpAny_newObj_type (wpAny_bind (wpAny_pure (wpAny_pure ⟨_, rfl, wpAny_pure h⟩))) htake)
  | exact wpAny_bind (wpAny_bind (m := Builtin.Tuple.tupleExact _) (wpAny_newObj_type (wpAny_pure (wpAny_pure ⟨_, rfl, wpAny_pure h⟩)) htake))
  | exact wpAny_bind (wpAny_bind (m := Builtin.Tuple.tupleExact _) (wpAny_newObj_type (wpAny_pure ⟨_, rfl, wpAny_pure h⟩) htake))
end
end HT
namespace L2
open PySem PySem.Spec PyProof.Rows
abbrev TO := St -> Hp -> (Option Int -> Hp -> Prop) -> Prop
def PO (X : Cx) (e : Option Expr) (t : TO) : Prop :=
 ∀ (pins : List (Addr × Obj)) (s : Shared) (σ : St) (H : Hp) (Q : Option Int -> Hp -> Prop), Inv X pins σ H s -> t σ H Q ->
  wpAny (model X.prog X.w) X.A (evalPart e X.env) (λ u s' => ∃ o H', Inv X pins σ H' s' /\ IsPart u o /\ Q o H') X.xe s
def qQc : TO := λ _ H Q => Q none H
def qWt (t : TE) : TO := λ σ H Q => t σ H λ x H1 => ∃ i, x = .int i /\ Q (some i) H1
section
variable {X : Cx} {e : Expr} {te : TE} {lo hi : Option Expr} {tl th : TO} {pos p2 : Pos}
theorem qLi : PO X none qQc := by
 intro pins s σ H Q I h
 rw [evalPart_none]
 exact wpAny_pure ⟨none, H, I, .none, h⟩
theorem qLh (h : PE X e te) : PO X (some e) (qWt te) := by
 intro pins s σ H Q I hw
 rw [evalPart_some]
 refine thn (h pins s σ H _ I hw) λ u s1 ⟨x, H1, I1, r1, q1⟩ => ?_
 obtain ⟨i, rfl, q⟩ := q1
 obtain ⟨t, rfl⟩ := r1
 exact ⟨some i, H1, I1, .int i t, q⟩
def SlR (X : Cx) (r : V -> Option Int -> Option Int -> Hp -> VK -> Prop) : Prop :=
 ∀ (pins : List (Addr × Obj)) (s : Shared) (σ : St) (H : Hp) (x : V) (v vl vu : Value) (lo hi : Option Int) (sl : Addr) (Q : VK), Inv X pins σ H s -> qA6 x v -> s.heap.IsSliceOf sl vl vu .none -> IsPart vl lo -> IsPart vu hi -> r x lo hi H Q ->
  ∃ T id, typeLookup (.type T) "__getitem__" = pure (some (.builtin id)) /\ s.TypeIs v T /\ wpAny (model X.prog X.w) X.A (getItem v (.ref sl)) (EP X pins σ Q) X.xe s
theorem SlR.or (h : SlR X r) (h' : SlR X r') : SlR X (λ x lo hi H Q => r x lo hi H Q \/ r' x lo hi H Q) := by
 intro pins s σ H x v vl vu lo hi sl Q I rx hs pl pu q
 rcases q with q | q
 ·exact h pins s σ H x v vl vu lo hi sl Q I rx hs pl pu q
 ·exact h' pins s σ H x v vl vu lo hi sl Q I rx hs pl pu q
def tSl (r : V -> Option Int -> Option Int -> Hp -> VK -> Prop) (te : TE) (tl th : TO) : TE := λ σ H Q => te σ H λ x H1 => tl σ H1 λ l H2 => th σ H2 λ u H3 => r x l u H3 Q
theorem qN2 (hr : SlR X r) (he : PE X e te) (hl : PO X lo tl) (hu : PO X hi th) : PE X (.Subscript e (.Slice lo hi none p2) pos) (tSl r te tl th) := by
 intro pins s σ H Q I h
 refine Subscript_ (thn (he pins s σ H _ I h) λ v s1 ⟨x, H1, I1, r1, q1⟩ => ?_)
 refine wpAny_Slice (thn (hl pins s1 σ H1 _ I1 q1) λ vl s2 ⟨l, H2, I2, pl, q2⟩ => thn (hu pins s2 σ H2 _ I2 q2) λ vu s3 ⟨u, H3, I3, pu, q3⟩ => ?_)
 rw [evalPart_none]
 refine wpAny_pure ?_
 have I4 : Inv X pins σ H3 { s3 with heap := s3.heap.push { cls := .type "slice", data := .fields #[vl, vu, .none] } } := I3.kept (t' := s3.toks) λ b ob q => jAv _ q
 obtain ⟨T, id, hT, ht, hg⟩ := hr pins { s3 with heap := s3.heap.push { cls := .type "slice", data := .fields #[vl, vu, .none] } } σ H3 x v vl vu l u s3.heap.objs.size Q I4 r1 (Heap.IsSliceOf.new ..) pl pu q3
 show wpAny (model X.prog X.w) X.A (subscriptTail e (.Slice lo hi none p2) v (.ref s3.heap.objs.size)) (EP X pins σ Q) X.xe { s3 with heap := s3.heap.push { cls := .type "slice", data := .fields #[vl, vu, .none] } }
 exact tail_any (ops := [.ref s3.heap.objs.size, v]) ht hT hg (by with_unfolding_all rfl)
def qPx (xs : List V) (lo hi : Option Int) : List V := (xs.drop (HT.sIx xs.length 0 lo)).take (HT.sIx xs.length xs.length hi - HT.sIx xs.length 0 lo)
theorem qEv (xs : List V) (lo hi : Option Int) : (qPx xs lo hi).length <= xs.length := by
 unfold qPx
 rw [jBu, jB4]
 omega
def qY9 (K : PySem.W.Frag) : V -> Option Int -> Option Int -> Hp -> VK -> Prop := λ x lo hi H Q => ∃ a xs, x = .ref a /\ SqT K H a xs /\
 ¬ (HT.sIx xs.length 0 lo = 0 /\ HT.sIx xs.length xs.length hi = xs.length) /\ ∀ p, H p = none -> Q (.ref p) (upd H p (.tup (qPx xs lo hi)))
theorem qTc : SlR X (qY9 X.K) := by
 intro pins s σ H x v vl vu lo hi sl Q I rx hs pl pu h
 obtain ⟨a, xs, rfl, hx, hw, q⟩ := h
 cases rx
 obtain ⟨its, r, ht, hz⟩ := I.tuple hx
 have hlen : its.toArray.size = xs.length := by rw [jA1]; exact r.length.symm
 refine ⟨"tuple", _, PyProof.Rows.slot_tuple_getitem.lookup, ht.typeIs, ?_⟩
 refine HT.getItem_tuple_cut ht hs pl pu (by rw [hlen]; exact hw) ?_ (by rw [hlen]; exact hz)
 rw [hlen]
 refine ⟨.ref s.heap.objs.size, _, I.laid (t' := s.toks) (o := .tup (qPx xs lo hi)) (λ b ob q => jAv _ q) (jAy _) ?_, rfl, q _ (I.hok.fresh (jAy _))⟩
 exact ⟨jAk (qEv xs lo hi) hz, _, (r.drop (HT.sIx xs.length 0 lo)).take (HT.sIx xs.length xs.length hi - HT.sIx xs.length 0 lo), IsTup.new _ _⟩
end
end L2
namespace L2
open PySem PySem.Spec PyProof.Rows
def ixN (n : Nat) (i : Int) : Option Nat := if 0 <= i then (if i < n then some i.toNat else none) else if -(n : Int) <= i then some (i + n).toNat else none
def atI {α : Type} (xs : List α) (i : Int) : Option α := (ixN xs.length i).bind λ j => xs[j]?
theorem qMd (h : ixN n i = some j) : seqIndex? i n = some j /\ j < n /\ -(n : Int) <= i /\ i < n := by
 unfold ixN at h
 by_cases h0 : 0 <= i
 ·rw [if_pos h0] at h
  by_cases h1 : i < n
  ·rw [if_pos h1] at h
   have e : i.toNat = j := Option.some.inj h
   exact ⟨by rw [seqIndex_of h0 h1, e], by omega, by omega, h1⟩
  ·rw [if_neg h1] at h; cases h
 ·rw [if_neg h0] at h
  by_cases h1 : -(n : Int) <= i
  ·rw [if_pos h1] at h
   have e : (i + n).toNat = j := Option.some.inj h
   exact ⟨by rw [seqIndex_neg (by omega) h1, e], by omega, h1, by omega⟩
  ·rw [if_neg h1] at h; cases h
theorem qM4 (h : atI xs i = some v) : ∃ j, seqIndex? i xs.length = some j /\ xs[j]? = some v /\ j < xs.length /\ -(xs.length : Int) <= i /\ i < xs.length := by
 unfold atI at h
 cases e : ixN xs.length i with
 | none => rw [e] at h; cases h
 | some j =>
  rw [e] at h
  obtain ⟨h1, h2, h3, h4⟩ := qMd e
  exact ⟨j, h1, h, h2, h3, h4⟩
def qNf (b : Expr) : Prop := ∀ o i, subscripted b false o i = operate [o, i] (getItem o i)
def IxR (X : Cx) (r : R2) : Prop :=
 ∀ (value slice : Expr) (pins : List (Addr × Obj)) (s : Shared) (σ : St) (H : Hp) (x y : V) (v u : Value) (Q : VK), Inv X pins σ H s -> qA6 x v -> qA6 y u -> r x y H Q ->
  subscripted slice false v u = operate [v, u] (getItem v u) -> wpAny (model X.prog X.w) X.A (subscriptTail value slice v u) (EP X pins σ Q) X.xe s
def MtR (X : Cx) (id : String) (r : V -> List V -> Hp -> VK -> Prop) : Prop :=
 ∀ (pins : List (Addr × Obj)) (s : Shared) (σ : St) (H : Hp) (x : V) (xs : List V) (v : Value) (us : List Value) (Q : VK), Inv X pins σ H s -> qA6 x v -> qAn xs us -> r x xs H Q ->
  wpAny (model X.prog X.w) X.A (call (.builtin id) (v :: us)) (EP X pins σ Q) X.xe s
section
variable {X : Cx} {a b : Expr} {ta tb : TE} {pos : Pos}
theorem IxR.or (h : IxR X r) (h' : IxR X r') : IxR X (λ x y H Q => r x y H Q \/ r' x y H Q) := by
 intro value slice pins s σ H x y v u Q I rx ry q hs
 rcases q with q | q
 ·exact h value slice pins s σ H x y v u Q I rx ry q hs
 ·exact h' value slice pins s σ H x y v u Q I rx ry q hs
theorem qT2 (hr : IxR X r) (ha : PE X a ta) (hb : PE X b tb) (hs : qNf b) : PE X (.Subscript a b pos) (tOp r ta tb) := by
 intro pins s σ H Q I h
 exact Subscript_ (qX8 ha hb I h λ v u s2 x y H2 I2 rx ry q => hr a b pins s2 σ H2 x y v u Q I2 rx ry q (hs _ _))
def qYg (K : PySem.W.Frag) : R2 := λ x y H Q => ∃ p xs i v, x = .ref p /\ y = .int i /\ SqL K H p xs /\ atI xs i = some v /\ Q v H
def qYf (K : PySem.W.Frag) : R2 := λ x y H Q => ∃ p xs i v, x = .ref p /\ y = .int i /\ SqT K H p xs /\ atI xs i = some v /\ Q v H
theorem qRy : IxR X (qYg X.K) := by
 intro value slice pins s σ H x y v u Q I rx ry h hs
 obtain ⟨p, xs, i, z, rfl, rfl, hq, he, q⟩ := h
 cases rx
 obtain ⟨t, rfl⟩ := ry
 obtain ⟨its, r, pl, hz⟩ := I.list hq
 obtain ⟨j, h1, h2, h3, h4, h5⟩ := qM4 he
 obtain ⟨w, ew, rw'⟩ := r.get h2
 have hl := r.length
 have hn := qE7
 have fin : EP X pins σ Q w s := ⟨z, H, I, rw', q⟩
 by_cases h0 : 0 <= i
 ·have hj : i.toNat = j := by
   rw [seqIndex_of h0 h5] at h1
   exact Option.some.inj h1
  exact item_listR pl.isList h0 (by omega) (by rw [hj]; simpa using ew) fin hs
 ·have hj : (i + (its.toArray.size : Int)).toNat = j := by
   rw [seqIndex_neg (by omega) h4] at h1
   rw [jA1, <- hl]
   exact Option.some.inj h1
  exact subscriptTail_builtinR (x := w) pl.isList.typeIs slot_list_getitem.lookup
   (wpAny_getItem_list_neg (Q := λ r s' => r = w /\ EP X pins σ Q r s') pl.isList (by omega) (by rw [jA1] <;> omega) (by omega) (by rw [hj]; simpa using ew) ⟨rfl, fin⟩) hs
theorem qVj : IxR X (qYf X.K) := by
 intro value slice pins s σ H x y v u Q I rx ry h hs
 obtain ⟨p, xs, i, z, rfl, rfl, hq, he, q⟩ := h
 cases rx
 obtain ⟨t, rfl⟩ := ry
 obtain ⟨its, r, pl, hz⟩ := I.tuple hq
 obtain ⟨j, h1, h2, h3, h4, h5⟩ := qM4 he
 obtain ⟨w, ew, rw'⟩ := r.get h2
 have hl := r.length
 have hn := qE7
 have fin : EP X pins σ Q w s := ⟨z, H, I, rw', q⟩
 exact subscriptTail_builtinR (x := w) pl.typeIs slot_tuple_getitem.lookup
  (getItem_tuple (j := j) (Q := λ r s' => r = w /\ EP X pins σ Q r s') pl (by omega) (by omega) (by rw [jA1, <- hl]; exact h1) (by simpa using ew) ⟨rfl, fin⟩) hs
theorem qJ3 (its : List Value) (n j : Nat) (u : Value) : Obj.mapSeq (·.setIfInBounds j u) { cls := .type "list", data := .seq its.toArray n } = { cls := .type "list", data := .seq (its.set j u).toArray n } := by
 simp [Obj.mapSeq]
theorem Inv.lst (I : Inv X pins σ H s) (h : H p = some (.lst xs)) :
  ∃ (its : List Value) (n : Nat), qAn xs its /\ s.heap.get? p = some { cls := .type "list", data := .seq its.toArray n } /\ xs.length <= sizeLine := by
 obtain ⟨z, its, n, r, e⟩ := I.hok p _ h
 exact ⟨its, n, r, e, z⟩
theorem Inv.lstUpd {pins : List (Addr × Obj)} {σ : St} {H : Hp} {s : Shared} {p : Addr} {xs ys : List V} {its its' : List Value} {n n' : Nat} {f : Obj -> Obj} (I : Inv X pins σ H s) (h : H p = some (.lst xs))
  (ho : s.heap.get? p = some { cls := .type "list", data := .seq its.toArray n }) (hf : f { cls := .type "list", data := .seq its.toArray n } = { cls := .type "list", data := .seq its'.toArray n' }) (r : qAn ys its') (hz : ys.length <= sizeLine) (t : Nat) :
  Inv X pins σ (upd H p (.lst ys)) { s with heap := s.heap.update p f, toks := t } := by
 have e : (s.heap.update p f).get? p = some { cls := .type "list", data := .seq its'.toArray n' } := by
  rw [jB5 f ho (by rw [hf] <;> rfl), hf]
 refine I.write (x := p) (e := p) (by rw [h]; trivial) (.inl rfl) (λ b u hb q => (jB6 _ _ (Ne.symm hb)).trans q) ⟨_, e⟩ ?_
 exact ⟨hz, its', n', r, e⟩
def qW5 : V -> V -> V -> Hp -> (Hp -> Prop) -> Prop := λ o i v H Q => ∃ p xs k j, o = .ref p /\ i = .int k /\ H p = some (.lst xs) /\ ixN xs.length k = some j /\ Q (upd H p (.lst (xs.set j v)))
theorem qNr : qYr X qW5 := by
 intro pins s σ H o i v ov iv u Q I ro ri rv h
 obtain ⟨p, xs, k, j, rfl, rfl, hp, hj, q⟩ := h
 cases ro
 obtain ⟨t, rfl⟩ := ri
 obtain ⟨its, n, r, ho, hz⟩ := I.lst hp
 obtain ⟨h1, h2, h3, h4⟩ := qMd hj
 have hl := r.length
 have hn := qE7
 have I' : Inv X pins σ (upd H p (.lst (xs.set j v))) { s with heap := s.heap.update p (Obj.mapSeq (·.setIfInBounds j u)) } :=
  I.lstUpd hp ho (qJ3 its n j u) (r.set rv j) (by rw [List.length_set]; exact hz) s.toks
 by_cases h0 : 0 <= k
 ·have hk : k.toNat = j := by
   rw [seqIndex_of h0 h4] at h1
   exact Option.some.inj h1
  exact PySem.W.ki_setAt ho h0 (by omega) (by rw [jA1, <- hl]; exact h4) (by rw [hk]; exact ⟨_, I', q⟩)
 ·have hk : (k + (its.toArray.size : Int)).toNat = j := by
   rw [seqIndex_neg (by omega) h3] at h1
   rw [jA1, <- hl]
   exact Option.some.inj h1
  exact PySem.W.ki_setBack ho (by omega) (by rw [jA1, <- hl]; exact h3) (by omega) (by rw [hk]; exact ⟨_, I', q⟩)
theorem qGk (lo hi : Option Int) (n : Nat) : (sliceBounds lo hi none n).1 = ((HT.sIx n 0 lo : Nat) : Int) /\ (sliceBounds lo hi none n).2.1 = ((HT.sIx n n hi : Nat) : Int) /\ (sliceBounds lo hi none n).2.2 = 1 := by
 refine ⟨?_, ?_, rfl⟩
 ·cases lo with
  | none => simp [sliceBounds, HT.sIx]
  | some i =>
   simp only [sliceBounds, HT.sIx, Option.getD_none, show (1 : Int) > 0 by decide, if_true]
   by_cases h : i < 0
   ·simp only [h, if_true] <;> omega
   ·simp only [h, if_false] <;> omega
 ·cases hi with
  | none => simp [sliceBounds, HT.sIx]
  | some i =>
   simp only [sliceBounds, HT.sIx, Option.getD_none, show (1 : Int) > 0 by decide, if_true]
   by_cases h : i < 0
   ·simp only [h, if_true] <;> omega
   ·simp only [h, if_false] <;> omega
theorem qFl (its : List Value) (lo hi : Option Int) : slicePick its.toArray lo hi none = ((its.drop (HT.sIx its.length 0 lo)).take (HT.sIx its.length its.length hi - HT.sIx its.length 0 lo)).toArray := by
 obtain ⟨h1, h2, h3⟩ := qGk lo hi its.toArray.size
 unfold slicePick
 rw [h1, h2, h3]
 simp only [sliceRange_one, pick_run, jA1] <;> rfl
def qZa (K : PySem.W.Frag) : V -> Option Int -> Option Int -> Hp -> VK -> Prop := λ x lo hi H Q => ∃ a xs, x = .ref a /\ SqL K H a xs /\ ∀ p, H p = none -> Q (.ref p) (upd H p (.lst (qPx xs lo hi)))
theorem qQd : SlR X (qZa X.K) := by
 intro pins s σ H x v vl vu lo hi sl Q I rx hs pl pu h
 obtain ⟨a, xs, rfl, hx, q⟩ := h
 cases rx
 obtain ⟨its, r, ht, hz⟩ := I.list hx
 have hlen := r.length
 refine ⟨"list", _, slot_list_getitem.lookup, ht.isList.typeIs, ?_⟩
 refine wpAny_getItem_list_slice ht.isList hs pl pu .none (by simp) ?_ (by rw [jA1] <;> omega)
 rw [qFl, <- hlen]
 refine ⟨.ref s.heap.objs.size, _, I.laid (t' := s.toks) (o := .lst (qPx xs lo hi)) (λ b ob q => jAv _ q) (jAy _) ?_, rfl, q _ (I.hok.fresh (jAy _))⟩
 exact ⟨jAk (qEv xs lo hi) hz, _, 0, (r.drop (HT.sIx xs.length 0 lo)).take (HT.sIx xs.length xs.length hi - HT.sIx xs.length 0 lo), jAx _ rfl⟩
theorem qHf : qBm X (.builtin "len") (λ xs H Q => ∃ p ys, xs = [.ref p] /\ (SqL X.K H p ys \/ SqT X.K H p ys) /\ Q (.int ys.length) H) := by
 intro pins s σ H xs us Q I r h
 obtain ⟨p, ys, rfl, hq, q⟩ := h
 obtain ⟨u, rfl, rx⟩ := qJo r
 cases rx
 have hn := qE7
 rcases hq with hq | hq
 ·obtain ⟨its, r', pl, hz⟩ := I.list hq
  have hlen := r'.length
  exact Calls.call_len_list pl.isList (by simp only [jA1] <;> omega) ⟨.int ys.length, H, I.tok _, ⟨s.toks + 1, by rw [jA1, hlen]⟩, q⟩
 ·obtain ⟨its, r', pl, hz⟩ := I.tuple hq
  have hlen := r'.length
  exact len_tuple pl (by simp only [jA1] <;> omega) ⟨.int ys.length, H, I.tok _, ⟨s.toks + 1, by rw [jA1, hlen]⟩, q⟩
theorem qHe : qBm X (.builtin "len") (λ xs H Q => ∃ z, xs = [.str z] /\ z.length <= sizeLine /\ Q (.int z.length) H) := by
 intro pins s σ H xs us Q I r h
 obtain ⟨z, rfl, hz, q⟩ := h
 obtain ⟨u, rfl, t, rfl⟩ := qJo r
 have hn := qE7
 exact len_str (by omega) ⟨.int z.length, H, I.tok _, ⟨_, rfl⟩, q⟩
theorem qBm.or (h : qBm X f r) (h' : qBm X f r') : qBm X f (λ xs H Q => r xs H Q \/ r' xs H Q) := by
 intro pins s σ H xs us Q I rs q
 rcases q with q | q
 ·exact h pins s σ H xs us Q I rs q
 ·exact h' pins s σ H xs us Q I rs q
theorem qHd : qBm X (.type "list") (λ xs H Q => ∃ p ys, xs = [.ref p] /\ (SqL X.K H p ys \/ SqT X.K H p ys) /\ ∀ l, H l = none -> Q (.ref l) (upd H l (.lst ys))) := by
 intro pins s σ H xs us Q I r h
 obtain ⟨p, ys, rfl, hq, q⟩ := h
 obtain ⟨u, rfl, rx⟩ := qJo r
 cases rx
 have fin : ∀ (its : List Value), qAn ys its -> ys.length <= sizeLine -> ∀ (h' : Heap) (c' : Nat), (∀ b o', s.heap.get? b = some o' -> h'.get? b = some o') ->
   h'.get? s.heap.objs.size = some { cls := .type "list", dict := none, data := .seq its.toArray c', slots := #[] } -> EP X pins σ Q (.ref s.heap.objs.size) { s with heap := h' } := λ its r' hz h' c' kp e =>
  ⟨.ref s.heap.objs.size, _, I.laid (t' := s.toks) kp (jAy _) (show qA9 X.prog X.w _ h' _ (.lst ys) from ⟨hz, its, c', r', e⟩), rfl, q _ (I.hok.fresh (jAy _))⟩
 rcases hq with hq | hq
 ·obtain ⟨its, r', pl, hz⟩ := I.list hq
  have hlen := r'.length
  obtain ⟨o, ho, hc, n, hd⟩ := pl.isList
  exact call_list_seq p (.inl rfl) ho hc hd (λ h' c' kp e => fin its r' hz h' c' kp e) (by simp only [jA1] <;> omega)
 ·obtain ⟨its, r', pl, hz⟩ := I.tuple hq
  have hlen := r'.length
  obtain ⟨o, ho, hc, n, hd⟩ := pl
  exact call_list_seq p (.inr rfl) ho hc hd (λ h' c' kp e => fin its r' hz h' c' kp e) (by simp only [jA1] <;> omega)
theorem qF3 : qBm X (.type "tuple") (λ xs H Q => ∃ p ys, xs = [.ref p] /\ ((SqL X.K H p ys /\ ∀ l, H l = none -> Q (.ref l) (upd H l (.tup ys))) \/ (SqT X.K H p ys /\ Q (.ref p) H))) := by
 intro pins s σ H xs us Q I r h
 obtain ⟨p, ys, rfl, h⟩ := h
 obtain ⟨u, rfl, rx⟩ := qJo r
 cases rx
 rcases h with ⟨hq, q⟩ | ⟨hq, q⟩
 ·obtain ⟨its, r', pl, hz⟩ := I.list hq
  have hlen := r'.length
  refine call_tuple_list pl.isList (λ h' kp => ?_) (by simp only [jA1] <;> omega)
  have I1 : Inv X pins σ H { s with heap := h' } := I.kept (t' := s.toks) kp
  have I2 : Inv X pins σ (upd H h'.objs.size (.tup ys)) { s with heap := h'.push { cls := .type "tuple", data := .seq its.toArray } } :=
   I1.laid (t' := s.toks) (λ b o e => jAv _ e) (jAy _) (show qA9 X.prog X.w _ _ _ (.tup ys) from ⟨hz, its, r', IsTup.new _ _⟩)
  exact ⟨.ref h'.objs.size, _, I2, rfl, q _ (I1.hok.fresh (jAy _))⟩
 ·obtain ⟨its, r', pl, hz⟩ := I.tuple hq
  exact call_tuple_same pl ⟨.ref p, H, I, rfl, q⟩
def tyV (K : PySem.W.Frag) (T : String) (x : V) (H : Hp) : Prop := match x with
 | .str _ => T = "str"
 | .int _ => T = "int"
 | .ref p => (T = "list" /\ ∃ xs, SqL K H p xs) \/ (T = "tuple" /\ ∃ o, K.lookup p = some o /\ o.cls = .type "tuple" /\ o.dict = none) \/
   (T = "dict" /\ ((∃ kvs, H p = some (.dK kvs)) \/ ∃ kvs, H p = some (.dT kvs))) \/ (T = "set" /\ ∃ S n, H p = some (.set S n))
 | _ => False
theorem qSy (I : Inv X pins σ H s) (r : qA6 x v) (ty : tyV X.K T x H) :
  s.TypeIs v T /\ ∀ a, v = .ref a -> ∃ ob, s.heap.get? a = some ob /\ ob.dict = none := by
 cases x with
 | str z =>
  obtain ⟨t, rfl⟩ := r
  cases (show T = "str" from ty)
  exact ⟨typeIs_str s z t, λ _ e => nomatch e⟩
 | int i =>
  obtain ⟨t, rfl⟩ := r
  cases (show T = "int" from ty)
  exact ⟨typeIs_int s i t, λ _ e => nomatch e⟩
 | ref p =>
  cases r
  rcases ty with ⟨rfl, xs, hq⟩ | ⟨rfl, o, hk, hc, hd⟩ | ⟨rfl, hk⟩ | ⟨rfl, S, n, hk⟩
  ·obtain ⟨its, _, pl, _⟩ := I.list hq
   refine ⟨pl.isList.typeIs, λ a e => ?_⟩
   cases e
   obtain ⟨o, n, e, c, hd, _⟩ := pl
   exact ⟨o, e, hd⟩
  ·refine ⟨⟨o, I.kIn p o hk, hc⟩, λ a e => ?_⟩
   cases e
   exact ⟨o, I.kIn _ o hk, hd⟩
  ·have z : ∃ o, s.heap.get? p = some o /\ o.ExactDict := by
    rcases hk with ⟨kvs, hk⟩ | ⟨kvs, hk⟩
    ·obtain ⟨_, _, _, _, o, _, _, e, ex, _⟩ := I.hok p _ hk
     exact ⟨o, e, ex⟩
    ·obtain ⟨_, _, _, _, o, _, _, e, ex, _⟩ := I.hok p _ hk
     exact ⟨o, e, ex⟩
   obtain ⟨o, e, ex⟩ := z
   refine ⟨⟨o, e, ex.1⟩, λ a e2 => ?_⟩
   cases e2
   exact ⟨o, e, ex.2.1⟩
  ·obtain ⟨o, _, _, _, e, ex, _⟩ := I.hok p _ hk
   refine ⟨⟨o, e, ex.1⟩, λ a e2 => ?_⟩
   cases e2
   exact ⟨o, e, ex.2.1⟩
 | _ => exact False.elim ty
def tBM (K : PySem.W.Frag) (T : String) (r : V -> List V -> Hp -> VK -> Prop) (to : TE) (t : TA) : TE := λ σ H Q => to σ H λ x H1 => tyV K T x H1 /\ t σ H1 λ xs H2 => r x xs H2 Q
variable {o e : Expr} {es : List Expr} {to : TE} {t : TA} {name : Str} {apos cpos : Pos} {T id : String} {r : V -> List V -> Hp -> VK -> Prop}
theorem qQy (pa : PlainAttrs T) (slot : Slot T name id) (hty : typeOf (.builtin id) = pure (.type "method_descriptor")) (hm : MtR X id r) (ho : PE X o to) (ha : PA X (e :: es) t)
  (hbase : attributeBase o name X.env (eval o X.env) = eval o X.env := by rfl)
  (hfew : ((backTo cpos (starEach (e :: es) X.env)).all (λ x => !x.1) && (backToKw cpos (keywordEach [] X.env)).all (λ x => x.1.isSome)
   && decide ((e :: es).length + ([] : List Keyword).length + (if ([] : List Keyword).isEmpty then 0 else 1) < 30)) = true := by rfl)
  (hline : (apos.endLine == cpos.line) = true := by rfl) (hs : starEach (e :: es) X.env = (false, eval e X.env) :: starEach es X.env := by rfl) (hplain : (backTo cpos (starEach es X.env)).any (·.1) = false := by rfl) :
  PE X (.Call (.Attribute o name apos) (e :: es) [] cpos) (tBM X.K T r to t) := by
 intro pins s σ H Q I h
 refine wpAny_Call_method_late hbase hfew hline rfl (thn (ho pins s σ H _ I h) λ v s1 ⟨x, H1, I1, r1, ty, q1⟩ => ?_)
 obtain ⟨h1, h2⟩ := qSy I1 r1 ty
 refine ⟨T, id, pa, slot, hty, h1, h2, ?_⟩
 have hA := ha cpos pins s1 σ H1 _ I1 q1
 rw [hs] at hA ⊢
 refine Calls.callWith_builtin (by show (false || (backTo cpos (starEach es X.env)).any (·.1)) = false; rw [hplain] <;> rfl) (Calls.evalArgs_plain ?_)
 exact thn hA λ us s2 ⟨vs, H2, I2, r2, q2⟩ => hm pins s2 σ H2 x vs v us Q I2 r1 r2 q2
end
end L2
namespace L2
open PySem PySem.Spec PyProof.Rows
def MtM (X : Cx) (id : String) (r : V -> List V -> Hp -> VK -> Prop) : Prop :=
 ∀ (pins : List (Addr × Obj)) (s : Shared) (σ : St) (H : Hp) (x : V) (xs : List V) (v : Value) (us : List Value) (Q : VK), Inv X pins σ H s -> qA6 x v -> qAn xs us -> r x xs H Q ->
  wpAny (model X.prog X.w) X.A (call (.builtin id) (v :: us)) (EP X pins σ Q) X.xe s
theorem qAn.one : ∀ {x : V} {us : List Value}, qAn [x] us -> ∃ u, us = [u] /\ qA6 x u
 | _, _, .cons r .nil => ⟨_, rfl, r⟩
theorem qAn.two : ∀ {x y : V} {us : List Value}, qAn [x, y] us -> ∃ u v, us = [u, v] /\ qA6 x u /\ qA6 y v
 | _, _, _, .cons r (.cons q .nil) => ⟨_, _, rfl, r, q⟩
theorem qAn.eraseIdx : ∀ {xs : List V} {us : List Value} (i : Nat), qAn xs us -> qAn (xs.eraseIdx i) (us.eraseIdx i)
 | _, _, _, .nil => .nil
 | _, _, 0, .cons _ t => t
 | _, _, i + 1, .cons r t => .cons r (qAn.eraseIdx i t)
theorem qAn.rep (h : qAn xs us) : ∀ k : Nat, qAn (jBq k xs).flatten (jBq k us).flatten
 | 0 => .nil
 | k + 1 => by
  rw [jB7, jB7, jB8, jB8]
  exact qAn.append h (qAn.rep h k)
theorem qG4 : ∀ (l : List α) (i : Nat), (l.eraseIdx i).length <= l.length
 | [], _ => jAy _
 | _ :: _, 0 => Nat.le_succ _
 | _ :: r, i + 1 => jB9 (qG4 r i)
theorem qG8 (its : List Value) : ∀ (k : Nat) (acc : List Value),
  List.foldl (λ x1 x2 => x1 ++ x2) acc.toArray (jBq k its.toArray) = (acc ++ (jBq k its).flatten).toArray
 | 0, acc => by simp
 | k + 1, acc => by
  have e : acc.toArray ++ its.toArray = (acc ++ its).toArray := by simp
  have e2 : (acc ++ its) ++ (jBq k its).flatten = acc ++ (jBq (k + 1) its).flatten := by
   rw [jB7, jB8, List.append_assoc]
  rw [<- e2, <- qG8 its k (acc ++ its), <- e, jB7, List.foldl_cons]
section
variable {X : Cx} {pins : List (Addr × Obj)} {σ : St} {H : Hp} {s : Shared} {l b : Addr} {xs ys zs : List V}
theorem Inv.lset {its its' : List Value} {n : Nat} {f : Array Value -> Array Value} {t' : Nat} (I : Inv X pins σ H s) (hH : H l = some (.lst xs))
  (e : s.heap.get? l = some { cls := .type "list", data := .seq its.toArray n }) (hf : f its.toArray = its'.toArray) (hv : qAn ys its') (hz : ys.length <= sizeLine) :
  Inv X pins σ (upd H l (.lst ys)) { s with heap := s.heap.update l (Obj.mapSeq f), toks := t' } := by
 have q := PySem.IsL.update e f
 rw [hf] at q
 refine I.write (x := l) (e := l) (by rw [hH]; exact trivial) (.inl rfl) (λ b' u hb hu => (jB6 s.heap (Obj.mapSeq f) (Ne.symm hb)).trans hu) ⟨_, q⟩ ?_
 exact ⟨hz, its', _, hv, q⟩
theorem Inv.lnew (I : Inv X pins σ H s) (hv : qAn ys its) (hz : ys.length <= sizeLine) :
  Inv X pins σ (upd H s.heap.objs.size (.lst ys)) { s with heap := s.heap.push { cls := .type "list", data := .seq its.toArray }, toks := t' } :=
 I.laid (λ _ _ q => jAv _ q) (jAy _) ⟨hz, its, 0, hv, jAx _ rfl⟩
theorem Inv.fresh (I : Inv X pins σ H s) : H s.heap.objs.size = none := I.hok.fresh (jAy _)
theorem Inv.lstM (I : Inv X pins σ H s) (hH : H l = some (.lst xs)) : xs.length <= sizeLine /\ ∃ (its : List Value) (n : Nat), qAn xs its /\ xs.length = its.length /\ s.heap.get? l = some { cls := .type "list", data := .seq its.toArray n } := by
 obtain ⟨z, its, n, r, e⟩ := I.hok l _ hH
 exact ⟨z, its, n, r, r.length, e⟩
theorem Inv.lstR (I : Inv X pins σ H s) (hH : Rd H l (.lst xs)) : xs.length <= sizeLine /\ ∃ (its : List Value) (n : Nat), qAn xs its /\ xs.length = its.length /\ s.heap.get? l = some { cls := .type "list", data := .seq its.toArray n } := by
 obtain ⟨z, its, n, r, e⟩ := hH.ok I.hok
 exact ⟨z, its, n, r, r.length, e⟩
theorem qOl (h : n <= sizeLine) : Builtin.List.listTooLong n = false := by
 unfold Builtin.List.listTooLong
 exact decide_eq_false (by omega)
end
section
variable {X : Cx}
def qLa : V -> List V -> Hp -> VK -> Prop := λ x vs H Q => ∃ l xs y, x = .ref l /\ vs = [y] /\ H l = some (.lst xs) /\ xs.length < sizeLine /\ Q .non (upd H l (.lst (xs ++ [y])))
theorem qGy : MtM X "list.append" qLa := by
 intro pins s σ H x vs v us Q I rx rv h
 obtain ⟨l, xs, y, rfl, rfl, hH, hz, q⟩ := h
 cases rx
 obtain ⟨u, rfl, ru⟩ := rv.one
 obtain ⟨z, its, n, r, hl, e⟩ := I.lstM hH
 refine call_meets F.slot_list_append ⟨_, e, rfl⟩ F.entry_list_append (F.args_list_append_2 _ _) (PySem.list_append l its.toArray n u (by rw [jA1]; omega)) ⟨e, ?_⟩
 refine ⟨.non, _, I.lset (its' := its ++ [u]) hH e (by simp) (r.append (.cons ru .nil)) ?_, rfl, q⟩
 rw [jB0, jCa]
 omega
def qPl : V -> List V -> Hp -> VK -> Prop := λ x vs H Q => ∃ l xs i k y, x = .ref l /\ vs = [.int i] /\ H l = some (.lst xs) /\ -(2 ^ 63) <= i /\ i < 2 ^ 63 /\ seqIndex? i xs.length = some k /\ xs[k]? = some y /\ Q y (upd H l (.lst (xs.eraseIdx k)))
theorem qOp : MtM X "list.pop" qPl := by
 intro pins s σ H x vs v us Q I rx rv h
 obtain ⟨l, xs, i, k, y, rfl, rfl, hH, h1, h2, hk, hy, q⟩ := h
 cases rx
 obtain ⟨u, rfl, ru⟩ := rv.one
 obtain ⟨t, rfl⟩ := ru
 obtain ⟨z, its, n, r, hl, e⟩ := I.lstM hH
 obtain ⟨w, hw, rw'⟩ := r.get hy
 refine call_meets F.slot_list_pop ⟨_, e, rfl⟩ F.entry_list_pop (F.args_list_pop_2 _ _)
  (MeetsSeq.list_pop_at l its.toArray n i t k w (fitsIndex_both h1 h2) (by rw [jA1, <- hl]; exact hk) (by rw [<- Array.getElem?_toList]; exact hw) (by rw [jA1]; omega)) ⟨e, ?_⟩
 refine ⟨y, _, I.lset (its' := its.eraseIdx k) hH e ?_ (r.eraseIdx k) ?_, rw', q⟩
 ·show its.toArray.eraseIdxIfInBounds k = (its.eraseIdx k).toArray
  rw [List.eraseIdxIfInBounds_toArray]
 ·have := qG4 xs k
  omega
def qYk : R2 := λ x y H Q => ∃ l b xs zs, x = .ref l /\ y = .ref b /\ Rd H l (.lst xs) /\ Rd H b (.lst zs) /\ xs.length + zs.length <= sizeLine /\ ∀ p, H p = none -> Q (.ref p) (upd H p (.lst (xs ++ zs)))
theorem qUy : OpR X (binaryOp .Add) qYk := by
 intro pins s σ H x y v u Q I rx ry h
 obtain ⟨l, b, xs, zs, rfl, rfl, hH, hB, hz, q⟩ := h
 cases rx
 cases ry
 obtain ⟨z, its, n, r, hl, e⟩ := I.lstR hH
 obtain ⟨z2, its2, n2, r2, hl2, e2⟩ := I.lstR hB
 refine PySem.P.add_list e e2 ?_ (by rw [jA1, jA1]; omega)
 have ea : its.toArray ++ its2.toArray = (its ++ its2).toArray := by simp
 rw [ea]
 exact ⟨.ref _, _, I.lnew (t' := s.toks) (r.append r2) (by rw [jB0]; omega), rfl, q _ I.fresh⟩
def qYe : R2 := λ x y H Q => ∃ l k xs, x = .ref l /\ y = .int k /\ Rd H l (.lst xs) /\ -(2 ^ 63) <= k /\ k < 2 ^ 63 /\ xs.length * k.toNat <= sizeLine /\
 ∀ p, H p = none -> Q (.ref p) (upd H p (.lst (jBq k.toNat xs).flatten))
theorem qRw (xs : List α) (k : Nat) : (jBq k xs).flatten.length = k * xs.length := by
 induction k with
 | zero => simp
 | succ k ih => rw [jB7, jB8, jB0, ih, Nat.succ_mul, Nat.add_comm]
theorem qUt : OpR X (binaryOp .Mult) qYe := by
 intro pins s σ H x y v u Q I rx ry h
 obtain ⟨l, k, xs, rfl, rfl, hH, h1, h2, hz, q⟩ := h
 cases rx
 obtain ⟨t, rfl⟩ := ry
 obtain ⟨z, its, n, r, hl, e⟩ := I.lstR hH
 have hlen : its.toArray.size * k.toNat <= sizeLine := by rw [jA1, <- hl]; exact hz
 have hcap : ¬ its.toArray.size * k.toNat > (2 ^ 63 - 1) / 8 := by
  have : (sizeLine : Nat) <= (2 ^ 63 - 1) / 8 := by decide
  omega
 have hfit : ¬ (!Builtin.List.listFitsIndex k) = true := by
  rw [fitsIndex_both h1 h2]
  exact Bool.false_ne_true
 have hlong : ¬ Builtin.List.listTooLong (its.toArray.size * k.toNat) = true := by
  rw [qOl hlen]
  exact Bool.false_ne_true
 have hnew : List.foldl (λ x1 x2 => x1 ++ x2) #[] (jBq (if its.toArray.isEmpty = true then 0 else k.toNat) its.toArray) = (jBq k.toNat its).flatten.toArray := by
  have f0 : ∀ m : Nat, List.foldl (λ x1 x2 => x1 ++ x2) #[] (jBq m its.toArray) = (jBq m its).flatten.toArray := λ m => by
   have := qG8 its m []
   rw [jCb] at this
   exact this
  rw [f0]
  cases its with
  | nil => simp
  | cons a r' => rw [if_neg (by simp)]
 refine wpAny_binaryOp_repeat_ref (T := "list") (U := "int") (by decide) ⟨_, e, rfl⟩ (λ s' => typeIs_int s' k t) noFill_list_mul F.fills_int_mul F.slot_int_rmul repeat_list F.slot_int_index.lookup
  (call_meets F.slot_int_rmul (typeIs_int s k t) F.entry_int_rmul (F.args_int_rmul_2 _ _) (int___rmul___int_list k t l its.toArray n)
   ⟨e, rfl, ⟨_, e, rfl⟩, call_meets F.slot_list_mul ⟨_, e, rfl⟩ F.entry_list_mul (F.args_list_mul_2 _ _) (AutoListH.list___mul___list_int_3 l its.toArray n k t hfit hcap hlong) ⟨e, ?_⟩⟩)
 rw [hnew]
 exact ⟨.ref _, _, I.lnew (t' := s.toks) (r.rep k.toNat) (by rw [qRw, Nat.mul_comm]; exact hz), rfl, q _ I.fresh⟩
end
end L2
namespace Att
open PySem PySem.W PySem.Calls PyProof.Rows
theorem qEs : ∀ (ns : List Int) (vs : List Value), WellAll P h vs (ns.map WData.int) -> IntsAre vs ns := by
 intro ns
 induction ns with
 | nil =>
  intro vs w
  rw [jCc] at w
  cases w
  exact .nil
 | cons n ns ih =>
  intro vs w
  rw [jBf] at w
  cases w with
  | cons a b =>
   cases a
   exact .cons _ _ (ih _ b)
theorem qK5 {l : OpenLaw} {n : Nat} (hn : l.most = some n) {P : Params} {h : Heap} {args : List WData} {vals : List Value}
  (hpre : l.row.toRowW.claim.pre args = true) (hwl : WellAll P h vals args) :
  ∃ a vs ns, vals = [Value.ref a] /\ args = [WData.list (ns.map WData.int)] /\ h.get? a = some { cls := .type "list", data := .seq vs.toArray } /\ IntsAre vs ns /\ ns.length <= n := by
 have hsh : WShape.hasAll [] args [.list .int] = true := (pre_splitW hpre).1
 have hc : l.pre.holds [] { args := args } = true := (pre_splitW hpre).2
 obtain ⟨d, r, rfl, h1, h2⟩ := hasAllW_cons hsh
 obtain rfl := hasAllW_nil h2
 obtain ⟨xs, rfl, h3⟩ := hasW_list h1
 obtain ⟨ns, rfl⟩ := items_int h3
 have hlen : ns.length <= n := by
  unfold OpenLaw.pre at hc
  have h4 : (WTm.not (.lt (.lit (.int (n : Int))) (.len (.arg 0)))).holds [] { args := [.list (ns.map .int)] } = true := by
   have h4 := (holds_andW hc).1
   rw [hn] at h4
   exact h4
  have h5 := condW_of h4 (w_not (w_lt w_lit (w_len_list (w_arg rfl))))
  rw [jBh] at h5
  refine jCd λ q => ?_
  have q' : (n : Int) < ((ns.length : Nat) : Int) := by omega
  first
   | (rw [decide_eq_true q'] at h5; exact absurd h5 (by decide))
   | (simp at h5; omega)
 cases hwl with
 | cons w1 w2 =>
  cases w2
  cases w1 with
  | list ho hall => exact ⟨_, _, ns, rfl, rfl, ho, qEs ns _ hall, hlen⟩
theorem qLg (l : OpenLaw) (args : List WData) : l.row.toRowW.claim.post args (.bool true) args = true :=
 postW_of (r := l.row.toRowW) (X := (true == true))
  (show WShape.has [] (.bool true) .bool = true by first | rfl | decide | simp [WShape.has, WShape.arms, WShape.armsAll])
  (show (WTm.eq .res (.lit (.bool true))).value [] { args := args, res := some (.bool true), after := args } = some (.bool (true == true)) from w_eq_bool (w_res rfl) w_lit) rfl
theorem attach_call {l : OpenLaw} {n : Nat} {q : Program} {loose : List Str} {XP : (Str -> Option Value) -> Heap -> Prop} {YP : World -> Heap -> Prop} {d : DefRec}
  (hn : l.most = some n) (hdf : d.params.defaults = [])
  (call : ∀ (w : World) (s₀ s₁ : Shared) (mg mb : Str -> Option Value) (fa : Addr) (o : Obj) (pm cd doc : Value) (a : Addr) (vs : List Value) (ns : List Int),
   Ground q loose [] XP w s₀ mg mb s₁.heap -> YP w s₁.heap ->
   s₁.heap.get? fa = some o -> o.data = .func (docDef d.name d.params d.body d.scope pm cd doc) -> s₁.heap.CodeRec cd d.name -> mg d.name = some (.ref fa) ->
   s₁.heap.get? a = some { cls := .type "list", data := .seq vs.toArray } -> IntsAre vs ns -> ns.length <= n -> (∀ z ∈ ns, z.natAbs.log2 < 1048577) -> s₁.gens = #[] ->
   codeAny (model l.prog w) callerA (.call (.ref fa) ⟨[.ref a], []⟩) (λ r s' => r = .ok (.ret (.bool true)) /\ OldK s₁.heap s'.heap /\ s'.os = s₁.os /\ AllBare s'.gens) s₁) :
  WalkO q loose XP YP l.row.toRowW d [] (λ f vs => PySem.call f vs) := by
 intro w s₀ s₁ mg mb G Y fa o pm cd doc dV kV ho hd hcd hD hmg hg args vals as hpre hlay hrd hwl hlo
 obtain rfl : dV = .none := Dflts.none hD hdf
 obtain rfl : kV = .none := Dflts.noKw hD
 obtain ⟨a, vs, ns, rfl, rfl, hobj, hints, hlen⟩ := qK5 hn hpre hwl
 have hbits : ∀ z ∈ ns, z.natAbs.log2 < 1048577 := λ z hz => by
  have l1 := layableW_arg hlay (WData.list (ns.map WData.int)) (by simp)
  have l2 := layableW_item l1 (WData.int z) (jCe.mpr ⟨z, hz, rfl⟩)
  have l3 : (if z == 0 then 0 else z.natAbs.log2 + 1) <= 2 ^ 20 := by simpa [WData.weight] using (layableW_iff.mp l2).2.2
  by_cases h0 : z = 0
  ·subst h0; decide
  ·rw [if_neg (by simpa using h0)] at l3
   omega
 refine enter_call (codeAny_mono (call w s₀ s₁ mg mb fa o pm cd doc a vs ns G Y ho (fd_plain hd) hcd hmg hobj hints hlen hbits hg) λ r s' hq => ?_)
 obtain ⟨rfl, h2, h3, h4⟩ := hq
 exact ⟨.inl ⟨.bool true, .bool true, [], rfl, λ _ => rfl, .bool true, qLg l _, λ _ => ⟨List.Pairwise.nil, λ _ hm => (nomatch hm)⟩⟩, h2, h3, h4⟩
end Att
namespace L2
open PySem PySem.Spec PyProof.Rows
theorem qGh : ∀ {vs : List Value} {ns : List Int}, IntsAre vs ns -> qAn (ns.map V.int) vs
 | _, _, .nil => .nil
 | _, _, .cons n t h => .cons ⟨t, rfl⟩ (qGh h)
def qWd (H : Hp) : Prop := ∀ b, H b = none \/ ∃ o xs, H b = some (.frz o (.lst xs))
theorem law_call {P : Program} {w : World} {K : PySem.W.Frag} {mg mb : Str -> Option Value} {CX : CXT} {k : Nat} {fa a : Addr} {fd : FuncData} {x : Str} {sp : Sp} {s₁ : Shared} {vs : List Value} {ns : List Int}
  (KX : K.In s₁.heap) (hns : s₁.heap.Ns mainGlobals mg) (hb : s₁.heap.Ns builtinsNs mb) (hbb : ∀ x : Str, x ≠ "__name__" -> mb x = bootBuiltins x) (hlim : s₁.heap.NoLimit) (hse : s₁.heap.NoSeer) (hg : s₁.gens = #[])
  (ha : s₁.heap.get? a = some { cls := .type "list", data := .seq vs.toArray }) (hi : IntsAre vs ns) (hl : ns.length <= sizeLine) (hr : qBd k callerA)
  (F : ∀ base : Heap, K.In base -> base.Ns mainGlobals mg -> qCf P w K mg base CX k fa fd [x] sp) (hbind : ∀ (s : Shared) (u : Value), BindsTo s fd ⟨[u], []⟩ [(x, u)])
  (hsp : ∀ H : Hp, qWd H -> SqL K H a (ns.map V.int) -> sp [.ref a] H (λ v _ => v = .bl true) λ _ _ _ => False)
  (hCX : ∀ H e s', CX [] H s₁ (λ _ _ _ => False) e s' -> False) :
  codeAny (model P w) callerA (.call (.ref fa) ⟨[.ref a], []⟩) (λ r s' => r = .ok (.ret (.bool true)) /\ OldK s₁.heap s'.heap /\ s'.os = s₁.os /\ AllBare s'.gens) s₁ := by
 have rv := qGh hi
 have lenV := hi.length
 -- from an abstract heap in which nothing but the script may be tracked
 have core : ∀ H : Hp, qWd H -> SqL K H a (ns.map V.int) -> HOk P w H s₁.heap -> (∀ b, H b ≠ none -> b = a) -> (H a ≠ none -> K.lookup a = none) ->
   codeAny (model P w) callerA (.call (.ref fa) ⟨[.ref a], []⟩) (λ r s' => r = .ok (.ret (.bool true)) /\ OldK s₁.heap s'.heap /\ s'.os = s₁.os /\ AllBare s'.gens) s₁ := by
  intro H hO hS hok hA hK
  have base_of : ∀ {b : Addr} {o : Obj}, s₁.heap.get? b = some o -> H b = none -> (qO0 s₁.heap H).get? b = some o := λ e n => qOz e n
  have noA : ∀ {b : Addr} {o : Obj} {es : Array DictEntry} {ep : Nat}, s₁.heap.get? b = some o -> o.data = .dict es ep -> H b = none := fun {b o es ep} e d => by
   cases q : H b with
   | none => rfl
   | some u =>
    have e' : b = a := hA b (by rw [q]; simp)
    subst e'
    rw [ha] at e; cases e
    have d' : Data.seq vs.toArray _ = Data.dict es ep := d
    cases d'
  have nsK : ∀ {b : Addr} {m : Str -> Option Value}, s₁.heap.Ns b m -> (qO0 s₁.heap H).Ns b m := fun {b m} ⟨o, es, ep, e, d, r⟩ => ⟨o, es, ep, base_of e (noA e d), d, r⟩
  have hKb : K.In (qO0 s₁.heap H) := λ b o e => base_of (KX b o e) (by
   cases q : H b with
   | none => rfl
   | some u =>
    have e' : b = a := hA b (by rw [q]; simp)
    subst e'
    rw [hK (by rw [q]; simp)] at e; cases e)
  have hM : Mod K mg (qO0 s₁.heap H) := ⟨hKb, nsK hns, ⟨mb, nsK hb, hbb⟩, let ⟨mc, h1, h2⟩ := hlim; ⟨mc, nsK h1, h2⟩,
   ⟨let ⟨mc, a, b⟩ := hse.statics; ⟨mc, nsK a, b⟩, let ⟨mc, a, b⟩ := hse.mods; ⟨mc, nsK a, b⟩, let ⟨mc, a, b⟩ := hse.imp; ⟨mc, nsK a, b⟩, let ⟨mg', bm, ob, a', b', c', d', e'⟩ := hse.main; ⟨mg', bm, ob, nsK a', b', base_of c' (by
    cases q : H bm with
    | none => rfl
    | some u =>
     have e2 : bm = a := hA bm (by rw [q]; simp)
     subst e2
     rw [ha] at c'; cases c'
     have d2 : Value.type "list" = Value.type "module" := d'
     exact absurd d2 (by decide +kernel)), d', e'⟩⟩⟩
  have e0 : qSj P w K mg (qO0 s₁.heap H) callerA [] s₁ H := ⟨rfl, hM, λ b o e => qRr e, Nat.le_of_eq (qMh _ _), trivial, λ b hb => absurd (show b ∈ ([] : List Addr) from hb) (by simp), hok, .of_eq hg⟩
  refine codeAny_mono ((F _ hKb (nsK hns)).run callerA [] s₁ H ⟨[.ref a], []⟩ [.ref a] [.ref a] _ _ hr e0 (hbind s₁ (.ref a)) (.cons rfl .nil) (hsp H hO hS)) λ r s' h => ?_
  cases r with
  | error e => exact (hCX H e s' h).elim
  | ok fl =>
   cases fl with
   | next => exact False.elim h
   | brk => exact False.elim h
   | cont => exact False.elim h
   | ret u =>
    obtain ⟨v, H', os, bare, un, hok', r', q⟩ := h
    have q' : v = .bl true := q
    subst q'
    obtain rfl : u = Value.bool true := r'
    refine ⟨rfl, OldK.of_keep λ b o e => ?_, os, bare⟩
    cases q : H b with
    | none => exact un.keep b o e q (by intro z; exact absurd (show b ∈ ([] : List Addr) from z) (by simp)) (by simp)
    | some u =>
     rcases hO b with z | ⟨ob, xs, z⟩
     ·rw [q] at z; cases z
     ·have z2 := un.frzs b ob _ z
      obtain ⟨e1, _⟩ := hok b _ z
      obtain ⟨e2, _⟩ := hok' b _ z2
      rw [e] at e1; cases e1
      exact e2
 cases hk : K.lookup a with
 | some o =>
  -- the script is one of the module's own objects
  have e := KX a o hk
  rw [ha] at e
  cases e
  refine core (λ _ => none) (λ _ => .inl rfl) (.inr ⟨_, vs.toArray, _, hk, rfl, rfl, rfl, by rw [jA1, lenV]; exact hl, by simpa using rv⟩) (λ b u z => by have z' : (none : Option HO) = some u := z; cases z') (λ b z => absurd rfl z) λ z => absurd rfl z
 | none =>
  refine core (λ b => if b = a then some (.frz { cls := .type "list", data := .seq vs.toArray } (.lst (ns.map V.int))) else none) (λ b => ?_) (.inl (.inr ⟨{ cls := .type "list", data := .seq vs.toArray }, if_pos rfl⟩)) (λ b u z => ?_) (λ b z => ?_) λ _ => hk
  ·by_cases hb : b = a
   ·exact .inr ⟨_, _, if_pos hb⟩
   ·exact .inl (if_neg hb)
  ·by_cases hb : b = a
   ·have z' := (if_pos hb).symm.trans z
    cases z'
    subst hb
    exact ⟨ha, by rw [jBh]; exact hl, vs, _, rv, ha⟩
   ·have z' := (if_neg hb).symm.trans z
    cases z'
  ·by_cases hb : b = a
   ·exact hb
   ·exact absurd (if_neg hb) z
end L2
namespace L2
open PySem PySem.Spec PyProof.Rows
theorem walk_of {l : PySem.W.OpenLaw} {n k : Nat} {q : Program} {loose : List Str} {XP : (Str -> Option Value) -> Heap -> Prop} {YP : World -> Heap -> Prop} {d : DefRec} {K : Params -> PySem.W.Frag} {CX : World -> CXT} {sp : World -> Sp} {x : Str}
  (hn : l.most = some n) (hn2 : n <= sizeLine) (hdf : d.params.defaults = []) (hr : qBd k callerA)
  (hY : ∀ (w : World) (h : Heap), YP w h -> (K w.params).In h)
  (F : ∀ (w : World) (mg : Str -> Option Value) (fa : Addr) (h : Heap), (K w.params).In h -> h.Ns mainGlobals mg -> mg d.name = some (.ref fa) ->
   ∃ fd : FuncData, (∀ (s : Shared) (u : Value), BindsTo s fd ⟨[u], []⟩ [(x, u)]) /\
    ∀ base : Heap, (K w.params).In base -> base.Ns mainGlobals mg -> qCf l.prog w (K w.params) mg base (CX w) k fa fd [x] (sp w))
  (hq : PyProof.Rows.importsNone q = true)
  (hsp : ∀ (w : World) (H : Hp) (a : Addr) (ns : List Int), ns.length <= n -> (∀ z ∈ ns, z.natAbs.log2 < 1048577) -> qWd H -> SqL (K w.params) H a (ns.map V.int) -> sp w [.ref a] H (λ v _ => v = .bl true) λ _ _ _ => False)
  (hCX : ∀ (w : World) (H : Hp) (s : Shared) (e : Value) (s' : Shared), CX w [] H s (λ _ _ _ => False) e s' -> False) :
  PySem.W.WalkO q loose XP YP l.row.toRowW d [] (λ f vs => PySem.call f vs) := by
 refine Att.attach_call hn hdf λ w s₀ s₁ mg mb fa o pm cd doc a vs ns G Y ho hd hcd hmg hobj hints hlen hbits hg => ?_
 have KX := hY w _ Y
 obtain ⟨fd, hb, hF⟩ := F w mg fa _ KX G.T.g hmg
 exact law_call KX G.T.g G.T.b G.T.builtins G.T.nolimit (G.T.seer hq) hg hobj hints (jAk hlen hn2) hr hF hb (λ H hO hS => hsp w H a ns hlen hbits hO hS) λ H e s' => hCX w H s₁ e s'
end L2
namespace L2
open PySem PySem.Spec PyProof.Rows
def zI (s : Stmt) : Arguments := match s with
 | .FunctionDef _ a _ _ _ _ _ _ _ _ => a
 | _ => { posonlyargs := [], args := [], vararg := none, kwonlyargs := [], kw_defaults := [], kwarg := none, defaults := [] }
def zG (s : Stmt) : List Stmt := match s with
 | .FunctionDef _ _ b _ _ _ _ _ _ _ => b
 | _ => []
def zC (s : Stmt) : Scope := match s with
 | .FunctionDef _ _ _ _ _ _ sc _ _ _ => sc
 | _ => { kind := .function, names := [], isGenerator := false, isCoroutine := false }
abbrev CX0 : CXT := λ _ _ _ _ _ _ => False
abbrev E0 : XK := λ _ _ _ => False
theorem zQ : qAv CX0 X E0 := λ _ _ _ _ _ _ _ h => h.elim
structure Fun (K : PySem.W.Frag) (x qual : Str) (st : Stmt) (f : Addr) (fd : FuncData) : Prop where
 ex : ∃ (oc : Value) (od : Option Addr) (kV doc pm : Value) (an : Option Addr) (cdv ct : Value) (osl : Array (Option Value)),
  fd = jB2 x qual (zI st) (zG st) (zC st) .none kV doc pm an cdv ct /\ K.lookup f = some ⟨oc, od, .func fd, osl⟩ /\ jB3 K cdv qual = true
 kp : jBg K (.ref f) = true
section
variable {P : Program} {w : World} {K : PySem.W.Frag} {mg : Str -> Option Value} {base : Heap}
theorem Fun.ok {x qual : Str} {st : Stmt} {f : Addr} {fd : FuncData} {N ps : List Str} {k : Nat} {sp : Sp} (F : Fun K x qual st f fd) (S : zM N ps (zC st)) (len : ∀ vs H Q E, sp vs H Q E -> vs.length = ps.length)
  (hbody : ∀ (cdv : Value) (A : Around) (outer : List Env) (s : Shared) (H : Hp) (vs : List V) (Q : VK) (E : XK), qBd k (A.deeper (envOfC qual (zC st) s.heap.objs.size f cdv)) -> sp vs H Q E ->
   ∃ t, PSs (qFe CX0 P w K mg base N qual (zC st) f cdv A outer s H E).nox (zG st) t /\ t { nx := λ _ H' => Q .non H', rt := Q } (start N vs) H) : qCf P w K mg base CX0 (k + 1) f fd ps sp := by
 obtain ⟨oc, od, kV, doc, pm, an, cdv, ct, osl, rfl, lk, hcd⟩ := F.ex
 refine qR5 lk hcd S len λ A outer s H vs Q E hr hsp => ?_
 obtain ⟨t, h, q⟩ := hbody cdv A outer s H vs Q E hr hsp
 exact ⟨t, h.nox, q⟩
theorem Fun.binds {x qual : Str} {st : Stmt} {f : Addr} {fd : FuncData} {ps : List Str} (F : Fun K x qual st f fd)
  (h : ∀ (kV doc pm : Value) (an : Option Addr) (cdv ct : Value) (us : List Value), us.length = ps.length -> bindArgs (jB2 x qual (zI st) (zG st) (zC st) .none kV doc pm an cdv ct) ⟨us, []⟩ = pure (ps.zip us)) : zS K fd ps [] := by
 obtain ⟨oc, od, kV, doc, pm, an, cdv, ct, osl, rfl, lk, hcd⟩ := F.ex
 exact .all (h kV doc pm an cdv ct)
theorem zY {x qual : Str} {st : Stmt} {f : Addr} {oc : Value} {od an : Option Addr} {osl : Array (Option Value)} {kV doc pm cdv ct : Value} (l : K.lookup f = some ⟨oc, od, .func (jB2 x qual (zI st) (zG st) (zC st) .none kV doc pm an cdv ct), osl⟩)
  (c : jB3 K cdv qual = true) (k : jBg K (.ref f) = true) : Fun K x qual st f (jB2 x qual (zI st) (zG st) (zC st) .none kV doc pm an cdv ct) := ⟨⟨oc, od, kV, doc, pm, an, cdv, ct, osl, rfl, l, c⟩, k⟩
end
def qP1 (H H' : Hp) : Prop := ∀ b o, H b = some o -> H' b = some o
theorem qP1.refl (H : Hp) : qP1 H H := λ _ _ h => h
theorem qP1.trans (a : qP1 H H1) (b : qP1 H1 H2) : qP1 H H2 := λ c o h => b c o (a c o h)
theorem qP1.seq {K : PySem.W.Frag} {H H' : Hp} {a : Addr} {xs : List V} (e : qP1 H H') (h : SqL K H a xs) : SqL K H' a xs := by
 rcases h with (h | ⟨o, h⟩) | h
 ·exact .inl (.inl (e _ _ h))
 ·exact .inl (.inr ⟨o, e _ _ h⟩)
 ·exact .inr h
end L2
end
section
namespace Np
open PySem
inductive D where
 | non | bl (b : Bool) | int (i : Int) | str (x : Str) | tup (xs : List D) | ref (a : Nat) | exc (c : Str) | scr (xs : List D)
 deriving Inhabited
inductive O where
 | lst (xs : List D) | dct (kvs : List (D × D)) | ins (c : Str) (fs : List (Str × D))
 deriving Inhabited
abbrev Sto := List O
inductive Rs (α : Type) where
 | ok (a : α) (S : Sto)
 | er (c : Str) (S : Sto)
abbrev R (α : Type) := Option (Rs α)
@[reducible] def ok {α : Type} (a : α) (S : Sto) : R α := some (.ok a S)
@[reducible] def er {α : Type} (c : Str) (S : Sto) : R α := some (.er c S)
def bnd {α β : Type} (m : R α) (k : α -> Sto -> R β) : R β := match m with
 | some (.ok a S) => k a S
 | some (.er c S) => some (.er c S)
 | none => none
@[simp] theorem bnd_ok (a : α) (S : Sto) (k : α -> Sto -> R β) : bnd (some (Rs.ok a S)) k = k a S := rfl
@[simp] theorem qBe (c : Str) (S : Sto) (k : α -> Sto -> R β) : bnd (some (Rs.er c S)) k = some (Rs.er c S) := rfl
theorem qAk (h : bnd m k = some r) : (∃ a S, m = ok a S /\ k a S = some r) \/ ∃ c S, m = er c S /\ r = .er c S := by
 cases m with
 | none => cases h
 | some m =>
  cases m with
  | ok a S => exact .inl ⟨a, S, rfl, h⟩
  | er c S => cases h; exact .inr ⟨c, S, rfl, rfl⟩
abbrev DS := List (Option D)
inductive Fl where
 | nx (δ : DS) | rt (d : D) | bk (δ : DS) | ct (δ : DS)
abbrev DE := DS -> Sto -> R D
abbrev DT := DS -> Sto -> R Bool
abbrev DA := DS -> Sto -> R (List D)
abbrev DSt := DS -> Sto -> R Fl
abbrev DG := D -> DS -> Sto -> R DS
def vr (i : Nat) (δ : DS) (S : Sto) : R D := match δ[i]? with
 | some (some d) => ok d S
 | _ => none
def cst (d : D) (_ : DS) (S : Sto) : R D := ok d S
def op1 (f : D -> Sto -> R D) (a : DE) (δ : DS) (S : Sto) : R D := bnd (a δ S) f
def op2K (f : D -> D -> Sto -> R D) (b : DE) (δ : DS) (x : D) (S : Sto) : R D := bnd (b δ S) (f x)
def op2 (f : D -> D -> Sto -> R D) (a b : DE) (δ : DS) (S : Sto) : R D := bnd (a δ S) (op2K f b δ)
def aNil (_ : DS) (S : Sto) : R (List D) := ok [] S
def consK (x : D) (xs : List D) (S : Sto) : R (List D) := ok (x :: xs) S
def aConsK (r : DA) (δ : DS) (x : D) (S : Sto) : R (List D) := bnd (r δ S) (consK x)
def zZ (e : DE) (r : DA) (δ : DS) (S : Sto) : R (List D) := bnd (e δ S) (aConsK r δ)
def fnE (f : List D -> Sto -> R D) (as : DA) (δ : DS) (S : Sto) : R D := bnd (as δ S) f
def fnD (f : List D -> Sto -> R D) (ds : List D) (as : List D) (S : Sto) : R D := f (as ++ ds) S
def qVl (a b : DE) (δ : DS) : Bool -> Sto -> R D
 | true, S => a δ S
 | false, S => b δ S
def ifE (t : DT) (a b : DE) (δ : DS) (S : Sto) : R D := bnd (t δ S) (qVl a b δ)
def zH (S : Sto) (a : Nat) : Option (List D) := match S[a]? with
 | some (.lst xs) => some xs
 | _ => none
def qPe : D -> Sto -> R Bool
 | .bl b, S => ok b S
 | _, _ => none
def tv (e : DE) (δ : DS) (S : Sto) : R Bool := bnd (e δ S) qPe
def qPb (b : DT) (δ : DS) : Bool -> Sto -> R Bool
 | true, S => b δ S
 | false, S => ok false S
def andT (a b : DT) (δ : DS) (S : Sto) : R Bool := bnd (a δ S) (qPb b δ)
def qOf (b : DT) (δ : DS) : Bool -> Sto -> R Bool
 | true, S => ok true S
 | false, S => b δ S
def orT (a b : DT) (δ : DS) (S : Sto) : R Bool := bnd (a δ S) (qOf b δ)
def notK (c : Bool) (S : Sto) : R Bool := ok (!c) S
def notT (a : DT) (δ : DS) (S : Sto) : R Bool := bnd (a δ S) notK
def qPa (b : DE) (δ : DS) : Bool -> Sto -> R D
 | true, S => b δ S
 | false, S => ok (.bl false) S
def andVK (b : DE) (δ : DS) (x : D) (S : Sto) : R D := bnd (qPe x S) (qPa b δ)
def andV (a b : DE) (δ : DS) (S : Sto) : R D := bnd (a δ S) (andVK b δ)
def qWj (b : DE) (δ : DS) : Bool -> Sto -> R D
 | true, S => ok (.bl true) S
 | false, S => b δ S
def orVK (b : DE) (δ : DS) (x : D) (S : Sto) : R D := bnd (qPe x S) (qWj b δ)
def orV (a b : DE) (δ : DS) (S : Sto) : R D := bnd (a δ S) (orVK b δ)
def notVB (c : Bool) (S : Sto) : R D := ok (.bl (!c)) S
def notVK (x : D) (S : Sto) : R D := bnd (qPe x S) notVB
def notV (a : DE) (δ : DS) (S : Sto) : R D := bnd (a δ S) notVK
def nxS (δ : DS) (S : Sto) : R Fl := ok (.nx δ) S
def qW3 (b : DSt) : Fl -> Sto -> R Fl
 | .nx δ, S => b δ S
 | .rt d, S => ok (.rt d) S
 | .bk δ, S => ok (.bk δ) S
 | .ct δ, S => ok (.ct δ) S
def seqS (a b : DSt) (δ : DS) (S : Sto) : R Fl := bnd (a δ S) (qW3 b)
def dropK (δ : DS) (_ : D) (S : Sto) : R Fl := ok (.nx δ) S
def dropS (e : DE) (δ : DS) (S : Sto) : R Fl := bnd (e δ S) (dropK δ)
def retK (d : D) (S : Sto) : R Fl := ok (.rt d) S
def retS (e : DE) (δ : DS) (S : Sto) : R Fl := bnd (e δ S) retK
def ifK (a b : DSt) (δ : DS) : Bool -> Sto -> R Fl
 | true, S => a δ S
 | false, S => b δ S
def ifS (t : DT) (a b : DSt) (δ : DS) (S : Sto) : R Fl := bnd (t δ S) (ifK a b δ)
def brkS (δ : DS) (S : Sto) : R Fl := ok (.bk δ) S
def cntS (δ : DS) (S : Sto) : R Fl := ok (.ct δ) S
def setG (i : Nat) (d : D) (δ : DS) (S : Sto) : R DS := ok (δ.set i (some d)) S
def asgK (g : DG) (δ : DS) (d : D) (S : Sto) : R Fl := bnd (g d δ S) nxS
def asgS (e : DE) (g : DG) (δ : DS) (S : Sto) : R Fl := bnd (e δ S) (asgK g δ)
abbrev setS (i : Nat) (e : DE) : DSt := asgS e (setG i)
def parK2 (i j : Nat) (δ : DS) (x y : D) (S : Sto) : R Fl := ok (.nx ((δ.set i (some x)).set j (some y))) S
def parK (i j : Nat) (b : DE) (δ : DS) (x : D) (S : Sto) : R Fl := bnd (b δ S) (parK2 i j δ x)
def parS (i j : Nat) (a b : DE) (δ : DS) (S : Sto) : R Fl := bnd (a δ S) (parK i j b δ)
def tupGs : List DG -> List D -> DS -> Sto -> R DS
 | [], [], δ, S => ok δ S
 | g :: gs, d :: ds, δ, S => bnd (g d δ S) (tupGs gs ds)
 | _, _, _, _ => none
def qHo (gs : List DG) (d : D) (δ : DS) (S : Sto) : R DS := match d with
 | .tup ds => if ds.length = gs.length then tupGs gs ds δ S else none
 | _ => none
inductive Src where
 | fix (xs : List D) | one (a : Nat) | two (a b : Nat) | enm (a : Nat) | rev (a n : Nat)
def qZo (i : Nat) : Option D -> Option D
 | some x => some (.tup [.int i, x])
 | none => none
def qP7 : Option D -> Option D -> Option D
 | some x, some y => some (.tup [x, y])
 | _, _ => none
def Src.get : Src -> Sto -> Nat -> Option (Option D)
 | .fix xs, _, i => some xs[i]?
 | .one a, S, i => match zH S a with
  | some xs => some xs[i]?
  | none => none
 | .two a b, S, i => match zH S a, zH S b with
  | some xs, some ys => some (qP7 xs[i]? ys[i]?)
  | _, _ => none
 | .enm a, S, i => match zH S a with
  | some xs => some (qZo i xs[i]?)
  | none => none
 | .rev a n, S, i => match zH S a with
  | some xs => if i < n then (match xs[n - 1 - i]? with
    | some x => some (some x)
    | none => none) else some none
  | none => none
def Src.len : Src -> Sto -> Nat
 | .fix xs, _ => xs.length
 | .one a, S => match zH S a with
  | some xs => xs.length
  | none => 0
 | .two a _, S => match zH S a with
  | some xs => xs.length
  | none => 0
 | .enm a, S => match zH S a with
  | some xs => xs.length
  | none => 0
 | .rev _ n, _ => n
abbrev DI := DS -> Sto -> R Src
def qOs (k : DSt) : Fl -> Sto -> R Fl
 | .nx δ, S => k δ S
 | .ct δ, S => k δ S
 | .bk δ, S => ok (.nx δ) S
 | .rt d, S => ok (.rt d) S
def qKv (b k : DSt) (δ : DS) (S : Sto) : R Fl := bnd (b δ S) (qOs k)
def qKi (src : Src) (g : DG) (b : DSt) : Nat -> Nat -> DSt
 | 0, i, δ, S => match src.get S i with
  | some none => ok (.nx δ) S
  | _ => none
 | n + 1, i, δ, S => match src.get S i with
  | some none => ok (.nx δ) S
  | some (some x) => bnd (g x δ S) (qKv b (qKi src g b n (i + 1)))
  | none => none
def qYo (g : DG) (b : DSt) (δ : DS) (src : Src) (S : Sto) : R Fl := qKi src g b (src.len S) 0 δ S
def forS (it : DI) (g : DG) (b : DSt) (δ : DS) (S : Sto) : R Fl := bnd (it δ S) (qYo g b δ)
def whK (b k : DSt) (δ : DS) : Bool -> Sto -> R Fl
 | true, S => qKv b k δ S
 | false, S => ok (.nx δ) S
def qA2 (t : DT) (b : DSt) : Nat -> DSt
 | 0, _, _ => none
 | n + 1, δ, S => bnd (t δ S) (whK b (qA2 t b n) δ)
theorem qCu (t : DT) (b : DSt) : ∀ (n : Nat) (δ : DS) (S : Sto) (r : Rs Fl), qA2 t b n δ S = some r -> qA2 t b (n + 1) δ S = some r
 | 0, _, _, _, h => by cases h
 | n + 1, δ, S, r, h => by
  have h : bnd (t δ S) (whK b (qA2 t b n) δ) = some r := h
  show bnd (t δ S) (whK b (qA2 t b (n + 1)) δ) = some r
  rcases qAk h with ⟨c, S1, e, q⟩ | ⟨c, S1, e, q⟩
  ·rw [e]
   cases c with
   | false => exact q
   | true =>
    show bnd (b δ S1) (qOs (qA2 t b (n + 1))) = some r
    rcases qAk (show bnd (b δ S1) (qOs (qA2 t b n)) = some r from q) with ⟨f, S2, e2, q2⟩ | ⟨c, S2, e2, q2⟩
    ·rw [e2]
     cases f with
     | nx δ' => exact qCu t b n δ' S2 r q2
     | ct δ' => exact qCu t b n δ' S2 r q2
     | bk δ' => exact q2
     | rt d => exact q2
    ·rw [e2, q2]
     rfl
  ·rw [e, q]
   rfl
theorem qGe (h : qA2 t b n δ S = some r) (hm : n <= m) : qA2 t b m δ S = some r := by
 obtain ⟨k, rfl⟩ := Nat.exists_eq_add_of_le hm
 induction k with
 | zero => exact h
 | succ k ih => exact qCu t b (n + k) δ S r (ih (Nat.le_add_right _ _))
noncomputable def qCy (t : DT) (b : DSt) (δ : DS) (S : Sto) : R Fl := open Classical in if h : ∃ n r, qA2 t b n δ S = some r then qA2 t b (Classical.choose h) δ S else none
theorem qKo (h : qA2 t b n δ S = some r) : qCy t b δ S = some r := by
 have hx : ∃ n r, qA2 t b n δ S = some r := ⟨n, r, h⟩
 unfold qCy
 rw [dif_pos hx]
 obtain ⟨r', hr'⟩ := Classical.choose_spec hx
 have h1 := qGe hr' (Nat.le_max_left _ n)
 have h2 := qGe h (Nat.le_max_right (Classical.choose hx) n)
 rw [hr', <- h1, h2]
theorem qHq (h : qCy t b δ S = some r) : ∃ n, qA2 t b n δ S = some r := by
 unfold qCy at h
 split at h
 ·exact ⟨_, h⟩
 ·cases h
def qL4 (_ : DS) (_ : Sto) : R Fl := none
def qAy (c : Str) (_ : DS) (S : Sto) : R Fl := er c S
def qKx (j : Nat) : Fl -> Sto -> R Fl
 | .nx δ, S => ok (.nx (δ.set j none)) S
 | _, _ => none
def itL : D -> Sto -> R Src
 | .ref a, S => match zH S a with
  | some _ => ok (.one a) S
  | none => none
 | .scr xs, S => ok (.fix xs) S
 | _, _ => none
def qB7 (lo : Int) : Nat -> List D
 | 0 => []
 | n + 1 => .int lo :: qB7 (lo + 1) n
theorem qVa : ∃ v : Int, v = 1000000 := ⟨_, rfl⟩
noncomputable def lim : Int := Classical.choose qVa
theorem qI1 : lim = 1000000 := Classical.choose_spec qVa
noncomputable def qEa : List D -> Sto -> R Src
 | [.int n], S => if n < lim /\ -lim < n then ok (.fix (qB7 0 n.toNat)) S else none
 | _, _ => none
noncomputable def qHt : List D -> Sto -> R Src
 | [.int a, .int b], S => if (a < lim /\ -lim < a) /\ b < lim /\ -lim < b then ok (.fix (qB7 a (b - a).toNat)) S else none
 | _, _ => none
def qGd : List D -> Sto -> R Src
 | [.ref a, .ref b], S => match zH S a, zH S b with
  | some _, some _ => ok (.two a b) S
  | _, _ => none
 | _, _ => none
def itE (f : D -> Sto -> R Src) (e : DE) (δ : DS) (S : Sto) : R Src := bnd (e δ S) f
def itA (f : List D -> Sto -> R Src) (as : DA) (δ : DS) (S : Sto) : R Src := bnd (as δ S) f
def qJ2 (o : O) (S : Sto) : R D := ok (.ref S.length) (S ++ [o])
def qC9 (k : DA) (δ : DS) (d : D) (S : Sto) : R (List D) := bnd (k δ S) (consK d)
def qO4 (e : DE) (k : DA) (δ : DS) (S : Sto) : R (List D) := bnd (e δ S) (qC9 k δ)
def qDa (src : Src) (g : DG) (e : DE) : Nat -> Nat -> DA
 | 0, i, δ, S => match src.get S i with
  | some none => ok [] S
  | _ => none
 | n + 1, i, δ, S => match src.get S i with
  | some none => ok [] S
  | some (some x) => bnd (g x δ S) (qO4 e (qDa src g e n (i + 1)))
  | none => none
def qPy (e : DE) (k : DA) (δ : DS) : Bool -> Sto -> R (List D)
 | true, S => bnd (e δ S) (qC9 k δ)
 | false, S => k δ S
def qFf (t : DT) (e : DE) (k : DA) (δ : DS) (S : Sto) : R (List D) := bnd (t δ S) (qPy e k δ)
def qAs (src : Src) (g : DG) (t : DT) (e : DE) : Nat -> Nat -> DA
 | 0, i, δ, S => match src.get S i with
  | some none => ok [] S
  | _ => none
 | n + 1, i, δ, S => match src.get S i with
  | some none => ok [] S
  | some (some x) => bnd (g x δ S) (qFf t e (qAs src g t e n (i + 1)))
  | none => none
def qWn (ds : List D) (S : Sto) : R D := qJ2 (.lst ds) S
def qGa {α : Type} : R α -> R α
 | some (.ok a S) => ok a S
 | some (.er _ _) => none
 | none => none
def qVq (g : DG) (e : DE) (δ : DS) (src : Src) (S : Sto) : R D := if src.len S <= 1000000 then bnd (qGa (qDa src g e (src.len S) 0 δ S)) qWn else none
def qA1 (it : DI) (k : Nat) (g : DG) (e : DE) (δ : DS) (S : Sto) : R D := bnd (it δ S) (qVq g e (δ ++ jBq k none))
def qMs (g : DG) (t : DT) (e : DE) (δ : DS) (src : Src) (S : Sto) : R D := if src.len S <= 1000000 then bnd (qGa (qAs src g t e (src.len S) 0 δ S)) qWn else none
def qDw (it : DI) (k : Nat) (g : DG) (t : DT) (e : DE) (δ : DS) (S : Sto) : R D := bnd (it δ S) (qMs g t e (δ ++ jBq k none))
def qRm : R Fl -> R D
 | some (.ok (.nx _) S) => ok .non S
 | some (.ok (.rt d) S) => ok d S
 | some (.ok (.bk _) _) => none
 | some (.ok (.ct _) _) => none
 | some (.er c S) => er c S
 | none => none
def startD (n : Nat) (ds : List D) : DS := ds.map some ++ jBq (n - ds.length) none
def fnF (n k : Nat) (g : DSt) (ds : List D) (S : Sto) : R D := if ds.length = k then qGa (qRm (g (startD n ds) S)) else none
def qA4 (g : DSt) (δ : DS) (S : Sto) : R Fl := qGa (g δ S)
def fnX (n k : Nat) (g : DSt) (ds : List D) (S : Sto) : R D := if ds.length = k then qRm (g (startD n ds) S) else none
def op3K2 (f : D -> D -> D -> Sto -> R D) (x y : D) (z : D) (S : Sto) : R D := f x y z S
def op3K (f : D -> D -> D -> Sto -> R D) (c : DE) (δ : DS) (x y : D) (S : Sto) : R D := bnd (c δ S) (op3K2 f x y)
def op3J (f : D -> D -> D -> Sto -> R D) (b c : DE) (δ : DS) (x : D) (S : Sto) : R D := bnd (b δ S) (op3K f c δ x)
def op3 (f : D -> D -> D -> Sto -> R D) (a b c : DE) (δ : DS) (S : Sto) : R D := bnd (a δ S) (op3J f b c δ)
def qSr (g : D -> D -> Sto -> R D) (c : DE) (δ : DS) (y : D) : Bool -> Sto -> R D
 | true, S => bnd (c δ S) (g y)
 | false, S => ok (.bl false) S
def chnT (g : D -> D -> Sto -> R D) (c : DE) (δ : DS) (y : D) (t : D) (S : Sto) : R D := bnd (qPe t S) (qSr g c δ y)
def chnK2 (f g : D -> D -> Sto -> R D) (c : DE) (δ : DS) (x y : D) (S : Sto) : R D := bnd (f x y S) (chnT g c δ y)
def chnK (f g : D -> D -> Sto -> R D) (b c : DE) (δ : DS) (x : D) (S : Sto) : R D := bnd (b δ S) (chnK2 f g c δ x)
def chn (f g : D -> D -> Sto -> R D) (a b c : DE) (δ : DS) (S : Sto) : R D := bnd (a δ S) (chnK f g b c δ)
@[simp] theorem qAu (c : Str) (S : Sto) : qRm (some (.er c S)) = er c S := rfl
@[simp] theorem truV_bl (b : Bool) (S : Sto) : qPe (.bl b) S = ok b S := rfl
@[simp] theorem seqK_nx (b : DSt) (δ : DS) (S : Sto) : qW3 b (.nx δ) S = b δ S := rfl
@[simp] theorem seqK_rt (b : DSt) (d : D) (S : Sto) : qW3 b (.rt d) S = ok (.rt d) S := rfl
@[simp] theorem ifK_t (a b : DSt) (δ : DS) (S : Sto) : ifK a b δ true S = a δ S := rfl
@[simp] theorem ifK_f (a b : DSt) (δ : DS) (S : Sto) : ifK a b δ false S = b δ S := rfl
def qBp (ds : List D) (S : Sto) : R D := if ds.length <= 1000 then ok (.tup ds) S else none
def qA5 (ds : List D) (S : Sto) : R D := if ds.length <= 1000 then qJ2 (.lst ds) S else none
def qX7 (a b : Option (List D)) (S : Sto) : R D := match a, b with
 | some xs, some ys => if xs.length + ys.length <= 1000000 then qJ2 (.lst (xs ++ ys)) S else none
 | _, _ => none
def qCb : D -> D -> Sto -> R D
 | .int i, .int j, S => ok (.int (i + j)) S
 | .str x, .str y, S => if x.length + y.length <= 1000000 then ok (.str (x ++ y)) S else none
 | .ref a, .ref b, S => qX7 (zH S a) (zH S b) S
 | _, _, _ => none
def qGj : D -> D -> Sto -> R D
 | .int i, .int j, S => ok (.int (i - j)) S
 | _, _, _ => none
def qYd (a : Option (List D)) (k : Int) (S : Sto) : R D := match a with
 | some xs => if xs.length * k.toNat <= 1000000 /\ -1000000000 < k /\ k < 1000000000 then qJ2 (.lst (jBq k.toNat xs).flatten) S else none
 | none => none
def qGx : D -> D -> Sto -> R D
 | .int i, .int j, S => if i.natAbs.log2 + j.natAbs.log2 <= 100000000 then ok (.int (i * j)) S else none
 | .ref a, .int k, S => qYd (zH S a) k S
 | _, _, _ => none
def qBz : D -> D -> Sto -> R D
 | .int i, .int j, S => if j = 0 then none else ok (.int (i.fdiv j)) S
 | _, _, _ => none
def qCd : D -> D -> Sto -> R D
 | .int i, .int j, S => if j = 0 then none else ok (.int (i.fmod j)) S
 | _, _, _ => none
def qGs : D -> D -> Sto -> R D
 | .int i, .int j, S => if (0 <= j /\ j <= 1000) /\ i.natAbs < 1000000 then ok (.int (i ^ j.toNat)) S else none
 | _, _, _ => none
def qDd : D -> Sto -> R D
 | .int i, S => ok (.int (-i)) S
 | _, _ => none
def qSt : List D -> Sto -> R D
 | [.int i], S => ok (.int (if i < 0 then -i else i)) S
 | _, _ => none
inductive T where
 | non | bl (b : Bool) | int (i : Int) | str (x : Str) | tup (xs : List T) | lst (xs : List T)
mutual
def eqT : T -> T -> Bool
 | .non, .non => true
 | .bl a, .bl b => a == b
 | .bl a, .int j => (if a then 1 else 0) == j
 | .int i, .bl b => i == (if b then 1 else 0)
 | .int i, .int j => i == j
 | .str x, .str y => x == y
 | .lst xs, .lst ys => qEx xs ys
 | .tup xs, .tup ys => qEx xs ys
 | _, _ => false
def qEx : List T -> List T -> Bool
 | [], [] => true
 | x :: xs, y :: ys => eqT x y && qEx xs ys
 | _, _ => false
end
def rdl (f : D -> Option T) : List D -> Option (List T)
 | [] => some []
 | d :: ds => match f d, rdl f ds with
  | some t, some ts => some (t :: ts)
  | _, _ => none
def rd : Nat -> Sto -> D -> Option T
 | _, _, .non => some .non
 | _, _, .bl b => some (.bl b)
 | _, _, .int i => some (.int i)
 | _, _, .str x => if x.cps.all (· < 0x110000) = true then some (.str x) else none
 | n + 1, S, .tup ds => (rdl (rd n S) ds).map .tup
 | n + 1, S, .ref a => match zH S a with
  | some ds => (rdl (rd n S) ds).map .lst
  | none => none
 | _, _, _ => none
def eqK (neg : Bool) (S : Sto) : Option T -> Option T -> R D
 | some t, some u => ok (.bl (if neg = true then !eqT t u else eqT t u)) S
 | _, _ => none
def eqD (x y : D) (S : Sto) : R D := eqK false S (rd 9 S x) (rd 9 S y)
def neD (x y : D) (S : Sto) : R D := eqK true S (rd 9 S x) (rd 9 S y)
def ltD : D -> D -> Sto -> R D
 | .int i, .int j, S => ok (.bl (decide (i < j))) S
 | _, _, _ => none
def leD : D -> D -> Sto -> R D
 | .int i, .int j, S => ok (.bl (decide (i <= j))) S
 | _, _, _ => none
def gtD : D -> D -> Sto -> R D
 | .int i, .int j, S => ok (.bl (decide (j < i))) S
 | _, _, _ => none
def geD : D -> D -> Sto -> R D
 | .int i, .int j, S => ok (.bl (decide (j <= i))) S
 | _, _, _ => none
def qBs : D -> Bool
 | .non => true
 | _ => false
def qOx (x y : D) (S : Sto) : R D := match y with
 | .non => ok (.bl (qBs x)) S
 | _ => none
def qX0 (x y : D) (S : Sto) : R D := match y with
 | .non => ok (.bl (!qBs x)) S
 | _ => none
def ixA (n : Nat) (i : Int) : Option Nat := if 0 <= i then (if i < n then some i.toNat else none) else if -(n : Int) <= i then some (i + n).toNat else none
def ixK (xs : Option (List D)) (i : Int) (S : Sto) : R D := match xs with
 | some xs => match (ixA xs.length i).bind (λ j => xs[j]?) with
  | some d => ok d S
  | none => none
 | none => none
def ixD : D -> D -> Sto -> R D
 | .tup xs, .int i, S => ixK (some xs) i S
 | .ref a, .int i, S => ixK (zH S a) i S
 | .scr xs, .int i, S => ixK (some xs) i S
 | _, _, _ => none
def qVb (xs : Option (List D)) (S : Sto) : R D := match xs with
 | some xs => ok (.int xs.length) S
 | none => none
def qDq : List D -> Sto -> R D
 | [.scr xs], S => qVb (some xs) S
 | [.tup xs], S => qVb (some xs) S
 | [.ref a], S => qVb (zH S a) S
 | [.str x], S => if x.length <= 1000000 then ok (.int x.length) S else none
 | _, _ => none
inductive Kd where
 | int | bool | str | lst | tup
 deriving DecidableEq
def isK : Kd -> D -> Sto -> Option Bool
 | _, .exc _, _ => none
 | _, .scr _, _ => none
 | .lst, .ref a, S => match S[a]? with
  | some (.lst _) => some true
  | some (.dct _) => some false
  | _ => none
 | _, .ref a, S => match S[a]? with
  | some (.lst _) => some false
  | some (.dct _) => some false
  | _ => none
 | .int, .int _, _ => some true
 | .int, .bl _, _ => some true
 | .bool, .bl _, _ => some true
 | .str, .str _, _ => some true
 | .tup, .tup _, _ => some true
 | _, _, _ => some false
def qCh (k : Kd) (x : D) (S : Sto) : R D := match isK k x S with
 | some b => ok (.bl b) S
 | none => none
def qPi (n d : Nat) : Option Int -> Nat
 | none => d
 | some v => if v < 0 then (v + (n : Int)).toNat else min v.toNat n
def qIf (xs : List D) (lo hi : Option Int) : List D := (xs.drop (qPi xs.length 0 lo)).take (qPi xs.length xs.length hi - qPi xs.length 0 lo)
abbrev DO := DS -> Sto -> R (Option Int)
def noP (_ : DS) (S : Sto) : R (Option Int) := ok none S
def qYp : D -> Sto -> R (Option Int)
 | .int i, S => ok (some i) S
 | _, _ => none
def atP (e : DE) (δ : DS) (S : Sto) : R (Option Int) := bnd (e δ S) qYp
def slD (x : D) (lo hi : Option Int) (S : Sto) : R D := match x with
 | .ref a => match zH S a with
  | some xs => qJ2 (.lst (qIf xs lo hi)) S
  | none => none
 | .scr xs => qJ2 (.lst (qIf xs lo hi)) S
 | .tup xs => if qPi xs.length 0 lo = 0 /\ qPi xs.length xs.length hi = xs.length then none else ok (.tup (qIf xs lo hi)) S
 | _ => none
def slK2 (x : D) (lo : Option Int) (hi : Option Int) (S : Sto) : R D := slD x lo hi S
def slK1 (h : DO) (δ : DS) (x : D) (lo : Option Int) (S : Sto) : R D := bnd (h δ S) (slK2 x lo)
def slK (l h : DO) (δ : DS) (x : D) (S : Sto) : R D := bnd (l δ S) (slK1 h δ x)
def slE (e : DE) (l h : DO) (δ : DS) (S : Sto) : R D := bnd (e δ S) (slK l h δ)
def qSp (yes : List Str) (x : D) (S : Sto) : R D := match x with
 | .exc c => if yes.contains c = true then ok (.bl true) S else none
 | _ => none
def qOt : List D -> Sto -> R D
 | [.ref a], S => match zH S a with
  | some xs => qJ2 (.lst xs) S
  | none => none
 | [.scr xs], S => qJ2 (.lst xs) S
 | [.tup xs], S => qJ2 (.lst xs) S
 | _, _ => none
def qS2 : List D -> Sto -> R D
 | [.ref a], S => match zH S a with
  | some xs => ok (.tup xs) S
  | none => none
 | [.tup xs], S => ok (.tup xs) S
 | _, _ => none
def qFg (x : D) (y : D) (S : Sto) : R D := match x with
 | .ref a => match zH S a with
  | some xs => if xs.length < 1000000 then ok .non (S.set a (.lst (xs ++ [y]))) else none
  | none => none
 | _ => none
def qK4 (v : D) (δ : DS) (x y : D) (S : Sto) : R DS := match x, y with
 | .ref a, .int j => match zH S a with
  | some xs => match ixA xs.length j with
   | some k => ok δ (S.set a (.lst (xs.set k v)))
   | none => none
  | none => none
 | _, _ => none
def qNs (i : DE) (v : D) (δ : DS) (x : D) (S : Sto) : R DS := bnd (i δ S) (qK4 v δ x)
def qGl (o i : DE) (v : D) (δ : DS) (S : Sto) : R DS := bnd (o δ S) (qNs i v δ)
def isL (x : D) (S : Sto) : Bool := match x with
 | .ref a => (zH S a).isSome
 | _ => false
def qWk (f : D -> D -> Sto -> R D) (b : DE) (δ : DS) (x : D) (S : Sto) : R D := if isL x S = true then bnd (b δ S) (f x) else none
def opM (f : D -> D -> Sto -> R D) (a b : DE) (δ : DS) (S : Sto) : R D := bnd (a δ S) (qWk f b δ)
def qXt (f : D -> D -> D -> Sto -> R D) (b c : DE) (δ : DS) (x : D) (S : Sto) : R D := if isL x S = true then op3J f b c δ x S else none
def opM3 (f : D -> D -> D -> Sto -> R D) (a b c : DE) (δ : DS) (S : Sto) : R D := bnd (a δ S) (qXt f b c δ)
def qKk : List D -> Option Bool
 | [] => some true
 | .bl b :: r => match qKk r with
  | some c => some (b && c)
  | none => none
 | _ :: _ => none
def qSs : List D -> Sto -> R D
 | [.ref a], S => match zH S a with
  | some xs => match qKk xs with
   | some b => ok (.bl b) S
   | none => none
  | none => none
 | _, _ => none
def qNg : List D -> Sto -> R D
 | [.int i, .int j], S => if j = 0 then none else ok (.tup [.int (i.fdiv j), .int (i.fmod j)]) S
 | _, _ => none
def qSm : List D -> Sto -> R D
 | [.int i, .int j], S => ok (.int (if j > i then j else i)) S
 | _, _ => none
def qKh (t : T) : List T -> Bool
 | [] => false
 | u :: us => eqT t u || qKh t us
def inA (neg : Bool) (x y : D) (S : Sto) : R D := match y with
 | .ref a => match zH S a with
  | some ys => match rd 8 S x, rdl (rd 8 S) ys with
   | some t, some ts => ok (.bl (if neg = true then !qKh t ts else qKh t ts)) S
   | _, _ => none
  | none => none
 | _ => none
def qCc (x y : D) (S : Sto) : R D := inA true x y S
end Np
end
section
namespace Np
open PySem
def qMe (no : List Str) (x : D) (S : Sto) : R D := match x with
 | .exc c => if no.contains c = true then ok (.bl false) S else none
 | _ => none
end Np
namespace Np
open PySem
def qS0 (j : Nat) (hits : List Str) (h : DSt) (δ : DS) (r : R D) : R Fl := match r with
 | some (.ok _ S) => ok (.nx δ) S
 | some (.er c S) => if hits.contains c = true then bnd (h (δ.set j (some (.exc c))) S) (qKx j) else none
 | none => none
def qP8 (f : List D -> Sto -> R D) (j : Nat) (hits : List Str) (h : DSt) (δ : DS) (ds : List D) (S : Sto) : R Fl := qS0 j hits h δ (f ds S)
def qWh (f : List D -> Sto -> R D) (as : DA) (j : Nat) (hits : List Str) (h : DSt) (δ : DS) (S : Sto) : R Fl := bnd (as δ S) (qP8 f j hits h δ)
end Np
namespace Np
open PySem
def qSq (_ : DS) (S : Sto) : R D := qJ2 (.dct []) S
end Np
end
section
namespace Np
open PySem
def qBc (S : Sto) (a : Nat) : Option (Str × List (Str × D)) := match S[a]? with
 | some (.ins c fs) => some (c, fs)
 | _ => none
def qAt (c f : Str) (x : D) (S : Sto) : R D := match x with
 | .ref a => match qBc S a with
  | some (c', fs) => if c' = c then (match fs.lookup f with
   | some d => ok d S
   | none => none) else none
  | none => none
 | _ => none
def qIs (f : Str) (v : D) : List (Str × D) -> List (Str × D)
 | [] => [(f, v)]
 | (g, x) :: r => if g = f then (g, v) :: r else (g, x) :: qIs f v r
def qJr (c f : Str) (v : D) (δ : DS) (x : D) (S : Sto) : R Fl := match x with
 | .ref a => match qBc S a with
  | some (c', fs) => if c' = c /\ fs.length < 900 then ok (.nx δ) (S.set a (.ins c (qIs f v fs))) else none
  | none => none
 | _ => none
def qQf (c f : Str) (o : DE) (δ : DS) (v : D) (S : Sto) : R Fl := bnd (o δ S) (qJr c f v δ)
def qDv (c f : Str) (o e : DE) (δ : DS) (S : Sto) : R Fl := bnd (e δ S) (qQf c f o δ)
def qCe (F : List D -> Sto -> R D) (x : D) (ds : List D) (S : Sto) : R D := F (x :: ds) S
def qH2 (c m : Str) (F : List D -> Sto -> R D) (as : DA) (δ : DS) (x : D) (S : Sto) : R D := match x with
 | .ref a => match qBc S a with
  | some (c', fs) => if c' = c /\ fs.lookup m = none then bnd (as δ S) (qCe F x) else none
  | none => none
 | _ => none
def qAg (c m : Str) (F : List D -> Sto -> R D) (o : DE) (as : DA) (δ : DS) (S : Sto) : R D := bnd (o δ S) (qH2 c m F as δ)
def mkR (a : Nat) : R D -> R D
 | some (.ok .non S) => ok (.ref a) S
 | some (.er c S) => er c S
 | _ => none
def mkA (c : Str) (F : List D -> Sto -> R D) (ds : List D) (S : Sto) : R D := mkR S.length (F (.ref S.length :: ds) (S ++ [.ins c []]))
def mkE (c : Str) (F : List D -> Sto -> R D) (as : DA) (δ : DS) (S : Sto) : R D := bnd (as δ S) (mkA c F)
def qDo (x y : D) (S : Sto) : R D := match x, y with
 | .ref a, .int i => match zH S a with
  | some xs => if 0 <= i /\ i < 1000000 then (match xs[i.toNat]? with
   | some d => ok d (S.set a (.lst (xs.eraseIdx i.toNat)))
   | none => none) else none
  | none => none
 | _, _ => none
def qSl : List D -> Sto -> R D
 | [.int i, .int j], S => ok (.int (if j < i then j else i)) S
 | _, _ => none
theorem qDh (h : qBc S a = some (c, fs)) : S[a]? = some (.ins c fs) := by
 unfold qBc at h
 split at h
 ·rename_i c' fs' e
  cases h
  exact e
 ·cases h
def qA3 : List D -> List D -> List D
 | x :: xs, y :: ys => .tup [x, y] :: qA3 xs ys
 | _, _ => []
def qJl : List D -> Sto -> R Src
 | [.tup xs, .tup ys], S => ok (.fix (qA3 xs ys)) S
 | ds, S => qGd ds S
def qSn (gs : List DG) (d : D) (δ : DS) (S : Sto) : R DS := match d with
 | .ref a => match zH S a with
  | some ds => if ds.length = gs.length then tupGs gs ds δ S else none
  | none => none
 | _ => none
def qG5 (yes no : List Str) (x : D) (S : Sto) : R D := match x with
 | .exc c => if yes.contains c = true then ok (.bl true) S else if no.contains c = true then ok (.bl false) S else none
 | _ => none
def qWi : D -> Sto -> Option Bool
 | .non, _ => some false
 | .bl b, _ => some b
 | .int i, _ => some (i != 0)
 | .str x, _ => if x.length <= 1000000 then some ((x.length : Int) != 0) else none
 | .tup xs, _ => if xs.length <= 1000000 then some (!xs.isEmpty) else none
 | .ref a, S => match zH S a with
  | some xs => some (!xs.isEmpty)
  | none => none
 | _, _ => none
def qUr (b : DE) (δ : DS) (x : D) (S : Sto) : R D := match qWi x S with
 | some true => ok x S
 | some false => b δ S
 | none => none
def orA (a b : DE) (δ : DS) (S : Sto) : R D := bnd (a δ S) (qUr b δ)
end Np
end
section
namespace Np
open PySem PySem.Spec PyProof.Rows L2
structure Gx where
 K : PySem.W.Frag
 mg : Str -> Option Value
structure Wd where
 μ : Nat -> Addr
 S : Sto
def qC6 (a C : Addr) : Heap -> Prop := λ h => ∃ o, h.get? a = some o /\ o.cls = .ref C
def Sc (K : PySem.W.Frag) (H : Hp) (a : Addr) (xs : List V) : Prop := (∃ o, H a = some (.frz o (.lst xs))) \/ SqL K (λ _ => none) a xs
theorem Sc.sq {K : PySem.W.Frag} {H : Hp} {a : Addr} {xs : List V} (h : Sc K H a xs) : SqL K H a xs := by
 rcases h with ⟨o, h⟩ | (h | h)
 ·exact .inl (.inr ⟨o, h⟩)
 ·rcases h with h | ⟨o, h⟩ <;> cases h
 ·exact .inr h
mutual
def Rep (G : Gx) (H : Hp) (W : Wd) : D -> V -> Prop
 | .non, v => v = .non
 | .bl b, v => v = .bl b
 | .int i, v => v = .int i
 | .str x, v => v = .str x
 | .tup ds, v => ∃ a xs, v = .ref a /\ SqT G.K H a xs /\ qAl G H W ds xs
 | .ref i, v => i < W.S.length /\ v = .ref (W.μ i)
 | .exc c, v => ∃ a C, v = .ref a /\ G.mg c = some (.ref C) /\ H a = some (.ext (qC6 a C))
 | .scr ds, v => ∃ a xs, v = .ref a /\ Sc G.K H a xs /\ qAl G H W ds xs
def qAl (G : Gx) (H : Hp) (W : Wd) : List D -> List V -> Prop
 | [], vs => vs = []
 | d :: ds, vs => ∃ v r, vs = v :: r /\ Rep G H W d v /\ qAl G H W ds r
end
def qNd (G : Gx) (H : Hp) (W : Wd) (a : Addr) : O -> Prop
 | .lst ds => ∃ xs, H a = some (.lst xs) /\ qAl G H W ds xs
 | .dct kvs => kvs = [] /\ H a = some (.dK [])
 | .ins c fs => ∃ C dx ps, G.mg c = some (.ref C) /\ H a = some (.ins C dx ps) /\ ps.map (·.1) = fs.map (·.1) /\ qAl G H W (fs.map (·.2)) (ps.map (·.2))
structure qB0 (G : Gx) (H : Hp) (W : Wd) : Prop where
 inj : ∀ i j, i < W.S.length -> j < W.S.length -> W.μ i = W.μ j -> i = j
 get : ∀ i o, W.S[i]? = some o -> qNd G H W (W.μ i) o
def stB : HO -> Bool
 | .lst _ => true
 | .dK _ => true
 | .ins _ _ _ => true
 | _ => false
theorem qB0.at (h : qB0 G H W) (hi : i < W.S.length) : ∃ o, H (W.μ i) = some o /\ stB o = true := by
 have := h.get i W.S[i] (by simp [hi])
 cases q : W.S[i] with
 | lst ds => rw [q] at this; obtain ⟨xs, e, _⟩ := this; exact ⟨_, e, rfl⟩
 | dct kvs => rw [q] at this; obtain ⟨_, e⟩ := this; exact ⟨_, e, rfl⟩
 | ins c fs => rw [q] at this; obtain ⟨_, _, _, _, e, _⟩ := this; exact ⟨_, e, rfl⟩
theorem qB0.apart (h : qB0 G H W) (e : H b = some o) (ho : stB o = false) : ∀ i, i < W.S.length -> W.μ i ≠ b := λ i hi z => by
 obtain ⟨u, eu, hu⟩ := h.at hi
 rw [z, e] at eu
 cases eu
 rw [ho] at hu
 cases hu
theorem qB0.new (h : qB0 G H W) (e : H b = none) : ∀ i, i < W.S.length -> W.μ i ≠ b := λ i hi z => by
 obtain ⟨u, eu, hu⟩ := h.at hi
 rw [z, e] at eu
 cases eu
structure Mv (H : Hp) (W : Wd) (H' : Hp) (W' : Wd) : Prop where
 len : W.S.length <= W'.S.length
 old : ∀ i, i < W.S.length -> W'.μ i = W.μ i
 frm : ∀ b o, H b = some o -> stB o = false -> H' b = some o
theorem Mv.sqT {K : PySem.W.Frag} {H H' : Hp} {W W' : Wd} {a : Addr} {xs : List V} (e : Mv H W H' W') (h : SqT K H a xs) : SqT K H' a xs := by
 rcases h with (h | ⟨o, h⟩) | h
 ·exact .inl (.inl (e.frm _ _ h rfl))
 ·exact .inl (.inr ⟨o, e.frm _ _ h rfl⟩)
 ·exact .inr h
theorem Mv.sc {K : PySem.W.Frag} {H H' : Hp} {W W' : Wd} {a : Addr} {xs : List V} (e : Mv H W H' W') (h : Sc K H a xs) : Sc K H' a xs := by
 rcases h with ⟨o, h⟩ | h
 ·exact .inl ⟨o, e.frm _ _ h rfl⟩
 ·exact .inr h
mutual
theorem Rep.mv (s : Mv H W H' W') : ∀ {d : D} {v : V}, Rep G H W d v -> Rep G H' W' d v
 | .non, _, h => h
 | .bl _, _, h => h
 | .int _, _, h => h
 | .str _, _, h => h
 | .tup ds, _, h => by
  obtain ⟨a, xs, e, q, r⟩ := h
  exact ⟨a, xs, e, s.sqT q, qAl.mv s r⟩
 | .ref i, _, h => by
  obtain ⟨l, e⟩ := h
  exact ⟨jAd l s.len, by rw [e, s.old i l]⟩
 | .exc c, _, h => by
  obtain ⟨a, C, e, m, q⟩ := h
  exact ⟨a, C, e, m, s.frm _ _ q rfl⟩
 | .scr ds, _, h => by
  obtain ⟨a, xs, e, q, r⟩ := h
  exact ⟨a, xs, e, s.sc q, qAl.mv s r⟩
theorem qAl.mv (s : Mv H W H' W') : ∀ {ds : List D} {vs : List V}, qAl G H W ds vs -> qAl G H' W' ds vs
 | [], _, h => h
 | d :: ds, _, h => by
  obtain ⟨v, r, e, q, t⟩ := h
  exact ⟨v, r, e, Rep.mv s q, qAl.mv s t⟩
end
theorem qAl.length : ∀ {ds : List D} {vs : List V}, qAl G H W ds vs -> ds.length = vs.length
 | [], _, h => by cases h; rfl
 | d :: ds, _, h => by
  obtain ⟨v, r, e, q, t⟩ := h
  subst e
  simp [qAl.length t]
theorem qAl.get : ∀ {ds : List D} {vs : List V} {i : Nat} {d : D}, qAl G H W ds vs -> ds[i]? = some d -> ∃ v, vs[i]? = some v /\ Rep G H W d v
 | [], _, _, _, _, e => by simp at e
 | d :: ds, _, 0, _, h, e => by
  obtain ⟨v, r, rfl, q, t⟩ := h
  simp at e; subst e
  exact ⟨v, rfl, q⟩
 | d :: ds, _, i + 1, _, h, e => by
  obtain ⟨v, r, rfl, q, t⟩ := h
  obtain ⟨u, h1, h2⟩ := qAl.get (i := i) t (by simpa using e)
  exact ⟨u, by simpa using h1, h2⟩
theorem qAl.append : ∀ {ds es : List D} {vs us : List V}, qAl G H W ds vs -> qAl G H W es us -> qAl G H W (ds ++ es) (vs ++ us)
 | [], _, _, _, h, k => by cases h; exact k
 | d :: ds, _, _, _, h, k => by
  obtain ⟨v, r, rfl, q, t⟩ := h
  exact ⟨v, _, rfl, q, qAl.append t k⟩
theorem qAl.take : ∀ {ds : List D} {vs : List V} (n : Nat), qAl G H W ds vs -> qAl G H W (ds.take n) (vs.take n)
 | _, _, 0, _ => by simp [qAl]
 | [], _, n + 1, h => by cases h; simp [qAl]
 | d :: ds, _, n + 1, h => by
  obtain ⟨v, r, rfl, q, t⟩ := h
  exact ⟨v, _, rfl, q, qAl.take n t⟩
theorem qAl.drop : ∀ {ds : List D} {vs : List V} (n : Nat), qAl G H W ds vs -> qAl G H W (ds.drop n) (vs.drop n)
 | _, _, 0, h => h
 | [], _, n + 1, h => by cases h; simp [qAl]
 | d :: ds, _, n + 1, h => by
  obtain ⟨v, r, rfl, q, t⟩ := h
  exact qAl.drop n t
theorem qAl.set (q' : Rep G H W d' v') : ∀ {ds : List D} {vs : List V} (n : Nat), qAl G H W ds vs -> qAl G H W (ds.set n d') (vs.set n v')
 | [], _, n, h => by cases h; simp [qAl]
 | d :: ds, _, 0, h => by
  obtain ⟨v, r, rfl, q, t⟩ := h
  exact ⟨v', _, rfl, q', t⟩
 | d :: ds, _, n + 1, h => by
  obtain ⟨v, r, rfl, q, t⟩ := h
  exact ⟨v, _, rfl, q, qAl.set q' n t⟩
theorem qAl.one (h : Rep G H W d v) : qAl G H W [d] [v] := ⟨v, [], rfl, h, rfl⟩
theorem qNd.mv (s : Mv H W H' W') (e : H' a = H a) (h : qNd G H W a o) : qNd G H' W' a o := by
 cases o with
 | lst ds => obtain ⟨xs, q, r⟩ := h; exact ⟨xs, by rw [e]; exact q, r.mv s⟩
 | dct kvs => obtain ⟨q, r⟩ := h; exact ⟨q, by rw [e]; exact r⟩
 | ins c fs => obtain ⟨C, dx, ps, m, q, n, r⟩ := h; exact ⟨C, dx, ps, m, by rw [e]; exact q, n, r.mv s⟩
theorem qJ6 (h : zH S a = some xs) : S[a]? = some (.lst xs) := by
 unfold zH at h
 split at h
 ·rename_i ys e
  cases h
  exact e
 ·cases h
theorem qB0.lst (h : qB0 G H W) (r : Rep G H W (.ref a) v) (e : zH W.S a = some ds) : ∃ xs, v = .ref (W.μ a) /\ H (W.μ a) = some (.lst xs) /\ qAl G H W ds xs := by
 obtain ⟨xs, q, rl⟩ := h.get a _ (qJ6 e)
 exact ⟨xs, r.2, q, rl⟩
structure Nxt (G : Gx) (H : Hp) (W : Wd) (H' : Hp) (W' : Wd) : Prop where
 ok : qB0 G H' W'
 len : W.S.length <= W'.S.length
 old : ∀ i, i < W.S.length -> W'.μ i = W.μ i
 new : ∀ i, W.S.length <= i -> i < W'.S.length -> H (W'.μ i) = none
 frm : ∀ b o, H b = some o -> (∀ i, i < W.S.length -> W.μ i ≠ b) -> H' b = some o
theorem Nxt.mv (h : Nxt G H W H' W') (s : qB0 G H W) : Mv H W H' W' := ⟨h.len, h.old, λ b o e q => h.frm b o e (s.apart e q)⟩
theorem Nxt.rfl (s : qB0 G H W) : Nxt G H W H W := ⟨s, jAy _, λ _ _ => by rfl, λ i h h' => absurd h' (Nat.not_lt.mpr h), λ _ _ e _ => e⟩
theorem Nxt.trans (a : Nxt G H W H' W') (b : Nxt G H' W' H'' W'') : Nxt G H W H'' W'' := by
 refine ⟨b.ok, jAk a.len b.len, λ i hi => (b.old i (jAd hi a.len)).trans (a.old i hi), λ i h1 h2 => ?_, λ c o e q => ?_⟩
 ·by_cases hi : i < W'.S.length
  ·rw [b.old i hi]
   exact a.new i h1 hi
  ·have hn := b.new i (jCd hi) h2
   cases q : H (W''.μ i) with
   | none => rfl
   | some o =>
    by_cases hz : ∃ j, j < W.S.length /\ W.μ j = W''.μ i
    ·obtain ⟨j, hj, ej⟩ := hz
     obtain ⟨o', e', _⟩ := a.ok.at (jAd hj a.len)
     rw [a.old j hj, ej, hn] at e'
     cases e'
    ·have := a.frm _ o q λ j hj ej => hz ⟨j, hj, ej⟩
     rw [hn] at this
     cases this
 ·refine b.frm c o (a.frm c o e q) λ i hi => ?_
  by_cases hl : i < W.S.length
  ·rw [a.old i hl]
   exact q i hl
  ·intro z
   have := a.new i (jCd hl) hi
   rw [z, e] at this
   cases this
def Wd.push (W : Wd) (p : Addr) (o : O) : Wd := ⟨λ i => if i = W.S.length then p else W.μ i, W.S ++ [o]⟩
theorem Mv.push {G : Gx} {H : Hp} {W : Wd} {p : Addr} (hp : H p = none) (u : HO) (o : O) : Mv H W (upd H p u) (W.push p o) :=
 ⟨by simp [Wd.push], λ i hi => if_neg (jAf hi), λ b v e _ => by rw [zN (qAd e hp)]; exact e⟩
theorem Nxt.alloc {G : Gx} {H : Hp} {W : Wd} {p : Addr} {u : HO} {o : O} (h : qB0 G H W) (hp : H p = none) (hr : qNd G (upd H p u) (W.push p o) p o) : Nxt G H W (upd H p u) (W.push p o) := by
 have m := Mv.push (G := G) (W := W) hp u o
 have hμ : ∀ i, i < W.S.length -> (W.push p o).μ i = W.μ i := λ i hi => if_neg (jAf hi)
 have hl : (W.push p o).S.length = W.S.length + 1 := by simp [Wd.push]
 have hn : (W.push p o).μ W.S.length = p := if_pos _root_.rfl
 refine ⟨⟨λ i j hi hj e => ?_, λ i o' e => ?_⟩, m.len, hμ, λ i h1 h2 => ?_, λ b v e _ => by rw [zN (qAd e hp)]; exact e⟩
 ·rw [hl] at hi hj
  by_cases h1 : i < W.S.length
  ·by_cases h2 : j < W.S.length
   ·rw [hμ i h1, hμ j h2] at e
    exact h.inj i j h1 h2 e
   ·have : j = W.S.length := by omega
    subst this
    rw [hμ i h1, hn] at e
    exact absurd e (h.new hp i h1)
  ·have : i = W.S.length := by omega
   subst this
   by_cases h2 : j < W.S.length
   ·rw [hμ j h2, hn] at e
    exact absurd e.symm (h.new hp j h2)
   ·omega
 ·have e' : (W.S ++ [o])[i]? = some o' := e
  by_cases h1 : i < W.S.length
  ·rw [jBx h1] at e'
   rw [hμ i h1]
   exact (h.get i o' e').mv m (zN (h.new hp i h1))
  ·have h2 : i < (W.S ++ [o]).length := (jAs.mp e').1
   have : i = W.S.length := by simp at h2; omega
   subst this
   simp at e'
   subst e'
   rw [hn]
   exact hr
 ·rw [hl] at h2
  have : i = W.S.length := by omega
  subst this
  rw [hn]
  exact hp
def Wd.put (W : Wd) (i : Nat) (o : O) : Wd := ⟨W.μ, W.S.set i o⟩
theorem Mv.put (h : qB0 G H W) (hi : i < W.S.length) (u : HO) (o : O) : Mv H W (upd H (W.μ i) u) (W.put i o) :=
 ⟨by simp [Wd.put], λ _ _ => by rfl, λ b v e q => by rw [zN λ z => h.apart e q i hi z.symm]; exact e⟩
theorem Nxt.write (h : qB0 G H W) (hi : i < W.S.length) (hr : qNd G (upd H (W.μ i) u) (W.put i o) (W.μ i) o) : Nxt G H W (upd H (W.μ i) u) (W.put i o) := by
 have m := Mv.put h hi u o
 have hl : (W.put i o).S.length = W.S.length := by simp [Wd.put]
 refine ⟨⟨λ a b ha hb e => h.inj a b (by rw [<- hl]; exact ha) (by rw [<- hl]; exact hb) e, λ j o' e => ?_⟩, m.len, m.old, λ j h1 h2 => by omega, λ b v e q => by rw [zN λ z => q i hi z.symm]; exact e⟩
 have e' : (W.S.set i o)[j]? = some o' := e
 by_cases hj : i = j
 ·subst hj
  rw [jAt hi] at e'
  cases e'
  exact hr
 ·rw [jAu hj] at e'
  have hjl : j < W.S.length := (jAs.mp e').1
  exact (h.get j o' e').mv m (zN λ z => hj (h.inj i j hi hjl z.symm))
theorem Nxt.heap (h : qB0 G H W) (hp : H p = none) (u : HO) : Nxt G H W (upd H p u) W := by
 have m : Mv H W (upd H p u) W := ⟨jAy _, λ _ _ => _root_.rfl, λ b v e _ => by rw [zN (qAd e hp)]; exact e⟩
 exact ⟨⟨h.inj, λ i o e => (h.get i o e).mv m (zN (h.new hp i (jAs.mp e).1))⟩, jAy _, λ _ _ => _root_.rfl, λ i h1 h2 => by omega, λ b v e _ => by rw [zN (qAd e hp)]; exact e⟩
def qCr (G : Gx) (H : Hp) (W : Wd) (δ : DS) (σ : L2.St) : Prop := δ.length = σ.length /\ ∀ (i : Nat) (d : D), δ[i]? = some (some d) -> ∃ v, σ[i]? = some (some v) /\ Rep G H W d v
theorem qCr.mv (h : qCr G H W δ σ) (s : Mv H W H' W') : qCr G H' W' δ σ :=
 ⟨h.1, λ i d e => let ⟨v, e1, r⟩ := h.2 i d e; ⟨v, e1, r.mv s⟩⟩
theorem qCr.set (i : Nat) (h : qCr G H W δ σ) (r : Rep G H W d v) : qCr G H W (δ.set i (some d)) (σ.set i (some v)) := by
 refine ⟨by simpa using h.1, λ j e hj => ?_⟩
 by_cases ij : i = j
 ·subst ij
  have hl : i < δ.length := by
   have := (jAs.mp hj).1
   simpa using this
  rw [jAt hl] at hj
  cases hj
  exact ⟨v, jAt (h.1 ▸ hl), r⟩
 ·rw [jAu ij] at hj
  obtain ⟨u, e1, q⟩ := h.2 j e hj
  exact ⟨u, by rw [jAu ij]; exact e1, q⟩
theorem qCr.start (N : List Str) (h : qAl G H W ds vs) : qCr G H W (startD N.length ds) (start N vs) := by
 have hl := h.length
 refine ⟨by simp [startD, L2.start, hl], λ i d e => ?_⟩
 unfold startD at e
 by_cases hi : i < ds.length
 ·rw [jBx (by simpa using hi), jBy] at e
  cases q : ds[i]? with
  | none => rw [q] at e; cases e
  | some d' =>
   rw [q] at e; cases e
   obtain ⟨v, e1, r⟩ := h.get q
   refine ⟨v, ?_, r⟩
   unfold L2.start
   rw [jBx (by rw [jBh]; omega), jBy, e1] <;> rfl
 ·rw [jBv (by simpa using hi), jBw] at e
  split at e <;> cases e
def qBn {α : Type} (G : Gx) (E : XK) (H : Hp) (W : Wd) (r : Rs α) (P : α -> Hp -> Wd -> Prop) : Prop := match r with
 | .ok a S' => ∀ H' W', W'.S = S' -> Nxt G H W H' W' -> P a H' W'
 | .er c S' => ∃ C, G.mg c = some (.ref C) /\ ∀ H' W', W'.S = S' -> Nxt G H W H' W' -> E (.ref C) none H'
theorem qBn.nxt (h : qBn G E H W r P) (s : Nxt G H W H1 W1) : qBn G E H1 W1 r P := by
 cases r with
 | ok a S' => exact λ H' W' e s' => h H' W' e (s.trans s')
 | er c S' =>
  obtain ⟨C, m, q⟩ := h
  exact ⟨C, m, λ H' W' e s' => q H' W' e (s.trans s')⟩
theorem qBn.now (h : qBn G E H W (.ok a W.S) P) (s : qB0 G H W) : P a H W := h H W rfl (.rfl s)
abbrev VP (G : Gx) (Q : VK) : D -> Hp -> Wd -> Prop := λ d H' W' => ∀ v, Rep G H' W' d v -> Q v H'
abbrev AV (G : Gx) (Q : List V -> Hp -> Prop) : List D -> Hp -> Wd -> Prop := λ ds H' W' => ∀ vs, qAl G H' W' ds vs -> Q vs H'
abbrev BV (Q : Bool -> Hp -> Prop) : Bool -> Hp -> Wd -> Prop := λ b H' _ => Q b H'
def SV (G : Gx) (D : qWe) : Fl -> Hp -> Wd -> Prop := λ f H' W' => match f with
 | .nx δ => ∀ σ, qCr G H' W' δ σ -> D.nx σ H'
 | .rt d => ∀ v, Rep G H' W' d v -> D.rt v H'
 | .bk δ => ∀ σ, qCr G H' W' δ σ -> D.bk σ H'
 | .ct δ => ∀ σ, qCr G H' W' δ σ -> D.ct σ H'
def Go {α : Type} (G : Gx) (E : XK) (g : DS -> Sto -> R α) (P : α -> Hp -> Wd -> Prop) (σ : L2.St) (H : Hp) : Prop := ∃ W δ r, qB0 G H W /\ qCr G H W δ σ /\ g δ W.S = some r /\ qBn G E H W r P
def tF (G : Gx) (E : XK) (g : DE) : TE := λ σ H Q => Go G E g (VP G Q) σ H
def tFT (G : Gx) (E : XK) (g : DT) : TT := λ σ H Q => Go G E g (BV Q) σ H
def tFA (G : Gx) (E : XK) (g : DA) : TA := λ σ H Q => Go G E g (AV G Q) σ H
def tFS (G : Gx) (E : XK) (g : DSt) : TS := λ D σ H => Go G E g (SV G D) σ H
def tFG (G : Gx) (E : XK) (g : DG) : TG := λ v σ H Q => ∃ W δ d r, qB0 G H W /\ qCr G H W δ σ /\ Rep G H W d v /\ g d δ W.S = some r /\ qBn G E H W r (λ δ' H' W' => ∀ σ', qCr G H' W' δ' σ' -> Q σ' H')
abbrev gx (X : Cx) : Gx := ⟨X.K, X.mg⟩
@[irreducible] def PDE (X : Cx) (E : XK) (e : Expr) (g : DE) : Prop := PE X e (tF (gx X) E g)
@[irreducible] def PDT (X : Cx) (E : XK) (e : Expr) (g : DT) : Prop := PT X e (tFT (gx X) E g)
@[irreducible] def PDW (X : Cx) (E : XK) (e : Expr) (g : DT) : Prop := PW X e (tFT (gx X) E g)
@[irreducible] def PDA (X : Cx) (E : XK) (es : List Expr) (g : DA) : Prop := PA X es (tFA (gx X) E g)
@[irreducible] def PDS (X : Cx) (E : XK) (st : Stmt) (g : DSt) : Prop := PS X st (tFS (gx X) E g)
@[irreducible] def qDl (X : Cx) (E : XK) (sts : List Stmt) (g : DSt) : Prop := PSs X sts (tFS (gx X) E g)
@[irreducible] def PDG (X : Cx) (E : XK) (tg : Expr) (g : DG) : Prop := PG X tg (tFG (gx X) E g)
theorem PDA.o (h : PDA X E es g) : PA X es (tFA (gx X) E g) := by
 unfold PDA at h
 exact h
theorem PDE.o (h : PDE X E e g) : PE X e (tF (gx X) E g) := by
 unfold PDE at h
 exact h
theorem PE.imp (h : PE X e t) (hi : ∀ σ H Q, t' σ H Q -> t σ H Q) : PE X e t' := λ pins s σ H Q I q => h pins s σ H Q I (hi σ H Q q)
theorem PT.imp (h : PT X e t) (hi : ∀ σ H Q, t' σ H Q -> t σ H Q) : PT X e t' := λ pins s σ H Q I q => h pins s σ H Q I (hi σ H Q q)
theorem PW.imp (h : PW X e t) (hi : ∀ σ H Q, t' σ H Q -> t σ H Q) : PW X e t' := λ wh pins s σ H Q I q => h wh pins s σ H Q I (hi σ H Q q)
theorem PA.imp (h : PA X es t) (hi : ∀ σ H Q, t' σ H Q -> t σ H Q) : PA X es t' := λ p pins s σ H Q I q => h p pins s σ H Q I (hi σ H Q q)
theorem PS.imp {X : Cx} {st : Stmt} {t t' : TS} (h : PS X st t) (hi : ∀ D σ H, t' D σ H -> t D σ H) : PS X st t' := λ pins s σ H D I q => h pins s σ H D I (hi D σ H q)
theorem PSs.imp {X : Cx} {st : List Stmt} {t t' : TS} (h : PSs X st t) (hi : ∀ D σ H, t' D σ H -> t D σ H) : PSs X st t' := λ pins s σ H D I q => h pins s σ H D I (hi D σ H q)
section
variable {G : Gx} {E : XK} {σ : L2.St} {H : Hp} {δ : DS} {W : Wd}
theorem Go.thn (hS : qB0 G H W) (hδ : qCr G H W δ σ) (h : bnd (ga δ W.S) k = some r) (hA : qBn G E H W r P)
  (next : ∀ a H1 W1, Nxt G H W H1 W1 -> qCr G H1 W1 δ σ -> k a W1.S = some r -> qBn G E H1 W1 r P -> P1 a H1 W1) : Go G E ga P1 σ H := by
 rcases qAk h with ⟨a, S, e, q⟩ | ⟨c, S, e, q⟩
 ·exact ⟨W, δ, .ok a S, hS, hδ, e, λ H1 W1 e1 s => next a H1 W1 s (hδ.mv (s.mv hS)) (by rw [e1]; exact q) (hA.nxt s)⟩
 ·subst q
  exact ⟨W, δ, .er c S, hS, hδ, e, hA⟩
end
section
variable {X : Cx} {E : XK} {a b c e : Expr} {pos : Pos} {ga gb : DE}
theorem zA (i : Nat) (hN : X.N[i]? = some x := by rfl) (hv : Vis X.env.scope x := by first | exact Or.inl rfl | exact Or.inr (Or.inl rfl) | exact Or.inr (Or.inr rfl)) (hd : (x == ("__debug__" : Str)) = false := by decide +kernel)
  (hcd : (x == ("__classdict__" : Str)) = false := by decide +kernel) : PDE X E (.Name x pos) (vr i) := by
 try unfold PDE at *
 refine PE.imp (qTx hN hv hd hcd) λ σ H Q ⟨W, δ, r, hS, hδ, hg, hA⟩ => ?_
 unfold vr at hg
 cases q : δ[i]? with
 | none => rw [q] at hg; cases hg
 | some o =>
  cases o with
  | none => rw [q] at hg; cases hg
  | some d =>
   rw [q] at hg
   obtain rfl : Rs.ok d W.S = r := Option.some.inj hg
   obtain ⟨v, e1, rv⟩ := hδ.2 i d q
   exact ⟨v, e1, hA.now hS v rv⟩
theorem qCt (h : PE X e t) (ht : ∀ σ H Q, Q v H -> t σ H Q) (hr : ∀ H W, Rep (gx X) H W d v) : PDE X E e (cst d) := by
 try unfold PDE at *
 refine PE.imp h λ σ H Q ⟨W, δ, r, hS, hδ, hg, hA⟩ => ?_
 obtain rfl : Rs.ok d W.S = r := Option.some.inj hg
 exact ht σ H Q (hA.now hS v (hr H W))
theorem zF {j} : PDE X E (.Constant (.int i) j pos) (cst (.int i)) := by
 first
 | exact (
  qCt qPr (λ _ _ _ q => q) λ _ _ => rfl)
 | ((try unfold PDE at *); exact (
  qCt qPr (λ _ _ _ q => q) λ _ _ => rfl))
theorem qXo {j} : PDE X E (.Constant (.bool i) j pos) (cst (.bl i)) := by
 first
 | exact (
  qCt qT4 (λ _ _ _ q => q) λ _ _ => rfl)
 | ((try unfold PDE at *); exact (
  qCt qT4 (λ _ _ _ q => q) λ _ _ => rfl))
theorem qUe {j} : PDE X E (.Constant .none j pos) (cst .non) := by
 first
 | exact (
  qCt qPq (λ _ _ _ q => q) λ _ _ => rfl)
 | ((try unfold PDE at *); exact (
  qCt qPq (λ _ _ _ q => q) λ _ _ => rfl))
theorem qT9 {j} : PDE X E (.Constant (.str x) j pos) (cst (.str x)) := by
 first
 | exact (
  qCt qPp (λ _ _ _ q => q) λ _ _ => rfl)
 | ((try unfold PDE at *); exact (
  qCt qPp (λ _ _ _ q => q) λ _ _ => rfl))
theorem qRe (hg : Gl X x) (hm : X.mg x = some u) (r : qA6 v u) (hr : ∀ H W, Rep (gx X) H W d v) (hd : (x == ("__debug__" : Str)) = false := by decide +kernel) : PDE X E (.Name x pos) (cst d) := by
 first
 | exact (
  qCt (qB4 hg hm r hd) (λ _ _ _ q => q) hr)
 | ((try unfold PDE at *); exact (
  qCt (qB4 hg hm r hd) (λ _ _ _ q => q) hr))
def qKf (K : PySem.W.Frag) (mg : Str -> Option Value) (x : Str) (d : D) : Prop := ∃ u v, mg x = some u /\ qA6 v u /\ ∀ H W, Rep ⟨K, mg⟩ H W d v
theorem qZb (hg : Gl X x) (h : qKf X.K X.mg x d) (hd : (x == ("__debug__" : Str)) = false := by decide +kernel) : PDE X E (.Name x pos) (cst d) := by
 obtain ⟨u, v, hm, r, hr⟩ := h
 exact qRe hg hm r hr hd
def OpD (G : Gx) (r : R2) (f : D -> D -> Sto -> R D) : Prop :=
 ∀ (E : XK) (H : Hp) (W : Wd) (x y : V) (dx dy : D) (Q : VK) (rr : Rs D), qB0 G H W -> Rep G H W dx x -> Rep G H W dy y -> f dx dy W.S = some rr -> qBn G E H W rr (VP G Q) -> r x y H Q
theorem qDn (hf : OpD (gx X) r f) : ∀ σ H Q, tF (gx X) E (op2 f ga gb) σ H Q -> tOp r (tF (gx X) E ga) (tF (gx X) E gb) σ H Q := by
 intro σ H Q ⟨W, δ, rr, hS, hδ, hg, hA⟩
 refine Go.thn hS hδ hg hA λ dx H1 W1 s1 hδ1 hg1 hA1 x rx => ?_
 refine Go.thn s1.ok hδ1 hg1 hA1 λ dy H2 W2 s2 hδ2 hg2 hA2 y ry => ?_
 exact hf E H2 W2 x y dx dy Q rr s2.ok (rx.mv (s2.mv s1.ok)) ry hg2 hA2
theorem qJz (ho : OpR X (binaryOp op) r) (hf : OpD (gx X) r f) (ha : PDE X E a ga) (hb : PDE X E b gb) : PDE X E (.BinOp a op b pos) (op2 f ga gb) := by
 first
 | exact (
  PE.imp (qTz ho ha hb) (qDn hf))
 | ((try unfold PDE at *); exact (
  PE.imp (qTz ho ha hb) (qDn hf)))
theorem qLv (ho : OpR X (compareOp op) r) (hf : OpD (gx X) r f) (ha : PDE X E a ga) (hb : PDE X E b gb) (hm : behindInMarks op b = false) : PDE X E (.Compare a [op] [b] pos) (op2 f ga gb) := by
 first
 | exact (
  PE.imp (qLp ho ha hb hm) (qDn hf))
 | ((try unfold PDE at *); exact (
  PE.imp (qLp ho ha hb hm) (qDn hf)))
theorem qJq {t : TE} (ht : ∀ σ H Q, tF (gx X) E ga σ H Q -> t σ H Q) : ∀ σ H Q, tFT (gx X) E (tv ga) σ H Q -> t σ H λ x H1 => ∃ k, x = .bl k /\ Q k H1 := by
 intro σ H Q ⟨W, δ, rr, hS, hδ, hg, hA⟩
 refine ht σ H _ (Go.thn hS hδ hg hA λ d H1 W1 s1 hδ1 hg1 hA1 v rv => ?_)
 cases d with
 | bl k =>
  obtain rfl : Rs.ok k W1.S = rr := Option.some.inj hg1
  exact ⟨k, rv, hA1.now s1.ok⟩
 | _ => cases hg1
theorem zV {op : CmpOp} {r : R2} {f : D -> D -> Sto -> R D} (ho : OpR X (compareOp op) r) (hf : OpD (gx X) r f) (ha : PDE X E a ga) (hb : PDE X E b gb) (hm : behindInMarks op b = false) : PDT X E (.Compare a [op] [b] pos) (tv (op2 f ga gb)) := by
 first
 | exact (
  PT.imp (qLd ho ha hb hm) (qJq (qDn hf)))
 | ((try unfold PDE at *); (try unfold PDT at *); exact (
  PT.imp (qLd ho ha hb hm) (qJq (qDn hf))))
theorem qQo (ha : PDE X E a ga) (he : ∀ whole, isTrue a X.env whole = (do let v <- whole; standAt a.pos; holding [v] (truthy v)) := by intro _; rfl) : PDT X E a (tv ga) := by
 first
 | exact (
  PT.imp (qPn ha he) (qJq λ _ _ _ q => q))
 | ((try unfold PDE at *); (try unfold PDT at *); exact (
  PT.imp (qPn ha he) (qJq λ _ _ _ q => q)))
def UnD (G : Gx) (r : V -> Hp -> VK -> Prop) (f : D -> Sto -> R D) : Prop :=
 ∀ (E : XK) (H : Hp) (W : Wd) (x : V) (dx : D) (Q : VK) (rr : Rs D), qB0 G H W -> Rep G H W dx x -> f dx W.S = some rr -> qBn G E H W rr (VP G Q) -> r x H Q
theorem qXc (ho : UnR X (unaryOp op) r) (hf : UnD (gx X) r f) (ha : PDE X E a ga) : PDE X E (.UnaryOp op a pos) (op1 f ga) := by
 try unfold PDE at *
 refine PE.imp (qXa ho ha) λ σ H Q ⟨W, δ, rr, hS, hδ, hg, hA⟩ => ?_
 exact Go.thn hS hδ hg hA λ dx H1 W1 s1 hδ1 hg1 hA1 x rx => hf E H1 W1 x dx Q rr s1.ok rx hg1 hA1
variable {ta tb : DT} {rest : List Expr}
theorem qRk (ha : PDT X E a ta) : PDW X E (.BoolOp .And [a] pos) ta := by
 first
 | exact (
  qLb ha)
 | ((try unfold PDT at *); (try unfold PDW at *); exact (
  qLb ha))
theorem qUc (ha : PDT X E a ta) : PDW X E (.BoolOp .Or [a] pos) ta := by
 first
 | exact (
  qPm ha)
 | ((try unfold PDT at *); (try unfold PDW at *); exact (
  qPm ha))
theorem qUp (ha : PDT X E a ta) (hb : PDW X E (.BoolOp .And (b :: rest) pos) tb) : PDW X E (.BoolOp .And (a :: b :: rest) pos) (andT ta tb) := by
 try unfold PDT at *
 try unfold PDW at *
 refine PW.imp (qTl ha hb) λ σ H Q ⟨W, δ, rr, hS, hδ, hg, hA⟩ => ?_
 refine Go.thn hS hδ hg hA λ c H1 W1 s1 hδ1 hg1 hA1 => ?_
 cases c with
 | true => exact ⟨W1, δ, rr, s1.ok, hδ1, hg1, hA1⟩
 | false =>
  obtain rfl : Rs.ok false W1.S = rr := Option.some.inj hg1
  exact hA1.now s1.ok
theorem qXf (ha : PDT X E a ta) (hb : PDW X E (.BoolOp .Or (b :: rest) pos) tb) : PDW X E (.BoolOp .Or (a :: b :: rest) pos) (orT ta tb) := by
 try unfold PDT at *
 try unfold PDW at *
 refine PW.imp (qW8 ha hb) λ σ H Q ⟨W, δ, rr, hS, hδ, hg, hA⟩ => ?_
 refine Go.thn hS hδ hg hA λ c H1 W1 s1 hδ1 hg1 hA1 => ?_
 cases c with
 | true =>
  obtain rfl : Rs.ok true W1.S = rr := Option.some.inj hg1
  exact hA1.now s1.ok
 | false => exact ⟨W1, δ, rr, s1.ok, hδ1, hg1, hA1⟩
theorem qXb (h : PDW X E a ta) : PDT X E a ta := by
 first
 | exact (
  PW.pt h)
 | ((try unfold PDT at *); (try unfold PDW at *); exact (
  PW.pt h))
theorem qUd (ha : PDT X E a ta) : PDT X E (.UnaryOp .Not a pos) (notT ta) := by
 try unfold PDT at *
 refine PT.imp (qTm ha) λ σ H Q ⟨W, δ, rr, hS, hδ, hg, hA⟩ => ?_
 refine Go.thn hS hδ hg hA λ c H1 W1 s1 hδ1 hg1 hA1 => ?_
 obtain rfl : Rs.ok (!c) W1.S = rr := Option.some.inj hg1
 exact hA1.now s1.ok
theorem qQ6 {op} (ha : PDE X E a ga) : PDE X E (.BoolOp op [a] pos) ga := by
 first
 | exact (
  qLm ha)
 | ((try unfold PDE at *); exact (
  qLm ha))
theorem qRj (ha : PDE X E a ga) (hb : PDE X E (.BoolOp .And (b :: rest) pos) gb) : PDE X E (.BoolOp .And (a :: b :: rest) pos) (andV ga gb) := by
 try unfold PDE at *
 refine PE.imp (qT5 ha hb) λ σ H Q ⟨W, δ, rr, hS, hδ, hg, hA⟩ => ?_
 refine Go.thn hS hδ hg hA λ d H1 W1 s1 hδ1 hg1 hA1 v rv => ?_
 cases d with
 | bl k =>
  refine ⟨k, rv, ?_⟩
  cases k with
  | true => exact ⟨W1, δ, rr, s1.ok, hδ1, hg1, hA1⟩
  | false =>
   obtain rfl : Rs.ok (D.bl false) W1.S = rr := Option.some.inj hg1
   exact hA1.now s1.ok _ rfl
 | _ => cases hg1
theorem qQ8 (ha : PDE X E a ga) : PDE X E (.UnaryOp .Not a pos) (notV ga) := by
 try unfold PDE at *
 refine PE.imp (qT0 ha) λ σ H Q ⟨W, δ, rr, hS, hδ, hg, hA⟩ => ?_
 refine Go.thn hS hδ hg hA λ d H1 W1 s1 hδ1 hg1 hA1 v rv => ?_
 cases d with
 | bl k =>
  refine ⟨k, rv, ?_⟩
  obtain rfl : Rs.ok (D.bl (!k)) W1.S = rr := Option.some.inj hg1
  exact hA1.now s1.ok _ rfl
 | _ => cases hg1
theorem qUg (hc : PDT X E c ta) (ha : PDE X E a ga) (hb : PDE X E b gb) : PDE X E (.IfExp c a b pos) (ifE ta ga gb) := by
 try unfold PDE at *
 try unfold PDT at *
 refine PE.imp (qN4 hc ha hb) λ σ H Q ⟨W, δ, rr, hS, hδ, hg, hA⟩ => ?_
 refine Go.thn hS hδ hg hA λ k H1 W1 s1 hδ1 hg1 hA1 => ?_
 cases k with
 | true => exact ⟨W1, δ, rr, s1.ok, hδ1, hg1, hA1⟩
 | false => exact ⟨W1, δ, rr, s1.ok, hδ1, hg1, hA1⟩
variable {es : List Expr} {gs : DA}
theorem zE : PDA X E [] aNil := by
 try unfold PDA at *
 refine PA.imp qEf λ σ H Q ⟨W, δ, rr, hS, hδ, hg, hA⟩ => ?_
 obtain rfl : Rs.ok [] W.S = rr := Option.some.inj hg
 exact hA.now hS [] rfl
theorem zB (ha : PDE X E e ga) (hr : PDA X E es gs) (hs : starEach (e :: es) X.env = (false, eval e X.env) :: starEach es X.env := by rfl) : PDA X E (e :: es) (zZ ga gs) := by
 try unfold PDE at *
 try unfold PDA at *
 refine PA.imp (qAr ha hr hs) λ σ H Q ⟨W, δ, rr, hS, hδ, hg, hA⟩ => ?_
 refine Go.thn hS hδ hg hA λ d H1 W1 s1 hδ1 hg1 hA1 v rv => ?_
 refine Go.thn s1.ok hδ1 hg1 hA1 λ ds H2 W2 s2 hδ2 hg2 hA2 vs rvs => ?_
 obtain rfl : Rs.ok (d :: ds) W2.S = rr := Option.some.inj hg2
 exact hA2.now s2.ok _ ⟨v, vs, rfl, rv.mv (s2.mv s1.ok), rvs⟩
theorem sz (h : n <= 1000000) : n <= sizeLine := jAk h (by decide)
theorem Mv.heap (hp : H p = none) (u : HO) : Mv H W (upd H p u) W := ⟨jAy _, λ _ _ => rfl, λ b v e _ => by rw [zN (qAd e hp)]; exact e⟩
theorem qT8 {x1} (h : PDA X E es gs) : PDE X E (.Tuple es x1 pos) (fnE qBp gs) := by
 try unfold PDE at *
 try unfold PDA at *
 refine PE.imp (qPo h) λ σ H Q ⟨W, δ, rr, hS, hδ, hg, hA⟩ => ?_
 refine Go.thn hS hδ hg hA λ ds H1 W1 s1 hδ1 hg1 hA1 vs rvs => ?_
 unfold qBp at hg1
 split at hg1
 ·rename_i hl
  obtain rfl : Rs.ok (D.tup ds) W1.S = rr := Option.some.inj hg1
  refine ⟨by rw [<- rvs.length]; exact sz (by omega), λ p hp => hA1 _ W1 rfl (Nxt.heap s1.ok hp _) _ ?_⟩
  exact ⟨p, vs, rfl, SqT.of zT, rvs.mv (Mv.heap hp _)⟩
 ·cases hg1
theorem qBq {G : Gx} {H : Hp} {W : Wd} {E : XK} {rr : Rs D} {Q : VK} {ds : List D} {vs : List V} {p : Addr} (hS : qB0 G H W) (hg : qJ2 (.lst ds) W.S = some rr) (hA : qBn G E H W rr (VP G Q)) (rl : qAl G H W ds vs) (hp : H p = none) : Q (.ref p) (upd H p (.lst vs)) := by
 obtain rfl : Rs.ok (D.ref W.S.length) (W.S ++ [O.lst ds]) = rr := Option.some.inj hg
 refine hA _ (W.push p (.lst ds)) rfl (Nxt.alloc hS hp ⟨vs, zT, rl.mv (Mv.push (G := G) hp _ _)⟩) _ ⟨?_, ?_⟩
 ·simp [Wd.push]
 ·show V.ref p = .ref (if W.S.length = W.S.length then p else _)
  rw [if_pos rfl]
theorem qUf (h : PDA X E es gs) : PDE X E (.List es pos) (fnE qA5 gs) := by
 try unfold PDE at *
 try unfold PDA at *
 refine PE.imp (qT1 h) λ σ H Q ⟨W, δ, rr, hS, hδ, hg, hA⟩ => ?_
 refine Go.thn hS hδ hg hA λ ds H1 W1 s1 hδ1 hg1 hA1 vs rvs => ?_
 unfold qA5 at hg1
 split at hg1
 ·rename_i hl
  exact ⟨by rw [<- rvs.length]; exact sz (by omega), λ p hp => qBq s1.ok hg1 hA1 rvs hp⟩
 ·cases hg1
def qEw (G : Gx) (r : List V -> Hp -> VK -> Prop) (f : List D -> Sto -> R D) : Prop :=
 ∀ (E : XK) (H : Hp) (W : Wd) (vs : List V) (ds : List D) (Q : VK) (rr : Rs D), qB0 G H W -> qAl G H W ds vs -> f ds W.S = some rr -> qBn G E H W rr (VP G Q) -> r vs H Q
theorem qFk (hf : qEw (gx X) r f) : ∀ σ H Q, tF (gx X) E (fnE f gs) σ H Q -> tCB r (tFA (gx X) E gs) σ H Q := by
 intro σ H Q ⟨W, δ, rr, hS, hδ, hg, hA⟩
 exact Go.thn hS hδ hg hA λ ds H1 W1 s1 hδ1 hg1 hA1 vs rvs => hf E H1 W1 vs ds Q rr s1.ok rvs hg1 hA1
theorem zX {x : Str} {id : String} {p : Pos} {r : List V -> Hp -> VK -> Prop} {f : List D -> Sto -> R D} (hc : qBm X (.builtin id) r) (hf : qEw (gx X) r f) (hg : Gl X x) (hm : X.mg x = none) (hv : bootBuiltins x = some (.builtin id)) (ha : PDA X E (e :: es) gs) (hn : x ≠ "__name__" := by decide +kernel)
  (hdb : (x == ("__debug__" : Str)) = false := by decide +kernel) (he : starEach (e :: es) X.env = (false, eval e X.env) :: starEach es X.env := by rfl) (hpl : (backTo pos (starEach es X.env)).any (·.1) = false := by rfl) : PDE X E (.Call (.Name x p) (e :: es) [] pos) (fnE f gs) := by
 first
 | exact (
  PE.imp (qCm hc hg hm hv ha hn hdb he hpl) (qFk hf))
 | ((try unfold PDE at *); (try unfold PDA at *); exact (
  PE.imp (qCm hc hg hm hv ha hn hdb he hpl) (qFk hf)))
theorem qGu {x : Str} {T : String} {p : Pos} {r : List V -> Hp -> VK -> Prop} {f : List D -> Sto -> R D} (hc : qBm X (.type T) r) (hf : qEw (gx X) r f) (hg : Gl X x) (hm : X.mg x = none) (hv : bootBuiltins x = some (.type T)) (ha : PDA X E (e :: es) gs) (hn : x ≠ "__name__" := by decide +kernel)
  (hdb : (x == ("__debug__" : Str)) = false := by decide +kernel) (he : starEach (e :: es) X.env = (false, eval e X.env) :: starEach es X.env := by rfl) (hpl : (backTo pos (starEach es X.env)).any (·.1) = false := by rfl) : PDE X E (.Call (.Name x p) (e :: es) [] pos) (fnE f gs) := by
 first
 | exact (
  PE.imp (qGt hc hg hm hv ha hn hdb he hpl) (qFk hf))
 | ((try unfold PDE at *); (try unfold PDA at *); exact (
  PE.imp (qGt hc hg hm hv ha hn hdb he hpl) (qFk hf)))
def spF (G : Gx) (f : List D -> Sto -> R D) : Sp := λ vs H Q E => ∃ W ds rr, qB0 G H W /\ qAl G H W ds vs /\ f ds W.S = some rr /\ qBn G E H W rr (VP G Q)
theorem qXj (F : qCf X.prog X.w X.K X.mg X.base CX k fa fd ps (spF (gx X) f)) (hr : qBd k X.A) (hg : Gl X x) (hm : X.mg x = some (.ref fa)) (hk : jBg X.K (.ref fa) = true)
  (hb : zS X.K fd ps []) (hx : qAv CX X E) (ha : PDA X E (e :: es) gs) (hdb : (x == ("__debug__" : Str)) = false := by decide +kernel) (he : starEach (e :: es) X.env = (false, eval e X.env) :: starEach es X.env := by rfl)
  (hpl : (backTo pos (starEach es X.env)).any (·.1) = false := by rfl) : PDE X E (.Call (.Name x p) (e :: es) [] pos) (fnE f gs) := by
 try unfold PDE at *
 try unfold PDA at *
 refine PE.imp (qQx F hr hg hm hk hb .nil hx ha hdb he hpl) λ σ H Q ⟨W, δ, rr, hS, hδ, hg, hA⟩ => ?_
 exact Go.thn hS hδ hg hA λ as H1 W1 s1 hδ1 hg1 hA1 vs rvs => ⟨W1, as, rr, s1.ok, by rw [jBl]; exact rvs, hg1, hA1⟩
theorem qXg (hr : IxR X r) (hf : OpD (gx X) r f) (ha : PDE X E a ga) (hb : PDE X E b gb) (hs : qNf b) : PDE X E (.Subscript a b pos) (op2 f ga gb) := by
 first
 | exact (
  PE.imp (qT2 hr ha hb hs) (qDn hf))
 | ((try unfold PDE at *); exact (
  PE.imp (qT2 hr ha hb hs) (qDn hf)))
end
section
variable {X : Cx} {E : XK} {st : Stmt} {rest : List Stmt} {e : Expr} {pos : Pos} {ge : DE} {gs gr : DSt} {t : DT}
theorem qQz : qDl X E [] nxS := by
 try unfold qDl at *
 refine PSs.imp qQp λ D σ H ⟨W, δ, rr, hS, hδ, hg, hA⟩ => ?_
 obtain rfl : Rs.ok (Fl.nx δ) W.S = rr := Option.some.inj hg
 exact hA.now hS σ hδ
theorem zJ (h : PDS X E st gs) : qDl X E [st] gs := by
 first
 | exact (
  qLf h)
 | ((try unfold PDS at *); (try unfold qDl at *); exact (
  qLf h))
theorem zD (h : PDS X E st gs) (hr : qDl X E rest gr) : qDl X E (st :: rest) (seqS gs gr) := by
 try unfold PDS at *
 try unfold qDl at *
 refine PSs.imp (qNu h hr) λ D σ H ⟨W, δ, rr, hS, hδ, hg, hA⟩ => ?_
 refine Go.thn hS hδ hg hA λ f H1 W1 s1 hδ1 hg1 hA1 => ?_
 cases f with
 | nx δ' => exact λ σ' hδ' => ⟨W1, δ', rr, s1.ok, hδ', hg1, hA1⟩
 | rt d =>
  obtain rfl : Rs.ok (Fl.rt d) W1.S = rr := Option.some.inj hg1
  exact hA1.now s1.ok
 | bk δ' =>
  obtain rfl : Rs.ok (Fl.bk δ') W1.S = rr := Option.some.inj hg1
  exact hA1.now s1.ok
 | ct δ' =>
  obtain rfl : Rs.ok (Fl.ct δ') W1.S = rr := Option.some.inj hg1
  exact hA1.now s1.ok
theorem zO (he : PDE X E e ge) : PDS X E (.Return (some e) pos) (retS ge) := by
 try unfold PDE at *
 try unfold PDS at *
 refine PS.imp (qTo he) λ D σ H ⟨W, δ, rr, hS, hδ, hg, hA⟩ => ?_
 refine Go.thn hS hδ hg hA λ d H1 W1 s1 hδ1 hg1 hA1 v rv => ?_
 obtain rfl : Rs.ok (Fl.rt d) W1.S = rr := Option.some.inj hg1
 exact hA1.now s1.ok v rv
theorem qRg (he : PDE X E e ge) (hs : swapsWith e none pos.line X.env = pure false := by rfl) : PDS X E (.Expr e pos) (dropS ge) := by
 try unfold PDE at *
 try unfold PDS at *
 refine PS.imp (qQq he hs) λ D σ H ⟨W, δ, rr, hS, hδ, hg, hA⟩ => ?_
 refine Go.thn hS hδ hg hA λ d H1 W1 s1 hδ1 hg1 hA1 v rv => ?_
 obtain rfl : Rs.ok (Fl.nx δ) W1.S = rr := Option.some.inj hg1
 exact hA1.now s1.ok σ hδ1
theorem qXh {c : Expr} {a b : List Stmt} {gb : DSt} (hc : PDT X E c t) (ha : qDl X E a gs) (hb : qDl X E b gb) : PDS X E (.If c a b pos) (ifS t gs gb) := by
 try unfold PDT at *
 try unfold PDS at *
 try unfold qDl at *
 refine PS.imp (qW9 hc ha hb) λ D σ H ⟨W, δ, rr, hS, hδ, hg, hA⟩ => ?_
 refine Go.thn hS hδ hg hA λ k H1 W1 s1 hδ1 hg1 hA1 => ?_
 cases k with
 | true => exact ⟨W1, δ, rr, s1.ok, hδ1, hg1, hA1⟩
 | false => exact ⟨W1, δ, rr, s1.ok, hδ1, hg1, hA1⟩
theorem qOc : PDS X E st qL4 := by
 first
 | exact (
  PS.imp qIu λ D σ H ⟨W, δ, rr, hS, hδ, hg, hA⟩ => by cases hg)
 | ((try unfold PDS at *); exact (
  PS.imp qIu λ D σ H ⟨W, δ, rr, hS, hδ, hg, hA⟩ => by cases hg))
theorem qLr {sts : List Stmt} : qDl X E sts qL4 := by
 first
 | exact (
  PSs.imp qGr λ D σ H ⟨W, δ, rr, hS, hδ, hg, hA⟩ => by cases hg)
 | ((try unfold qDl at *); exact (
  PSs.imp qGr λ D σ H ⟨W, δ, rr, hS, hδ, hg, hA⟩ => by cases hg))
theorem qUa (i j : Nat) {x y : Str} {a b : Expr} {ga gb : DE} {px py pt : Pos} {kt k2 pt2} (hc : X.calm = true) (hN : X.N.Nodup) (ha : PDE X E a ga) (hb : PDE X E b gb) (hi : X.N[i]? = some x := by rfl) (hj : X.N[j]? = some y := by rfl) (hij : i ≠ j := by decide)
  (hx : X.env.scope.names.lookup x = some .local := by rfl) (hy : X.env.scope.names.lookup y = some .local := by rfl)
  (hst : starEach (a :: [b]) X.env = (false, eval a X.env) :: starEach [b] X.env := by rfl) (hst2 : starEach (b :: []) X.env = (false, eval b X.env) :: starEach [] X.env := by rfl)
  (hw : swappedStores [.Tuple [.Name x px, .Name y py] kt pt] (.Tuple [a, b] k2 pt2) X.env = pure (some [x, y]) := by rfl)
  (hs : swapsWithSole [.Tuple [.Name x px, .Name y py] kt pt] (.Tuple [a, b] k2 pt2) pos.line X.env = pure false := by rfl) :
  PDS X E (.Assign [.Tuple [.Name x px, .Name y py] kt pt] (.Tuple [a, b] k2 pt2) pos) (parS i j ga gb) := by
 try unfold PDE at *
 try unfold PDS at *
 refine PS.imp (qTp hc hN hi hj hij hx hy (qAr ha (qAr hb qEf hst2) hst) hw hs) λ D σ H ⟨W, δ, rr, hS, hδ, hg, hA⟩ => ?_
 refine Go.thn hS hδ hg hA λ d1 H1 W1 s1 hδ1 hg1 hA1 v1 rv1 => ?_
 refine Go.thn s1.ok hδ1 hg1 hA1 λ d2 H2 W2 s2 hδ2 hg2 hA2 v2 rv2 => ?_
 obtain rfl : Rs.ok (Fl.nx ((δ.set i (some d1)).set j (some d2))) W2.S = rr := Option.some.inj hg2
 exact ⟨v1, v2, rfl, hA2.now s2.ok _ ((hδ2.set i (rv1.mv (s2.mv s1.ok))).set j rv2)⟩
theorem zL (i : Nat) (hN : X.N.Nodup) (hi : X.N[i]? = some x := by rfl) (hx : Loc X.env.scope x := by first | exact Or.inl rfl | exact Or.inr rfl) (hf : X.fn x = true \/ X.env.scope.names.lookup x = some .local := by first | exact .inl rfl | exact .inr rfl | assumption) :
  PDG X E (.Name x pos) (setG i) := by
 try unfold PDG at *
 intro pins s σ H v u Q I rv h
 obtain ⟨W, δ, d, rr, hS, hδ, hd, hg, hA⟩ := h
 obtain rfl : Rs.ok (δ.set i (some d)) W.S = rr := Option.some.inj hg
 exact qQu hN hi hx hf pins s σ H v u Q I rv (hA.now hS _ (hδ.set i hd))
def qY6 (G : Gx) (E : XK) (gs : List DG) : TGs := λ vs σ H Q => ∃ W δ ds r, qB0 G H W /\ qCr G H W δ σ /\ qAl G H W ds vs /\ tupGs gs ds δ W.S = some r /\ qBn G E H W r (λ δ' H' W' => ∀ σ', qCr G H' W' δ' σ' -> Q σ' H')
@[irreducible] def qNi (X : Cx) (E : XK) (ts : List Expr) (gs : List DG) : Prop := PGs X ts (qY6 (gx X) E gs)
theorem qN7 : qNi X E [] [] := by
 try unfold qNi at *
 intro pins s σ H vs us Q I rv h
 obtain ⟨W, δ, ds, rr, hS, hδ, hd, hg, hA⟩ := h
 cases ds with
 | nil =>
  obtain rfl : Rs.ok δ W.S = rr := Option.some.inj hg
  have e : vs = [] := hd
  exact qQt pins s σ H vs us Q I rv ⟨e, hA.now hS σ hδ⟩
 | cons d ds => cases hg
theorem zU {tg : Expr} {ts : List Expr} {g : DG} {gs : List DG} (h : PDG X E tg g) (hr : qNi X E ts gs) (hs : (assignEach (tg :: ts) X.env).map (·.2) = assign tg X.env :: (assignEach ts X.env).map (·.2) := by rfl) : qNi X E (tg :: ts) (g :: gs) := by
 try unfold qNi at *
 try unfold PDG at *
 intro pins s σ H vs us Q I rv h'
 obtain ⟨W, δ, ds, rr, hS, hδ, hd, hg, hA⟩ := h'
 cases ds with
 | nil => cases hg
 | cons d ds =>
  obtain ⟨v, r, rfl, q, tl⟩ := hd
  refine qN1 h hr hs pins s σ H _ us Q I rv ⟨v, r, rfl, ?_⟩
  rcases qAk (show bnd (g d δ W.S) (tupGs gs ds) = some rr from hg) with ⟨δ1, S1, e1, q1⟩ | ⟨c, S1, e1, q1⟩
  ·exact ⟨W, δ, d, .ok δ1 S1, hS, hδ, q, e1, λ H1 W1 e s1 σ1 hδ1 => ⟨W1, δ1, ds, rr, s1.ok, hδ1, tl.mv (s1.mv hS), by rw [e]; exact q1, hA.nxt s1⟩⟩
  ·subst q1
   exact ⟨W, δ, d, .er c S1, hS, hδ, q, e1, hA⟩
theorem qQ1 {ts : List Expr} {k : Nat} {gs : List DG} (hc : X.calm = true) (h : qNi X E ts gs) (hn : (assignEach ts X.env).length = gs.length := by rfl) (hst : (assignEach ts X.env).findIdx? (·.1) = none := by rfl) : PDG X E (.Tuple ts k pos) (qHo gs) := by
 try unfold qNi at *
 try unfold PDG at *
 intro pins s σ H v u Q I rv h'
 obtain ⟨W, δ, d, rr, hS, hδ, hd, hg, hA⟩ := h'
 cases d with
 | tup ds =>
  obtain ⟨a, xs, e, q, r⟩ := hd
  have hg' : (if ds.length = gs.length then tupGs gs ds δ W.S else none) = some rr := hg
  split at hg'
  ·rename_i l
   exact qTu (n := gs.length) hc h hn hst pins s σ H v u Q I rv ⟨a, xs, e, q, by rw [<- r.length]; exact l, W, δ, ds, rr, hS, hδ, r, hg', hA⟩
  ·cases hg'
 | _ => cases hg
theorem qUo {tg : Expr} {g : DG} (he : PDE X E e ge) (hg : PDG X E tg g) (hs : swapsWithSole [tg] e pos.line X.env = pure false := by rfl) (hw : swappedStores [tg] e X.env = pure none := by rfl)
  (h1 : (assignEach [tg] X.env).map (·.2) = [assign tg X.env] := by rfl) : PDS X E (.Assign [tg] e pos) (asgS ge g) := by
 try unfold PDE at *
 try unfold PDS at *
 try unfold PDG at *
 refine PS.imp (qTs he hg hs hw h1) λ D σ H ⟨W, δ, rr, hS, hδ, hg, hA⟩ => ?_
 refine Go.thn hS hδ hg hA λ d H1 W1 s1 hδ1 hg1 hA1 v rv => ?_
 rcases qAk (show bnd (g d δ W1.S) nxS = some rr from hg1) with ⟨δ', S', e1, q⟩ | ⟨c, S', e1, q⟩
 ·obtain rfl : Rs.ok (Fl.nx δ') S' = rr := Option.some.inj q
  exact ⟨W1, δ, d, .ok δ' S', s1.ok, hδ1, rv, e1, λ H2 W2 e s2 σ2 hδ2 => hA1 H2 W2 e s2 σ2 hδ2⟩
 ·subst q
  exact ⟨W1, δ, d, .er c S', s1.ok, hδ1, rv, e1, hA1⟩
theorem qN8 {c : Expr} {body : List Stmt} (hp : PassesOwn (model X.prog X.w) X.A X.env X.xe) (hc : PDT X E c t) (hb : qDl X E body gs) : PDS X E (.While c body [] pos) (qCy t gs) := by
 try unfold PDT at *
 try unfold PDS at *
 try unfold qDl at *
 refine PS.imp (qNv hp hc hb) λ D σ H ⟨W, δ, rr, hS, hδ, hg, hA⟩ => ?_
 obtain ⟨n, hg⟩ := qHq hg
 refine ⟨λ m σ1 H1 => ∃ W1 δ1, qB0 (gx X) H1 W1 /\ qCr (gx X) H1 W1 δ1 σ1 /\ qA2 t gs m δ1 W1.S = some rr /\ qBn (gx X) E H1 W1 rr (SV (gx X) D), ⟨n, W, δ, hS, hδ, hg, hA⟩, ?_⟩
 rintro m σ1 H1 ⟨W1, δ1, hS1, hδ1, hg1, hA1⟩
 cases m with
 | zero => cases hg1
 | succ m =>
  refine Go.thn hS1 hδ1 hg1 hA1 λ k H2 W2 s2 hδ2 hg2 hA2 => ?_
  cases k with
  | false =>
   obtain rfl : Rs.ok (Fl.nx δ1) W2.S = rr := Option.some.inj hg2
   exact hA2.now s2.ok σ1 hδ2
  | true =>
   refine ⟨λ σ3 H3 => ∃ W3 δ3, qB0 (gx X) H3 W3 /\ qCr (gx X) H3 W3 δ3 σ3 /\ qA2 t gs m δ3 W3.S = some rr /\ qBn (gx X) E H3 W3 rr (SV (gx X) D), λ σ3 H3 h3 => ⟨m, jBj m, h3⟩, ?_⟩
   refine Go.thn s2.ok hδ2 hg2 hA2 λ f H3 W3 s3 hδ3 q hA3 => ?_
   cases f with
   | nx δ3 => exact λ σ3 h3 => ⟨W3, δ3, s3.ok, h3, q, hA3⟩
   | ct δ3 => exact λ σ3 h3 => ⟨W3, δ3, s3.ok, h3, q, hA3⟩
   | bk δ3 =>
    obtain rfl : Rs.ok (Fl.nx δ3) W3.S = rr := Option.some.inj q
    exact λ σ3 h3 => hA3.now s3.ok σ3 h3
   | rt d =>
    obtain rfl : Rs.ok (Fl.rt d) W3.S = rr := Option.some.inj q
    exact λ v rv => hA3.now s3.ok v rv
def Walks (G : Gx) (J : It) (H : Hp) (W : Wd) (src : Src) : Prop :=
 ∀ (i : Nat) (H1 : Hp) (W1 : Wd), Nxt G H W H1 W1 -> (src.get W1.S i = some none -> J.stop i H1) /\ ∀ d, src.get W1.S i = some (some d) -> J.go i H1 /\ ∀ x H2, J.yld i H1 x H2 -> ∃ W2, W2.S = W1.S /\ Nxt G H1 W1 H2 W2 /\ Rep G H2 W2 d x
def tFI (G : Gx) (E : XK) (g : DI) : TI := λ σ H R => Go G E g (λ src H' W' => ∀ J, Walks G J H' W' src -> R J H') σ H
@[irreducible] def PDI (X : Cx) (E : XK) (tg iter : Expr) (g : DI) : Prop := PI X tg iter (tFI (gx X) E g)
theorem qKa (h : qKi src g b n i δ S = some r) :
  (src.get S i = some none /\ r = .ok (.nx δ) S) \/ ∃ x m, n = m + 1 /\ src.get S i = some (some x) /\ bnd (g x δ S) (qKv b (qKi src g b m (i + 1))) = some r := by
 cases n with
 | zero =>
  unfold qKi at h
  split at h
  ·rename_i e
   exact .inl ⟨e, (Option.some.inj h).symm⟩
  ·cases h
 | succ n =>
  unfold qKi at h
  split at h
  ·rename_i e
   exact .inl ⟨e, (Option.some.inj h).symm⟩
  ·rename_i x e
   exact .inr ⟨x, n, rfl, e, h⟩
  ·cases h
theorem qUh {tg iter : Expr} {body : List Stmt} {gi : DI} {g : DG} (hp : PassesOwn (model X.prog X.w) X.A X.env X.xe) (hc : X.calm = true) (hi : PDI X E tg iter gi) (hg : PDG X E tg g) (hb : qDl X E body gs)
  (hs : ∀ x, foldedSetIterable iter X.env x = pure x := by intro _; rfl) : PDS X E (.For tg iter body [] pos) (forS gi g gs) := by
 try unfold PDS at *
 try unfold qDl at *
 try unfold PDG at *
 try unfold PDI at *
 refine PS.imp (qTq hp hc hi hg hb hs) λ D σ H ⟨W, δ, rr, hS, hδ, hg, hA⟩ => ?_
 refine Go.thn hS hδ hg hA λ src H1 W1 s1 hδ1 q hA1 J hJ => ?_
 refine ⟨λ i m σ2 H2 => ∃ W2, Nxt (gx X) H1 W1 H2 W2 /\ ∃ δ2, qCr (gx X) H2 W2 δ2 σ2 /\ qKi src g gs m i δ2 W2.S = some rr /\ qBn (gx X) E H2 W2 rr (SV (gx X) D), ⟨src.len W1.S, W1, .rfl s1.ok, δ, hδ1, q, hA1⟩, ?_⟩
 rintro i m σ2 H2 ⟨W2, s2, δ2, hδ2, hg2, hA2⟩
 obtain ⟨w1, w2⟩ := hJ i H2 W2 s2
 rcases qKa hg2 with ⟨e, rfl⟩ | ⟨d, m, rfl, e, hg2⟩
 ·exact .inl ⟨w1 e, hA2.now s2.ok σ2 hδ2⟩
 ·obtain ⟨wg, wy⟩ := w2 d e
  refine .inr ⟨wg, λ σ' H' => ∃ W', Nxt (gx X) H1 W1 H' W' /\ ∃ δ', qCr (gx X) H' W' δ' σ' /\ qKi src g gs m (i + 1) δ' W'.S = some rr /\ qBn (gx X) E H' W' rr (SV (gx X) D), λ σ' H' h' => ⟨m, jBj m, h'⟩, λ x H3 y => ?_⟩
  obtain ⟨W3, e3, s3, rx⟩ := wy x H3 y
  rcases qAk hg2 with ⟨δ4, S4, e4, q4⟩ | ⟨c, S4, e4, q4⟩
  ·refine ⟨W3, δ2, d, .ok δ4 S4, s3.ok, hδ2.mv (s3.mv s2.ok), rx, by rw [e3]; exact e4, λ H4 W4 eS4 s4 σ4 hδ4 => ?_⟩
   refine Go.thn s4.ok hδ4 (by rw [eS4]; exact q4) ((hA2.nxt s3).nxt s4) λ f H5 W5 s5 hδ5 q5 hA5 => ?_
   have s15 := (s2.trans s3).trans (s4.trans s5)
   cases f with
   | nx δ5 => exact λ σ5 h5 => ⟨W5, s15, δ5, h5, q5, hA5⟩
   | ct δ5 => exact λ σ5 h5 => ⟨W5, s15, δ5, h5, q5, hA5⟩
   | bk δ5 =>
    obtain rfl : Rs.ok (Fl.nx δ5) W5.S = rr := Option.some.inj q5
    exact λ σ5 h5 => hA5.now s5.ok σ5 h5
   | rt d =>
    obtain rfl : Rs.ok (Fl.rt d) W5.S = rr := Option.some.inj q5
    exact λ v rv => hA5.now s5.ok v rv
  ·subst q4
   exact ⟨W3, δ2, d, .er c S4, s3.ok, hδ2.mv (s3.mv s2.ok), rx, by rw [e3]; exact e4, hA2.nxt s3⟩
theorem Src.one_some (h : (Src.one a).get S i = some o) : ∃ ds, zH S a = some ds /\ ds[i]? = o := by
 have h' : (match zH S a with | some xs => some xs[i]? | none => none) = some o := h
 cases q : zH S a with
 | none => rw [q] at h'; cases h'
 | some ds => rw [q] at h'; exact ⟨ds, rfl, Option.some.inj h'⟩
theorem qJn (ha : a < W.S.length) : Walks G (Itl G.K (W.μ a)) H W (.one a) := λ i H1 W1 s1 => by
 refine ⟨λ h => ?_, λ d hd => ?_⟩
 ·obtain ⟨ds, e, hn⟩ := Src.one_some h
  obtain ⟨xs, ex, q, rl⟩ := s1.ok.lst (v := .ref (W1.μ a)) ⟨jAd ha s1.len, rfl⟩ e
  rw [s1.old a ha] at q
  exact ⟨xs, .inl (.inl q), by rw [<- rl.length]; exact jCf.mp hn⟩
 ·obtain ⟨ds, e, hn⟩ := Src.one_some hd
  obtain ⟨xs, ex, q, rl⟩ := s1.ok.lst (v := .ref (W1.μ a)) ⟨jAd ha s1.len, rfl⟩ e
  rw [s1.old a ha] at q
  obtain ⟨x, hx, rx⟩ := rl.get hn
  refine ⟨⟨xs, x, .inl (.inl q), hx⟩, λ y H3 hy => ?_⟩
  obtain ⟨e3, hy⟩ := hy
  subst e3
  have := hy xs (.inl (.inl q))
  rw [hx] at this
  cases this
  exact ⟨W1, rfl, .rfl s1.ok, rx⟩
theorem qKp (hS : qB0 G H W) (q : Sc G.K H a xs) (rl : qAl G H W ds xs) : Walks G (Itl G.K a) H W (.fix ds) := λ i H1 W1 s1 => by
 have q1 : Sc G.K H1 a xs := (s1.mv hS).sc q
 have rl1 := rl.mv (s1.mv hS)
 refine ⟨λ h => ?_, λ d hd => ?_⟩
 ·have h : ds[i]? = none := Option.some.inj h
  exact ⟨xs, q1.sq, by rw [<- rl.length]; exact jCf.mp h⟩
 ·have hd : ds[i]? = some d := Option.some.inj hd
  obtain ⟨x, hx, rx⟩ := rl1.get hd
  refine ⟨⟨xs, x, q1.sq, hx⟩, λ y H3 hy => ?_⟩
  obtain ⟨e3, hy⟩ := hy
  subst e3
  have := hy xs q1.sq
  rw [hx] at this
  cases this
  exact ⟨W1, rfl, .rfl s1.ok, rx⟩
theorem qN6 (hl : PDE X E l gl) : PDI X E tg l (itE itL gl) := by
 try unfold PDE at *
 try unfold PDI at *
 intro pins s σ H R I ⟨W, δ, rr, hS, hδ, hg, hA⟩
 refine qQs hl pins s σ H R I (Go.thn hS hδ hg hA λ d H1 W1 s1 hδ1 hg1 hA1 v rv => ?_)
 cases d with
 | ref a =>
  have hg1 : (match zH W1.S a with | some _ => ok (.one a) W1.S | none => none) = some rr := hg1
  cases q : zH W1.S a with
  | none => rw [q] at hg1; cases hg1
  | some ds =>
   rw [q] at hg1
   obtain rfl : Rs.ok (Src.one a) W1.S = rr := Option.some.inj hg1
   obtain ⟨xs, ex, qx, rl⟩ := s1.ok.lst rv q
   exact ⟨W1.μ a, ex, ⟨xs, .inl (.inl qx)⟩, hA1.now s1.ok _ (qJn rv.1)⟩
 | scr ds =>
  obtain rfl : Rs.ok (Src.fix ds) W1.S = rr := Option.some.inj hg1
  obtain ⟨a, xs, e, q, rl⟩ := rv
  exact ⟨a, e, ⟨xs, q.sq⟩, hA1.now s1.ok _ (qKp s1.ok q rl)⟩
 | _ => cases hg1
theorem qG7 : ∀ (n : Nat) (lo : Int) (i : Nat) (d : D), (qB7 lo n)[i]? = some d -> i < n /\ d = .int (lo + i)
 | 0, _, _, _, h => by simp [qB7] at h
 | n + 1, lo, 0, d, h => by
  simp [qB7] at h
  exact ⟨Nat.succ_pos n, by rw [<- h]; simp⟩
 | n + 1, lo, i + 1, d, h => by
  simp only [qB7, jCg] at h
  obtain ⟨h1, h2⟩ := qG7 n (lo + 1) i d h
  refine ⟨Nat.succ_lt_succ h1, ?_⟩
  rw [h2]
  congr 1
  omega
theorem qDr : ∀ (n : Nat) (lo : Int), (qB7 lo n).length = n
 | 0, _ => rfl
 | n + 1, lo => by simp [qB7, qDr n]
theorem qEz (lo : Int) (n : Nat) : Walks G (Itr lo n) H W (.fix (qB7 lo n)) := λ i H1 W1 s1 =>
 ⟨λ h => by
  have h : (qB7 lo n)[i]? = none := Option.some.inj h
  have := jCf.mp h
  rw [qDr] at this
  exact this, λ d hd => by
  obtain ⟨h1, h2⟩ := qG7 n lo i d (Option.some.inj hd)
  refine ⟨h1, λ x H2 hy => ?_⟩
  obtain ⟨e, hx⟩ := hy
  subst e
  subst h2
  exact ⟨W1, rfl, .rfl s1.ok, hx⟩⟩
theorem qJx (hg : Gl X "range") (hm : X.mg "range" = none) (ha : PDE X E a ga) (hs : starEach [a] X.env = [(false, eval a X.env)] := by rfl) (hst : starEach (a :: []) X.env = (false, eval a X.env) :: starEach [] X.env := by rfl) :
  PDI X E tg (.Call (.Name "range" p) [a] [] pos) (itA qEa (zZ ga aNil)) := by
 try unfold PDI at *
 intro pins s σ H R I ⟨W, δ, rr, hS, hδ, hg', hA⟩
 refine qLl hg hm (zB ha zE hst).o hs pins s σ H R I (Go.thn hS hδ hg' hA λ ds H1 W1 s1 hδ1 hg1 hA1 vs rv => ?_)
 have hlim := qI1
 unfold qEa at hg1
 split at hg1
 ·rename_i n
  split at hg1
  ·obtain ⟨v, r, e, q, t⟩ := rv
   have q : v = .int n := q
   have t : r = [] := t
   subst e q t
   obtain rfl : Rs.ok (Src.fix (qB7 0 n.toNat)) W1.S = rr := Option.some.inj hg1
   exact ⟨n, rfl, by omega, by omega, hA1.now s1.ok _ (qEz 0 n.toNat)⟩
  ·cases hg1
 ·cases hg1
theorem qJw (hg : Gl X "range") (hm : X.mg "range" = none) (ha : PDE X E a ga) (hb : PDE X E b gb) (hs : starEach [a, b] X.env = [(false, eval a X.env), (false, eval b X.env)] := by rfl) (hs2 : starEach [b] X.env = [(false, eval b X.env)] := by rfl)
  (hst : starEach (a :: [b]) X.env = (false, eval a X.env) :: starEach [b] X.env := by rfl) (hst2 : starEach (b :: []) X.env = (false, eval b X.env) :: starEach [] X.env := by rfl) :
  PDI X E tg (.Call (.Name "range" p) [a, b] [] pos) (itA qHt (zZ ga (zZ gb aNil))) := by
 try unfold PDI at *
 intro pins s σ H R I ⟨W, δ, rr, hS, hδ, hg', hA⟩
 refine qLk hg hm (zB ha (zB hb zE hst2) hst).o hs hs2 pins s σ H R I (Go.thn hS hδ hg' hA λ ds H1 W1 s1 hδ1 hg1 hA1 vs rv => ?_)
 have hlim := qI1
 unfold qHt at hg1
 split at hg1
 ·rename_i i j
  split at hg1
  ·rename_i hb
   obtain ⟨v, r, e, q, t⟩ := rv
   obtain ⟨v2, r2, e2, q2, t2⟩ := t
   have q : v = .int i := q
   have q2 : v2 = .int j := q2
   have t2 : r2 = [] := t2
   subst e e2 q q2 t2
   obtain rfl : Rs.ok (Src.fix (qB7 i (j - i).toNat)) W1.S = rr := Option.some.inj hg1
   exact ⟨i, j, rfl, ⟨by omega, by omega, by omega, by omega⟩, hA1.now s1.ok _ (qEz i _)⟩
  ·cases hg1
 ·cases hg1
end
mutual
def Bd (n : Nat) : D -> Prop
 | .ref i => i < n
 | .tup ds => BdL n ds
 | .scr ds => BdL n ds
 | _ => True
def BdL (n : Nat) : List D -> Prop
 | [] => True
 | d :: ds => Bd n d /\ BdL n ds
end
mutual
def qU9 (ρ : Nat -> Nat) : D -> D
 | .ref i => .ref (ρ i)
 | .tup ds => .tup (qPv ρ ds)
 | .scr ds => .scr (qPv ρ ds)
 | .non => .non
 | .bl b => .bl b
 | .int i => .int i
 | .str x => .str x
 | .exc c => .exc c
def qPv (ρ : Nat -> Nat) : List D -> List D
 | [] => []
 | d :: ds => qU9 ρ d :: qPv ρ ds
end
def BdO (n : Nat) : O -> Prop
 | .lst ds => BdL n ds
 | .dct kvs => kvs = []
 | .ins _ fs => BdL n (fs.map (·.2))
def qYm (ρ : Nat -> Nat) : O -> O
 | .lst ds => .lst (qPv ρ ds)
 | .dct kvs => .dct kvs
 | .ins c fs => .ins c (fs.map λ p => (p.1, qU9 ρ p.2))
mutual
theorem Rep.bd : ∀ {d : D} {v : V}, Rep G H W d v -> Bd W.S.length d
 | .ref i, _, h => h.1
 | .tup ds, _, h => by obtain ⟨a, xs, _, _, r⟩ := h; exact qAl.bd r
 | .scr ds, _, h => by obtain ⟨a, xs, _, _, r⟩ := h; exact qAl.bd r
 | .non, _, _ => trivial
 | .bl _, _, _ => trivial
 | .int _, _, _ => trivial
 | .str _, _, _ => trivial
 | .exc _, _, _ => trivial
theorem qAl.bd : ∀ {ds : List D} {vs : List V}, qAl G H W ds vs -> BdL W.S.length ds
 | [], _, _ => trivial
 | d :: ds, _, h => by obtain ⟨v, r, _, q, t⟩ := h; exact ⟨Rep.bd q, qAl.bd t⟩
end
theorem qNd.bd (h : qNd G H W a o) : BdO W.S.length o := by
 cases o with
 | lst ds => obtain ⟨xs, _, r⟩ := h; exact r.bd
 | dct kvs => exact h.1
 | ins c fs => obtain ⟨_, _, _, _, _, _, r⟩ := h; exact r.bd
mutual
theorem Rep.back (ρ : Nat -> Nat) : ∀ {d : D} {v : V}, Bd S'.length d -> Rep G H W (qU9 ρ d) v -> Rep G H ⟨λ i => W.μ (ρ i), S'⟩ d v
 | .ref i, _, b, h => ⟨b, h.2⟩
 | .tup ds, _, b, h => by obtain ⟨a, xs, e, q, r⟩ := h; exact ⟨a, xs, e, q, qAl.back ρ b r⟩
 | .scr ds, _, b, h => by obtain ⟨a, xs, e, q, r⟩ := h; exact ⟨a, xs, e, q, qAl.back ρ b r⟩
 | .non, _, _, h => h
 | .bl _, _, _, h => h
 | .int _, _, _, h => h
 | .str _, _, _, h => h
 | .exc _, _, _, h => h
theorem qAl.back (ρ : Nat -> Nat) : ∀ {ds : List D} {vs : List V}, BdL S'.length ds -> qAl G H W (qPv ρ ds) vs -> qAl G H ⟨λ i => W.μ (ρ i), S'⟩ ds vs
 | [], _, _, h => h
 | d :: ds, _, b, h => by obtain ⟨v, r, e, q, t⟩ := h; exact ⟨v, r, e, Rep.back ρ b.1 q, qAl.back ρ b.2 t⟩
end
theorem qI0 (ρ : Nat -> Nat) : ∀ ds : List D, qPv ρ ds = ds.map (qU9 ρ)
 | [] => by simp [qPv]
 | d :: ds => by simp [qPv, qI0 ρ ds]
theorem qNd.back (ρ : Nat -> Nat) (b : BdO S'.length o) (h : qNd G H W a (qYm ρ o)) : qNd G H ⟨λ i => W.μ (ρ i), S'⟩ a o := by
 cases o with
 | lst ds => obtain ⟨xs, e, r⟩ := h; exact ⟨xs, e, r.back ρ b⟩
 | dct kvs => exact h
 | ins c fs =>
  obtain ⟨C, dx, ps, m, e, n, r⟩ := h
  refine ⟨C, dx, ps, m, e, by rw [n, jCh]; rfl, qAl.back ρ b ?_⟩
  rw [qI0]
  rw [jCh] at r ⊢
  exact r
structure Emb (n : Nat) (ρ : Nat -> Nat) (S' S1 : Sto) : Prop where
 len : n <= S'.length
 fix : ∀ i, i < n -> ρ i = i
 inj : ∀ i j, i < S'.length -> j < S'.length -> ρ i = ρ j -> i = j
 get : ∀ i o, S'[i]? = some o -> S1[ρ i]? = some (qYm ρ o) /\ BdO S'.length o
def Em (n : Nat) : Rs D -> Rs D -> Prop
 | .ok d S', .ok d1 S1 => ∃ ρ, Emb n ρ S' S1 /\ Bd S'.length d /\ d1 = qU9 ρ d
 | .er c S', .er c1 S1 => c1 = c /\ ∃ ρ, Emb n ρ S' S1
 | _, _ => False
theorem Emb.nxt (e : Emb W.S.length ρ S' W1.S) (s : Nxt G H W H1 W1) : Nxt G H W H1 ⟨λ i => W1.μ (ρ i), S'⟩ := by
 have hlt : ∀ i, i < S'.length -> ρ i < W1.S.length := λ i hi => by
  have := (e.get i S'[i] (by simp [hi])).1
  exact (jAs.mp this).1
 refine ⟨⟨λ i j hi hj h => e.inj i j hi hj (s.ok.inj _ _ (hlt i hi) (hlt j hj) h), λ i o h => ?_⟩, e.len, λ i hi => ?_, λ i h1 h2 => ?_, s.frm⟩
 ·obtain ⟨g1, g2⟩ := e.get i o h
  exact (s.ok.get _ _ g1).back ρ g2
 ·show W1.μ (ρ i) = _
  rw [e.fix i hi]
  exact s.old i hi
 ·show H (W1.μ (ρ i)) = none
  refine s.new _ ?_ (hlt i h2)
  by_cases hz : ρ i < W.S.length
  ·have h3 := e.fix _ hz
   have := e.inj (ρ i) i (jAd hz e.len) h2 h3
   omega
  ·exact jCd hz
def Wf (S : Sto) (ds : List D) : Prop := (∀ (i : Nat) (o : O), S[i]? = some o -> BdO S.length o) /\ BdL S.length ds
structure qJj (K : PySem.W.Frag) (x qual : Str) (st : Stmt) (f : Addr) (fd : FuncData) : Prop where
 ex : ∃ (dV oc : Value) (od : Option Addr) (kV doc pm : Value) (an : Option Addr) (cdv ct : Value) (osl : Array (Option Value)),
  fd = jB2 x qual (zI st) (zG st) (zC st) dV kV doc pm an cdv ct /\ K.lookup f = some ⟨oc, od, .func fd, osl⟩ /\ jB3 K cdv qual = true
theorem qJj.ok {P : Program} {w : World} {K : PySem.W.Frag} {mg : Str -> Option Value} {base : Heap} {x qual : Str} {st : Stmt} {f : Addr} {fd : FuncData} {N ps : List Str} {k : Nat} {sp : Sp} (F : qJj K x qual st f fd) (S : zM N ps (zC st)) (len : ∀ vs H Q E, sp vs H Q E -> vs.length = ps.length)
  (hbody : ∀ (cdv : Value) (A : Around) (outer : List Env) (s : Shared) (H : Hp) (vs : List V) (Q : VK) (E : XK), qBd k (A.deeper (envOfC qual (zC st) s.heap.objs.size f cdv)) -> sp vs H Q E ->
   ∃ t, PSs (qFe CX0 P w K mg base N qual (zC st) f cdv A outer s H E).nox (zG st) t /\ t { nx := λ _ H' => Q .non H', rt := Q } (start N vs) H) : qCf P w K mg base CX0 (k + 1) f fd ps sp := by
 obtain ⟨dV, oc, od, kV, doc, pm, an, cdv, ct, osl, rfl, lk, hcd⟩ := F.ex
 refine qR5 lk hcd S len λ A outer s H vs Q E hr hsp => ?_
 obtain ⟨t, h, q⟩ := hbody cdv A outer s H vs Q E hr hsp
 exact ⟨t, h.nox, q⟩
theorem _root_.L2.Fun.g {K : PySem.W.Frag} {x qual : Str} {st : Stmt} {f : Addr} {fd : FuncData} (F : Fun K x qual st f fd) : qJj K x qual st f fd :=
 ⟨let ⟨oc, od, kV, doc, pm, an, cdv, ct, osl, h1, h2, h3⟩ := F.ex; ⟨.none, oc, od, kV, doc, pm, an, cdv, ct, osl, h1, h2, h3⟩⟩
structure qSi (K : PySem.W.Frag) (x qual : Str) (st : Stmt) (f : Addr) (fd : FuncData) (T : Addr) (items : Array Value) : Prop where
 ex : ∃ (oc : Value) (od : Option Addr) (kV doc pm : Value) (an : Option Addr) (cdv ct : Value) (osl : Array (Option Value)),
  fd = jB2 x qual (zI st) (zG st) (zC st) (.ref T) kV doc pm an cdv ct /\ K.lookup f = some ⟨oc, od, .func fd, osl⟩ /\ jB3 K cdv qual = true
 tup : ∃ o n, K.lookup T = some o /\ o.data = .seq items n
theorem qSi.g {K : PySem.W.Frag} {x qual : Str} {st : Stmt} {f : Addr} {fd : FuncData} {T : Addr} {items : Array Value} (F : qSi K x qual st f fd T items) : qJj K x qual st f fd :=
 ⟨let ⟨oc, od, kV, doc, pm, an, cdv, ct, osl, h1, h2, h3⟩ := F.ex; ⟨.ref T, oc, od, kV, doc, pm, an, cdv, ct, osl, h1, h2, h3⟩⟩
theorem qMm {K : PySem.W.Frag} {x qual : Str} {st : Stmt} {f T : Addr} {oc : Value} {od an : Option Addr} {osl : Array (Option Value)} {kV doc pm cdv ct : Value} {items : Array Value} {o : Obj} {n : Nat} (l : K.lookup f = some ⟨oc, od, .func (jB2 x qual (zI st) (zG st) (zC st) (.ref T) kV doc pm an cdv ct), osl⟩)
  (c : jB3 K cdv qual = true) (lT : K.lookup T = some o) (hT : o.data = .seq items n) : qSi K x qual st f (jB2 x qual (zI st) (zG st) (zC st) (.ref T) kV doc pm an cdv ct) T items := ⟨⟨oc, od, kV, doc, pm, an, cdv, ct, osl, rfl, l, c⟩, ⟨o, n, lT, hT⟩⟩
theorem qSi.bindsTo {K : PySem.W.Frag} {x qual : Str} {st : Stmt} {f : Addr} {fd : FuncData} {T : Addr} {items : Array Value} (F : qSi K x qual st f fd T items) {s : Shared} {args : Args} {binds : List (Str × Value)} (KX : K.In s.heap)
  (h : ∀ (kV doc pm : Value) (an : Option Addr) (cdv ct : Value), ∃ k : Option (Array Value) -> Sem (List (Str × Value)), bindArgs (jB2 x qual (zI st) (zG st) (zC st) (.ref T) kV doc pm an cdv ct) args = seqItems? (.ref T) >>= k /\ k (some items) = pure binds) : BindsTo s fd args binds := by
 obtain ⟨oc, od, kV, doc, pm, an, cdv, ct, osl, rfl, lk, hcd⟩ := F.ex
 obtain ⟨o, n, lT, hT⟩ := F.tup
 obtain ⟨k, h1, h2⟩ := h kV doc pm an cdv ct
 exact BindsTo.of_defaults rfl (KX _ _ lT) hT h1 h2
theorem qVn {P : Program} {w : World} {K : PySem.W.Frag} {mg : Str -> Option Value} {base : Heap} {x qual : Str} {st : Stmt} {fa : Addr} {fd : FuncData} {N ps : List Str} {k : Nat} {f : List D -> Sto -> R D} {g : DSt} (F : qJj K x qual st fa fd) (S : zM N ps (zC st))
  (hlen : ∀ ds S rr, f ds S = some rr -> ds.length = ps.length)
  (hg : ∀ ds S r, Wf S ds -> f ds S = some r -> ∃ r1, qRm (g (startD N.length ds) S) = some r1 /\ (r1 = r \/ Em S.length r r1)) (hno : ∀ ds S c S', f ds S ≠ er c S')
  (hbody : ∀ (cdv : Value) (A : Around) (outer : List Env) (s : Shared) (H : Hp), qBd k (A.deeper (envOfC qual (zC st) s.heap.objs.size fa cdv)) ->
   qDl (qFe CX0 P w K mg base N qual (zC st) fa cdv A outer s H E0).nox E0 (zG st) g) : qCf P w K mg base CX0 (k + 1) fa fd ps (spF ⟨K, mg⟩ f) := by
 try unfold qDl at *
 refine F.ok S (λ vs H Q E h => ?_) (λ cdv A outer s H vs Q E hr h => ?_)
 ·obtain ⟨W, ds, rr, _, rl, e, _⟩ := h
  rw [<- rl.length]
  exact hlen ds _ rr e
 ·obtain ⟨W, ds, rr, hS, rl, e, hA⟩ := h
  refine ⟨_, hbody cdv A outer s H hr, ?_⟩
  cases rr with
  | er c S' => exact absurd e (hno ds _ c S')
  | ok d S' =>
   obtain ⟨r1, q, hem⟩ := hg ds W.S _ ⟨λ i o h => (hS.get i o h).bd, rl.bd⟩ e
   have fin : ∀ d1 S1, r1 = .ok d1 S1 -> ∀ H1 W1, W1.S = S1 -> Nxt ⟨K, mg⟩ H W H1 W1 -> ∀ v, Rep ⟨K, mg⟩ H1 W1 d1 v -> Q v H1 := by
    intro d1 S1 e1 H1 W1 eS s1 v rv
    subst e1
    rcases hem with hem | hem
    ·cases hem
     exact hA H1 W1 eS s1 v rv
    ·obtain ⟨ρ, em, bd, rfl⟩ := hem
     subst eS
     exact hA H1 ⟨λ i => W1.μ (ρ i), S'⟩ rfl (em.nxt s1) v (rv.back ρ bd)
   cases z : g (startD N.length ds) W.S with
   | none => rw [z] at q; cases q
   | some r =>
    refine ⟨W, startD N.length ds, r, hS, qCr.start N rl, z, ?_⟩
    rw [z] at q
    cases r with
    | er c S1 =>
     cases q
     rcases hem with hem | hem
     ·cases hem
     ·exact hem.elim
    | ok fl S1 =>
     cases fl with
     | nx δ =>
      obtain rfl : Rs.ok D.non S1 = r1 := Option.some.inj q
      exact λ H1 W1 eS s1 σ1 hδ1 => fin _ _ rfl H1 W1 eS s1 .non rfl
     | rt d' =>
      obtain rfl : Rs.ok d' S1 = r1 := Option.some.inj q
      exact λ H1 W1 eS s1 v rv => fin _ _ rfl H1 W1 eS s1 v rv
     | bk δ => cases q
     | ct δ => cases q
theorem qBk (h : qGa m = some r) : ∃ a S, m = ok a S /\ r = .ok a S := by
 cases m with
 | none => cases h
 | some m =>
  cases m with
  | ok a S => cases h; exact ⟨a, S, rfl, rfl⟩
  | er c S => cases h
theorem qZm {P : Program} {w : World} {K : PySem.W.Frag} {mg : Str -> Option Value} {base : Heap} {x qual : Str} {st : Stmt} {fa : Addr} {fd : FuncData} {N ps : List Str} {k : Nat} {g : DSt} (F : qJj K x qual st fa fd) (S : zM N ps (zC st))
  (hbody : ∀ (cdv : Value) (A : Around) (outer : List Env) (s : Shared) (H : Hp), qBd k (A.deeper (envOfC qual (zC st) s.heap.objs.size fa cdv)) ->
   qDl (qFe CX0 P w K mg base N qual (zC st) fa cdv A outer s H E0).nox E0 (zG st) g) : qCf P w K mg base CX0 (k + 1) fa fd ps (spF ⟨K, mg⟩ (fnF N.length ps.length g)) := by
 refine qVn (g := g) F S (λ ds S rr e => ?_) (λ ds S r _ e => ?_) (λ ds S c S' e => ?_) hbody
 ·unfold fnF at e
  split at e
  ·assumption
  ·cases e
 ·unfold fnF at e
  split at e
  ·obtain ⟨a, S1, e1, e2⟩ := qBk e
   exact ⟨_, e1, .inl e2.symm⟩
  ·cases e
 ·unfold fnF at e
  split at e
  ·obtain ⟨a, S1, e1, e2⟩ := qBk e
   cases e2
  ·cases e
theorem qZl {P : Program} {w : World} {K : PySem.W.Frag} {mg : Str -> Option Value} {base : Heap} {x qual : Str} {st : Stmt} {fa : Addr} {fd : FuncData} {N ps : List Str} {k : Nat} (n m : Nat) (g : DSt) {f : List D -> Sto -> R D} (hf : f = fnF n m g) (F : qJj K x qual st fa fd) (S : zM N ps (zC st)) (hn : N.length = n) (hm : ps.length = m)
  (hbody : ∀ (cdv : Value) (A : Around) (outer : List Env) (s : Shared) (H : Hp), qBd k (A.deeper (envOfC qual (zC st) s.heap.objs.size fa cdv)) ->
   qDl (qFe CX0 P w K mg base N qual (zC st) fa cdv A outer s H E0).nox E0 (zG st) g) : qCf P w K mg base CX0 (k + 1) fa fd ps (spF ⟨K, mg⟩ f) := by
 subst hf hn hm
 exact qZm F S hbody
end Np
end
section
namespace Np
open PySem PySem.Spec PyProof.Rows L2
section
variable {X : Cx} {E : XK} {G : Gx}
theorem qHz {C : Int -> Int -> Prop} {g : Int -> Int -> Int} {f : D -> D -> Sto -> R D} (hf : ∀ dx dy S rr, f dx dy S = some rr -> ∃ i j, dx = .int i /\ dy = .int j /\ C i j /\ rr = .ok (.int (g i j)) S) : OpD G (rI C λ i j => .int (g i j)) f := by
 intro E H W x y dx dy Q rr hS rx ry e hA
 obtain ⟨i, j, rfl, rfl, c, rfl⟩ := hf dx dy _ rr e
 exact ⟨i, j, rx, ry, c, hA.now hS _ rfl⟩
theorem qFo {g : Int -> Int -> Bool} {f : D -> D -> Sto -> R D} (hf : ∀ dx dy S rr, f dx dy S = some rr -> ∃ i j, dx = .int i /\ dy = .int j /\ rr = .ok (.bl (g i j)) S) : OpD G (rI0 λ i j => .bl (g i j)) f := by
 intro E H W x y dx dy Q rr hS rx ry e hA
 obtain ⟨i, j, rfl, rfl, rfl⟩ := hf dx dy _ rr e
 exact ⟨i, j, rx, ry, hA.now hS _ rfl⟩
def qTk : R2 := λ x y H Q => rI0 (λ i j => .int (i + j)) x y H Q \/ (∃ i j, x = .str i /\ y = .str j /\ i.length + j.length <= sizeLine /\ Q (.str (i ++ j)) H) \/ qYk x y H Q
theorem qRq : OpR X (binaryOp .Add) qTk := OpR.or qUz (OpR.or qJ0 qUy)
theorem qU8 : OpD G qTk qCb := by
 intro E H W x y dx dy Q rr hS rx ry e hA
 unfold qCb at e
 split at e
 ·rename_i i j
  obtain rfl : Rs.ok (D.int (i + j)) W.S = rr := Option.some.inj e
  exact .inl ⟨i, j, rx, ry, hA.now hS _ rfl⟩
 ·rename_i i j
  split at e
  ·rename_i hl
   obtain rfl : Rs.ok (D.str (i ++ j)) W.S = rr := Option.some.inj e
   exact .inr (.inl ⟨i, j, rx, ry, sz hl, hA.now hS _ rfl⟩)
  ·cases e
 ·rename_i a b
  unfold qX7 at e
  split at e
  ·rename_i xs ys hx hy
   split at e
   ·rename_i hl
    obtain ⟨us, ea, qa, ra⟩ := hS.lst rx hx
    obtain ⟨ws, eb, qb, rb⟩ := hS.lst ry hy
    exact .inr (.inr ⟨_, _, us, ws, ea, eb, .inl qa, .inl qb, by rw [<- ra.length, <- rb.length]; exact sz hl, λ p hp => qBq hS e hA (ra.append rb) hp⟩)
   ·cases e
  ·cases e
 ·cases e
theorem qU0 : OpD G (rI0 λ i j => .int (i - j)) qGj := by
 intro E H W x y dx dy Q rr hS rx ry e hA
 unfold qGj at e
 split at e
 ·rename_i i j
  obtain rfl : Rs.ok (D.int (i - j)) W.S = rr := Option.some.inj e
  exact ⟨i, j, rx, ry, hA.now hS _ rfl⟩
 ·cases e
def qPd (i j : Int) : Prop := i.natAbs.log2 + j.natAbs.log2 <= 100000000
theorem qPd.ok (h : qPd i j) : IntMulOk i j := by
 have hb : ∀ k : Int, Builtin.Int.intBits k <= k.natAbs.log2 + 1 := λ k => by
  unfold Builtin.Int.intBits
  split <;> omega
 refine PyProof.Rows.mulOk_of_bits (m := i.natAbs.log2 + 1) (n := j.natAbs.log2 + 1) (hb i) (hb j) ?_
 have h' : i.natAbs.log2 + j.natAbs.log2 <= 100000000 := h
 omega
theorem qRo : OpR X (binaryOp .Mult) (rI qPd λ i j => .int (i * j)) := opI λ _ _ _ _ _ _ _ hc q => mul_int q hc.ok
def qTg : R2 := λ x y H Q => rI qPd (λ i j => .int (i * j)) x y H Q \/ qYe x y H Q
theorem qRn : OpR X (binaryOp .Mult) qTg := OpR.or qRo qUt
theorem qAl.rep (h : qAl G H W ds vs) : ∀ k : Nat, qAl G H W (jBq k ds).flatten (jBq k vs).flatten
 | 0 => rfl
 | k + 1 => by
  rw [jB7, jB7, jB8, jB8]
  exact h.append (qAl.rep h k)
theorem qU2 : OpD G qTg qGx := by
 intro E H W x y dx dy Q rr hS rx ry e hA
 unfold qGx at e
 split at e
 ·rename_i i j
  split at e
  ·rename_i hl
   obtain rfl : Rs.ok (D.int (i * j)) W.S = rr := Option.some.inj e
   exact .inl ⟨i, j, rx, ry, hl, hA.now hS _ rfl⟩
  ·cases e
 ·rename_i a k
  unfold qYd at e
  split at e
  ·rename_i xs hx
   split at e
   ·rename_i hl
    obtain ⟨hl, h1, h2⟩ := hl
    obtain ⟨us, ea, qa, ra⟩ := hS.lst rx hx
    exact .inr ⟨_, k, us, ea, ry, .inl qa, by omega, by omega, by rw [<- ra.length]; exact sz hl, λ p hp => qBq hS e hA (ra.rep k.toNat) hp⟩
   ·cases e
  ·cases e
 ·cases e
theorem qD9 (I : Inv X pins σ H s) (hr : qBd k X.A) (ht : X.prog.given.tree = none) (hst : X.stack = X.env :: X.outer) (hgen : X.env.scope.isGenerator = false) (hco : X.env.scope.isCoroutine = false) :
  PySem.PylongRoom (model X.prog X.w) X.A s := by
 refine PySem.PylongRoom.of (I.mod.nolimit.keeps I.bk) ?_ (PySem.SeerAt.of (I.mod.seer.keeps I.bk) ht (by rw [I.ok.frames, hst]) hgen hco I.ok.blt I.ok.glob)
 have := hr.dp
 show X.A.depth + 100 < recursionLimit
 omega
theorem qOh (hr : qBd k X.A) (ht : X.prog.given.tree = none) (hst : X.stack = X.env :: X.outer) (hgen : X.env.scope.isGenerator = false) (hco : X.env.scope.isCoroutine = false) : OpR X (binaryOp .FloorDiv) (rI (λ _ j => j ≠ 0) λ i j => .int (i.fdiv j)) := by
 intro pins s σ H x y v u Q I rx ry h
 obtain ⟨i, j, rfl, rfl, hc, q⟩ := h
 obtain ⟨t, rfl⟩ := rx
 obtain ⟨t', rfl⟩ := ry
 exact floordiv_int hc ⟨.int _, H, I.tok _, ⟨_, rfl⟩, q⟩ (.inr (qD9 I hr ht hst hgen hco))
theorem qRs : OpD G (rI (λ _ j => j ≠ 0) λ i j => .int (i.fdiv j)) qBz := qHz λ dx dy S rr e => by
 unfold qBz at e
 split at e
 ·rename_i i j
  split at e
  ·cases e
  ·rename_i h
   exact ⟨i, j, rfl, rfl, h, (Option.some.inj e).symm⟩
 ·cases e
theorem qU3 : OpD G (rI (λ _ j => j ≠ 0) λ i j => .int (i.fmod j)) qCd := qHz λ dx dy S rr e => by
 unfold qCd at e
 split at e
 ·rename_i i j
  split at e
  ·cases e
  ·rename_i h
   exact ⟨i, j, rfl, rfl, h, (Option.some.inj e).symm⟩
 ·cases e
theorem qU1 : OpD G (rI qYu λ i j => .int (i ^ j.toNat)) qGs := qHz λ dx dy S rr e => by
 unfold qGs at e
 split at e
 ·rename_i i j
  split at e
  ·rename_i h
   exact ⟨i, j, rfl, rfl, ⟨h.1.1, by omega, by omega⟩, (Option.some.inj e).symm⟩
  ·cases e
 ·cases e
theorem qSx : UnD G (rU λ i => .int (-i)) qDd := by
 intro E H W x dx Q rr hS rx e hA
 unfold qDd at e
 split at e
 ·rename_i i
  obtain rfl : Rs.ok (D.int (-i)) W.S = rr := Option.some.inj e
  exact ⟨i, rx, hA.now hS _ rfl⟩
 ·cases e
theorem qVz : qEw G (λ xs H Q => ∃ i, xs = [.int i] /\ Q (.int (if i < 0 then -i else i)) H) qSt := by
 intro E H W vs ds Q rr hS rl e hA
 unfold qSt at e
 split at e
 ·rename_i i
  obtain rfl : Rs.ok (D.int (if i < 0 then -i else i)) W.S = rr := Option.some.inj e
  obtain ⟨v, r, rfl, q, t⟩ := rl
  have q : v = .int i := q
  have t : r = [] := t
  subst q t
  exact ⟨i, rfl, hA.now hS _ rfl⟩
 ·cases e
mutual
def qCz : T -> PyData
 | .non => .none
 | .bl b => .bool b
 | .int i => .int i
 | .str x => .str x
 | .tup ds => .tuple (qBw ds)
 | .lst ds => .list (qBw ds)
def qBw : List T -> List PyData
 | [] => []
 | d :: ds => qCz d :: qBw ds
end
mutual
theorem qI8 : ∀ (d e : T), PyData.eqv (qCz d) (qCz e) = eqT d e
 | .non, e => by cases e <;> simp [qCz, PyData.eqv, eqT]
 | .bl _, e => by cases e <;> simp [qCz, PyData.eqv, eqT]
 | .int _, e => by cases e <;> simp [qCz, PyData.eqv, eqT]
 | .str _, e => by cases e <;> simp [qCz, PyData.eqv, eqT]
 | .tup ds, e => by
  cases e with
  | tup es => simp only [qCz, PyData.eqv, eqT]; exact qIc ds es
  | _ => simp [qCz, PyData.eqv, eqT]
 | .lst ds, e => by
  cases e with
  | lst es => simp only [qCz, PyData.eqv, eqT]; exact qIc ds es
  | _ => simp [qCz, PyData.eqv, eqT]
theorem qIc : ∀ (ds es : List T), PyData.eqvAll (qBw ds) (qBw es) = qEx ds es
 | [], [] => by simp [qBw, PyData.eqvAll, qEx]
 | [], _ :: _ => by simp [qBw, PyData.eqvAll, qEx]
 | _ :: _, [] => by simp [qBw, PyData.eqvAll, qEx]
 | d :: ds, e :: es => by simp only [qBw, PyData.eqvAll, qEx, qI8 d e, qIc ds es]
end
def qWc (s : Shared) (n : Nat) (t : T) (u : Value) : Prop := (qCz t).canLay0 = true /\ (qCz t).depth <= n /\ ∃ as, Reads s.heap u (qCz t) as
def qYa (s : Shared) (n : Nat) (ts : List T) (us : List Value) : Prop := PyData.canLayAll0 (qBw ts) = true /\ PyData.depthAll (qBw ts) <= n /\ ∃ as, ReadsAll s.heap us (qBw ts) as
theorem qQh (I : Inv X pins σ H s) (ih : ∀ {d : D} {v : V} {u : Value} {t : T}, rd n S d = some t -> Rep (gx X) H W d v -> qA6 v u -> qWc s n t u) :
  ∀ {ds : List D} {vs : List V} {us : List Value} {ts : List T}, rdl (rd n S) ds = some ts -> qAl (gx X) H W ds vs -> qAn vs us -> qYa s n ts us
 | [], _, _, _, h, r, q => by
  cases r; cases q
  obtain rfl := Option.some.inj h
  exact ⟨by simp [qBw, PyData.canLayAll0], by simp [qBw, PyData.depthAll], _, ReadsAll.nil⟩
 | d :: ds, _, _, _, h, r, q => by
  obtain ⟨v, vs, rfl, rd1, rl⟩ := r
  cases q with
  | cons q1 q2 =>
   unfold rdl at h
   split at h
   ·rename_i t ts h1 h2
    obtain rfl := Option.some.inj h
    obtain ⟨a1, a2, as, a3⟩ := ih h1 rd1 q1
    obtain ⟨b1, b2, bs, b3⟩ := qQh I ih h2 rl q2
    refine ⟨?_, ?_, _, ReadsAll.cons a3 b3⟩
    ·simp only [qBw, PyData.canLayAll0, a1, b1, Bool.and_self]
    ·simp only [qBw, PyData.depthAll]
     omega
   ·cases h
theorem qPh (I : Inv X pins σ H s) (hS : qB0 (gx X) H W) : ∀ {n : Nat} {d : D} {v : V} {u : Value} {t : T}, rd n W.S d = some t -> Rep (gx X) H W d v -> qA6 v u -> qWc s n t u
 | n, .non, _, _, t0, h, r, q => by
  cases r; cases q
  have h : some T.non = some t0 := by cases n <;> exact h
  obtain rfl := Option.some.inj h
  exact ⟨by simp [qCz, PyData.canLay0], by simp [qCz, PyData.depth], _, Reads.none⟩
 | n, .bl b, _, _, t0, h, r, q => by
  cases r; cases q
  have h : some (T.bl b) = some t0 := by cases n <;> exact h
  obtain rfl := Option.some.inj h
  exact ⟨by simp [qCz, PyData.canLay0], by simp [qCz, PyData.depth], _, Reads.bool b⟩
 | n, .int i, _, _, t0, h, r, q => by
  cases r
  obtain ⟨t, rfl⟩ := q
  have h : some (T.int i) = some t0 := by cases n <;> exact h
  obtain rfl := Option.some.inj h
  exact ⟨by simp [qCz, PyData.canLay0], by simp [qCz, PyData.depth], _, Reads.int i t⟩
 | n, .str i, _, _, t0, h, r, q => by
  cases r
  obtain ⟨t, rfl⟩ := q
  have h : (if i.cps.all (· < 0x110000) = true then some (T.str i) else none) = some t0 := by cases n <;> exact h
  split at h
  ·rename_i hc
   obtain rfl := Option.some.inj h
   have h' : PyData.strOk i = true := by simpa [PyData.strOk] using hc
   exact ⟨by simp [qCz, PyData.canLay0, h'], by simp [qCz, PyData.depth], _, Reads.str i t⟩
  ·cases h
 | 0, .tup _, _, _, _, h, _, _ => by cases h
 | 0, .ref _, _, _, _, h, _, _ => by cases h
 | n + 1, .tup ds, _, _, t0, h, r, q => by
  obtain ⟨a, xs, rfl, hq, rl⟩ := r
  cases q
  obtain ⟨its, rv, ⟨o, ho, hc, k, hd⟩, hz⟩ := I.tuple hq
  have h : (rdl (rd n W.S) ds).map T.tup = some t0 := h
  cases hts : rdl (rd n W.S) ds with
  | none => rw [hts] at h; cases h
  | some ts =>
   rw [hts] at h
   obtain rfl := Option.some.inj h
   obtain ⟨b1, b2, as, b3⟩ := qQh I (λ h r q => qPh I hS h r q) hts rl rv
   refine ⟨?_, ?_, _, reads_tuple_at ho hc hd (by simpa using b3)⟩
   ·simp only [qCz, PyData.canLay0, b1]
   ·simp only [qCz, PyData.depth]
    omega
 | n + 1, .ref i, _, _, t0, h, r, q => by
  have h : (match zH W.S i with | some ds => (rdl (rd n W.S) ds).map T.lst | none => none) = some t0 := h
  cases hl : zH W.S i with
  | none => rw [hl] at h; cases h
  | some ds =>
   rw [hl] at h
   have h : (rdl (rd n W.S) ds).map T.lst = some t0 := h
   obtain ⟨xs, ex, hq, rl⟩ := hS.lst r hl
   subst ex
   cases q
   obtain ⟨z, its, k, rv, hl', e⟩ := I.lstM hq
   cases hts : rdl (rd n W.S) ds with
   | none => rw [hts] at h; cases h
   | some ts =>
    rw [hts] at h
    obtain rfl := Option.some.inj h
    obtain ⟨b1, b2, as, b3⟩ := qQh I (λ h r q => qPh I hS h r q) hts rl rv
    refine ⟨?_, ?_, _, reads_list_at e rfl rfl (by simpa using b3)⟩
    ·simp only [qCz, PyData.canLay0, b1]
    ·simp only [qCz, PyData.depth]
     omega
 | n, .exc _, _, _, _, h, _, _ => by cases n <;> cases h
 | n, .scr _, _, _, _, h, _, _ => by cases n <;> cases h
theorem qWc.shaped (h : qWc s 9 t u) : SeqAt.shaped (qCz t) = true := by
 unfold SeqAt.shaped
 rw [h.1, Bool.true_and]
 exact decide_eq_true (by have := h.2.1; omega)
def qTj (G : Gx) (neg : Bool) : R2 := λ x y H Q => ∃ W d e t u, qB0 G H W /\ Rep G H W d x /\ Rep G H W e y /\ rd 9 W.S d = some t /\ rd 9 W.S e = some u /\ Q (.bl (if neg = true then !eqT t u else eqT t u)) H
theorem qPs (hr : qBd k X.A) : OpR X (compareOp .Eq) (qTj (gx X) false) := by
 intro pins s σ H x y v u Q I rx ry h
 obtain ⟨W, d, e, t, t', hS, rd1, re, pd, pe, q⟩ := h
 have sa := qPh I hS pd rd1 rx
 have sb := qPh I hS pe re ry
 obtain ⟨as, ra⟩ := sa.2.2
 obtain ⟨bs, rb⟩ := sb.2.2
 refine eq_dataH ra rb sa.shaped sb.shaped hr.units ?_
 rw [qI8]
 exact ⟨.bl _, H, I, rfl, q⟩
theorem qUv (hr : qBd k X.A) : OpR X (compareOp .NotEq) (qTj (gx X) true) := by
 intro pins s σ H x y v u Q I rx ry h
 obtain ⟨W, d, e, t, t', hS, rd1, re, pd, pe, q⟩ := h
 have sa := qPh I hS pd rd1 rx
 have sb := qPh I hS pe re ry
 obtain ⟨as, ra⟩ := sa.2.2
 obtain ⟨bs, rb⟩ := sb.2.2
 refine ne_dataH ra rb sa.shaped sb.shaped hr.units ?_
 rw [qI8]
 exact ⟨.bl _, H, I, rfl, q⟩
theorem qPu (neg : Bool) : OpD G (qTj G neg) (λ x y S => eqK neg S (rd 9 S x) (rd 9 S y)) := by
 intro E H W x y dx dy Q rr hS rx ry e hA
 have e : eqK neg W.S (rd 9 W.S dx) (rd 9 W.S dy) = some rr := e
 cases h1 : rd 9 W.S dx with
 | none => rw [h1] at e; cases e
 | some t =>
  cases h2 : rd 9 W.S dy with
  | none => rw [h1, h2] at e; cases e
  | some u =>
   rw [h1, h2] at e
   obtain rfl : Rs.ok (D.bl (if neg = true then !eqT t u else eqT t u)) W.S = rr := Option.some.inj e
   exact ⟨W, dx, dy, t, u, hS, rx, ry, h1, h2, hA.now hS _ rfl⟩
theorem qU7 : OpD G (qTj G false) eqD := qPu false
theorem qXu : OpD G (qTj G true) neD := qPu true
theorem qU4 : OpD G (rI0 λ i j => .bl (decide (i < j))) ltD := qFo λ dx dy S rr e => by
 unfold ltD at e
 split at e
 ·exact ⟨_, _, rfl, rfl, (Option.some.inj e).symm⟩
 ·cases e
theorem qOj : OpD G (rI0 λ i j => .bl (decide (i <= j))) leD := qFo λ dx dy S rr e => by
 unfold leD at e
 split at e
 ·exact ⟨_, _, rfl, rfl, (Option.some.inj e).symm⟩
 ·cases e
theorem qXv : OpD G (rI0 λ i j => .bl (decide (j < i))) gtD := qFo λ dx dy S rr e => by
 unfold gtD at e
 split at e
 ·exact ⟨_, _, rfl, rfl, (Option.some.inj e).symm⟩
 ·cases e
theorem qXw : OpD G (rI0 λ i j => .bl (decide (j <= i))) geD := qFo λ dx dy S rr e => by
 unfold geD at e
 split at e
 ·exact ⟨_, _, rfl, rfl, (Option.some.inj e).symm⟩
 ·cases e
theorem qQi (r : Rep G H W d v) : decide (v = .non) = qBs d := by
 cases d with
 | non => cases r; rfl
 | bl _ => cases r; rfl
 | int _ => cases r; rfl
 | str _ => cases r; rfl
 | tup _ => obtain ⟨a, _, rfl, _⟩ := r; rfl
 | ref _ => obtain ⟨_, rfl⟩ := r; rfl
 | exc _ => obtain ⟨a, _, rfl, _⟩ := r; rfl
 | scr _ => obtain ⟨a, _, rfl, _⟩ := r; rfl
theorem qU5 : OpD G (λ x y H Q => y = .non /\ Q (.bl (decide (x = .non))) H) qOx := by
 intro E H W x y dx dy Q rr hS rx ry e hA
 unfold qOx at e
 split at e
 ·obtain rfl := Option.some.inj e
  exact ⟨ry, by rw [qQi rx]; exact hA.now hS _ rfl⟩
 ·cases e
def qYh (K : PySem.W.Frag) : R2 := λ x y H Q => qYg K x y H Q \/ qYf K x y H Q
theorem qZe : IxR X (qYh X.K) := qRy.or qVj
theorem qVk : (ixA xs.length i).bind (λ j => xs[j]?) = atI xs i := by
 unfold atI ixA ixN
 rfl
theorem qM3 (rl : qAl G H W ds vs) (h : (ixA ds.length i).bind (λ j => ds[j]?) = some d) : ∃ v, atI vs i = some v /\ Rep G H W d v := by
 rw [<- qVk]
 rw [rl.length] at h
 cases z : ixA vs.length i with
 | none => rw [z] at h; cases h
 | some j =>
  rw [z] at h
  obtain ⟨v, hv, rv⟩ := rl.get (i := j) (d := d) h
  exact ⟨v, hv, rv⟩
theorem qFs (h : ixK o i S = some rr) : ∃ xs d, o = some xs /\ (ixA xs.length i).bind (λ j => xs[j]?) = some d /\ rr = .ok d S := by
 unfold ixK at h
 split at h
 ·rename_i xs
  split at h
  ·rename_i d hd
   exact ⟨xs, d, rfl, hd, (Option.some.inj h).symm⟩
  ·cases h
 ·cases h
theorem zR : OpD G (qYh G.K) ixD := by
 intro E H W x y dx dy Q rr hS rx ry e hA
 unfold ixD at e
 split at e
 ·rename_i xs i
  obtain ⟨xs', d, e0, hd, rfl⟩ := qFs e
  cases e0
  obtain ⟨a, us, ea, qa, ra⟩ := rx
  obtain ⟨v, hv, rv⟩ := qM3 ra hd
  exact .inr ⟨a, us, i, v, ea, ry, qa, hv, hA.now hS _ rv⟩
 ·rename_i a i
  obtain ⟨xs', d, e0, hd, rfl⟩ := qFs e
  obtain ⟨us, ea, qa, ra⟩ := hS.lst rx e0
  obtain ⟨v, hv, rv⟩ := qM3 ra hd
  exact .inl ⟨_, us, i, v, ea, ry, .inl (.inl qa), hv, hA.now hS _ rv⟩
 ·rename_i xs i
  obtain ⟨xs', d, e0, hd, rfl⟩ := qFs e
  cases e0
  obtain ⟨a, us, ea, qa, ra⟩ := rx
  obtain ⟨v, hv, rv⟩ := qM3 ra hd
  exact .inl ⟨a, us, i, v, ea, ry, qa.sq, hv, hA.now hS _ rv⟩
 ·cases e
def qTh (K : PySem.W.Frag) : List V -> Hp -> VK -> Prop := λ xs H Q => (∃ p ys, xs = [.ref p] /\ (SqL K H p ys \/ SqT K H p ys) /\ Q (.int ys.length) H) \/ ∃ z, xs = [.str z] /\ z.length <= sizeLine /\ Q (.int z.length) H
theorem qMx : qBm X (.builtin "len") (qTh X.K) := qBm.or qHf qHe
theorem qVw : qEw G (qTh G.K) qDq := by
 intro E H W vs ds Q rr hS rl e hA
 unfold qDq at e
 split at e
 ·rename_i xs
  obtain rfl : Rs.ok (D.int xs.length) W.S = rr := Option.some.inj e
  obtain ⟨v, r, rfl, ⟨a, us, rfl, qa, ra⟩, t⟩ := rl
  have t : r = [] := t
  subst t
  exact .inl ⟨a, us, rfl, .inl qa.sq, by rw [<- ra.length]; exact hA.now hS _ rfl⟩
 ·rename_i xs
  obtain rfl : Rs.ok (D.int xs.length) W.S = rr := Option.some.inj e
  obtain ⟨v, r, rfl, ⟨a, us, rfl, qa, ra⟩, t⟩ := rl
  have t : r = [] := t
  subst t
  exact .inl ⟨a, us, rfl, .inr qa, by rw [<- ra.length]; exact hA.now hS _ rfl⟩
 ·rename_i a
  unfold qVb at e
  split at e
  ·rename_i xs hx
   obtain rfl : Rs.ok (D.int xs.length) W.S = rr := Option.some.inj e
   obtain ⟨v, r, rfl, rx, t⟩ := rl
   obtain ⟨us, ea, qa, ra⟩ := hS.lst rx hx
   have t : r = [] := t
   subst t ea
   exact .inl ⟨_, us, rfl, .inl (.inl (.inl qa)), by rw [<- ra.length]; exact hA.now hS _ rfl⟩
  ·cases e
 ·rename_i z
  split at e
  ·rename_i hl
   obtain rfl : Rs.ok (D.int z.length) W.S = rr := Option.some.inj e
   obtain ⟨v, r, rfl, q, t⟩ := rl
   have q : v = .str z := q
   have t : r = [] := t
   subst q t
   exact .inr ⟨z, rfl, sz hl, hA.now hS _ rfl⟩
  ·cases e
 ·cases e
def kdT : Kd -> String
 | .int => "int"
 | .bool => "bool"
 | .str => "str"
 | .lst => "list"
 | .tup => "tuple"
theorem qO8 (k : Kd) : qBm X (.builtin "isinstance") (λ xs H Q => ∃ W x d b, xs = [x, .ty (kdT k)] /\ qB0 (gx X) H W /\ Rep (gx X) H W d x /\ isK k d W.S = some b /\ Q (.bl b) H) := by
 intro pins s σ H xs us Q I r h
 obtain ⟨W, x, d, b, rfl, hS, rd, hb, q⟩ := h
 obtain ⟨u, w, rfl, rx, rw'⟩ := qAn.two r
 cases rw'
 have qT : ∀ tk, EP X pins σ Q (.bool b) { s with toks := tk } := λ tk => ⟨.bl b, H, I.tok tk, rfl, q⟩
 have qS : EP X pins σ Q (.bool b) s := ⟨.bl b, H, I, rfl, q⟩
 cases d with
 | non =>
  cases rd; cases rx
  cases k <;> cases hb <;> first
   | exact PySem.IsiNone.NoneType_int (qT _)
   | exact PySem.IsiNone.NoneType_bool (qT _)
   | exact PySem.IsiNone.NoneType_str (qT _)
   | exact PySem.IsiNone.NoneType_list (qT _)
   | exact PySem.IsiNone.NoneType_tuple (qT _)
   | exact PySem.IsiPair.NoneType_int (qT _)
   | exact PySem.IsiPair.NoneType_bool (qT _)
   | exact PySem.IsiPair.NoneType_str (qT _)
   | exact PySem.IsiPair.NoneType_list (qT _)
   | exact PySem.IsiPair.NoneType_tuple (qT _)
 | bl c =>
  cases rd; cases rx
  cases k <;> cases hb <;> first
   | exact PySem.IsiPair.bool_int qS
   | exact PySem.IsiPair.bool_bool qS
   | exact PySem.IsiPair.bool_str (qT _)
   | exact PySem.IsiPair.bool_list (qT _)
   | exact PySem.IsiPair.bool_tuple (qT _)
 | int i =>
  cases rd
  obtain ⟨t, rfl⟩ := rx
  cases k <;> cases hb <;> first
   | exact PySem.IsiPair.int_int qS
   | exact PySem.IsiPair.int_bool (qT _)
   | exact PySem.IsiPair.int_str (qT _)
   | exact PySem.IsiPair.int_list (qT _)
   | exact PySem.IsiPair.int_tuple (qT _)
 | str i =>
  cases rd
  obtain ⟨t, rfl⟩ := rx
  cases k <;> cases hb <;> first
   | exact PySem.IsiPair.str_int (qT _)
   | exact PySem.IsiPair.str_bool (qT _)
   | exact PySem.IsiPair.str_str qS
   | exact PySem.IsiPair.str_list (qT _)
   | exact PySem.IsiPair.str_tuple (qT _)
 | tup ds =>
  obtain ⟨a, ys, rfl, hq, rl⟩ := rd
  cases rx
  obtain ⟨its, rv, ⟨o, ho, hc, kk, hd⟩, hz⟩ := I.tuple hq
  have ty : s.TypeIs (.ref a) "tuple" := ⟨o, ho, hc⟩
  cases k <;> cases hb <;> first
   | exact call_isinstance (isinstance_true (Tx := "tuple") F.isi_meta_tuple F.sub_tuple_tuple) ⟨ty, qS⟩
   | exact call_isinstance (isinstance_true (Tx := "tuple") F.isi_meta_tuple isi_sub_tuple) ⟨ty, qS⟩
   | exact call_isinstance (isinstance_false_tuple (by decide +kernel) F.isi_meta_int F.sub_tuple_int) ⟨ty, qT _⟩
   | exact call_isinstance (isinstance_false_tuple (by decide +kernel) F.isi_meta_bool F.sub_tuple_bool) ⟨ty, qT _⟩
   | exact call_isinstance (isinstance_false_tuple (by decide +kernel) F.isi_meta_str F.sub_tuple_str) ⟨ty, qT _⟩
   | exact call_isinstance (isinstance_false_tuple (by decide +kernel) F.isi_meta_list F.sub_tuple_list) ⟨ty, qT _⟩
 | ref a =>
  have hl : (∃ ds, zH W.S a = some ds /\ b = decide (k = .lst)) \/ ∃ kvs, W.S[a]? = some (.dct kvs) /\ b = false := by
   unfold zH
   cases k <;> (simp only [isK] at hb; split at hb <;> first | (rename_i heq; cases hb; first | (refine .inl ?_; rw [heq]; exact ⟨_, rfl, by decide⟩) | exact .inr ⟨_, heq, rfl⟩) | cases hb)
  rcases hl with hl | ⟨kvs, hl, eb⟩
  rotate_left
  ·obtain ⟨_, hq⟩ := hS.get a _ hl
   have ea : x = .ref (W.μ a) := rd.2
   subst ea
   cases rx
   obtain ⟨_, _, vs, _, p⟩ := (show qA9 X.prog X.w H s.heap (W.μ a) (.dK []) from I.hok _ _ hq)
   obtain ⟨o, es, ep, h1, h2, _⟩ := p
   have ty : s.TypeIs (.ref (W.μ a)) "dict" := ⟨o, h1, h2.1⟩
   subst eb
   cases k <;> first
    | exact call_isinstance (isinstance_false_dict (by decide +kernel) F.isi_meta_int F.sub_dict_int) ⟨ty, qT _⟩
    | exact call_isinstance (isinstance_false_dict (by decide +kernel) F.isi_meta_bool F.sub_dict_bool) ⟨ty, qT _⟩
    | exact call_isinstance (isinstance_false_dict (by decide +kernel) F.isi_meta_str F.sub_dict_str) ⟨ty, qT _⟩
    | exact call_isinstance (isinstance_false_dict (by decide +kernel) F.isi_meta_list F.sub_dict_list) ⟨ty, qT _⟩
    | exact call_isinstance (isinstance_false_dict (by decide +kernel) F.isi_meta_tuple F.sub_dict_tuple) ⟨ty, qT _⟩
  obtain ⟨ds, hl, eb⟩ := hl
  obtain ⟨ys, ea, hq, rl⟩ := hS.lst rd hl
  subst ea
  cases rx
  obtain ⟨z, its, kk, rv, hl, e⟩ := I.lstM hq
  have ty : s.TypeIs (.ref (W.μ a)) "list" := ⟨_, e, rfl⟩
  subst eb
  cases k <;> first
   | exact call_isinstance (isinstance_true (Tx := "list") F.isi_meta_list F.sub_list_list) ⟨ty, qS⟩
   | exact call_isinstance (isinstance_false_list (by decide +kernel) F.isi_meta_int F.sub_list_int) ⟨ty, qT _⟩
   | exact call_isinstance (isinstance_false_list (by decide +kernel) F.isi_meta_bool F.sub_list_bool) ⟨ty, qT _⟩
   | exact call_isinstance (isinstance_false_list (by decide +kernel) F.isi_meta_str F.sub_list_str) ⟨ty, qT _⟩
   | exact call_isinstance (isinstance_false_list (by decide +kernel) F.isi_meta_tuple F.sub_list_tuple) ⟨ty, qT _⟩
 | exc c => cases k <;> cases hb
 | scr _ => cases k <;> cases hb
theorem qIy (k : Kd) {e : Expr} {ge : DE} {p p2 pos : Pos} {T : Str} (hT : bootBuiltins T = some (.type (kdT k))) (hg : Gl X "isinstance") (hm : X.mg "isinstance" = none) (hgT : Gl X T) (hmT : X.mg T = none) (he : PDE X E e ge)
  (hv : bootBuiltins "isinstance" = some (.builtin "isinstance") := by decide +kernel) (hnT : T ≠ "__name__" := by decide +kernel) (hdT : (T == ("__debug__" : Str)) = false := by decide +kernel)
  (hst : starEach (e :: [.Name T p2]) X.env = (false, eval e X.env) :: starEach [.Name T p2] X.env := by rfl) (hst2 : starEach (.Name T p2 :: []) X.env = (false, eval (.Name T p2) X.env) :: starEach [] X.env := by rfl)
  (hpl : (backTo pos (starEach [.Name T p2] X.env)).any (·.1) = false := by rfl) :
  PDE X E (.Call (.Name "isinstance" p) [e, .Name T p2] [] pos) (op1 (qCh k) ge) := by
 try unfold PDE at *
 refine PE.imp (qCm (qO8 k) hg hm hv (qAr he (qAr (qLq (v := .ty (kdT k)) hgT hmT hT rfl hnT hdT) qEf hst2) hst) (by decide +kernel) (by decide +kernel) hst hpl) λ σ H Q ⟨W, δ, rr, hS, hδ, hg', hA⟩ => ?_
 refine Go.thn hS hδ hg' hA λ d H1 W1 s1 hδ1 hg1 hA1 v rv => ?_
 unfold qCh at hg1
 split at hg1
 ·rename_i b hb
  obtain rfl : Rs.ok (D.bl b) W1.S = rr := Option.some.inj hg1
  exact ⟨W1, v, d, b, rfl, s1.ok, rv, hb, hA1.now s1.ok _ rfl⟩
 ·cases hg1
end
end Np
end
section
namespace Np
open PySem PySem.Spec PyProof.Rows L2
def qGb : List (Str × NameKind) -> List (Str × Addr) -> List (Str × Addr) -> List (Str × Addr)
 | [], _, cs => cs
 | (n, k) :: r, cells, cs => qGb r cells (if k = .free then (match cells.lookup n with | some c => (n, c) :: cs | none => cs) else cs)
theorem qJd (cells : List (Str × Addr)) : ∀ (names : List (Str × NameKind)) (cs : List (Str × Addr)) (x : Str) (c : Addr), (qGb names cells cs).lookup x = some c -> cs.lookup x = some c \/ (cells.lookup x = some c /\ (x, NameKind.free) ∈ names)
 | [], cs, x, c, h => .inl h
 | (n, k) :: r, cs, x, c, h => by
  rcases qJd cells r _ x c h with q | ⟨q, m⟩
  ·split at q
   ·rename_i hk
    split at q
    ·rename_i d hd
     rw [jCi] at q
     cases e : x == n with
     | true =>
      rw [e] at q
      have e' : x = n := beq_iff_eq.mp e
      subst e' hk
      cases q
      exact .inr ⟨hd, .head _⟩
     | false =>
      rw [e] at q
      exact .inl q
    ·exact .inl q
   ·exact .inl q
  ·exact .inr ⟨q, .tail _ m⟩
theorem qJc (cells : List (Str × Addr)) : ∀ (names : List (Str × NameKind)) (cs : List (Str × Addr)) (x : Str), (∃ c, cs.lookup x = some c) -> ∃ c, (qGb names cells cs).lookup x = some c
 | [], cs, x, h => h
 | (n, k) :: r, cs, x, h => by
  refine qJc cells r _ x ?_
  split
  ·split
   ·rw [jCi]
    cases x == n with
    | true => exact ⟨_, rfl⟩
    | false => exact h
   ·exact h
  ·exact h
theorem qF2 (cells : List (Str × Addr)) : ∀ (names : List (Str × NameKind)) (cs : List (Str × Addr)) (x : Str), (x, NameKind.free) ∈ names -> (∃ c, cells.lookup x = some c) -> ∃ c, (qGb names cells cs).lookup x = some c
 | (n, k) :: r, cs, x, hm, hc => by
  rcases jAp.mp hm with e | hm
  ·obtain ⟨rfl, rfl⟩ := Prod.mk.inj e
   obtain ⟨c, hc⟩ := hc
   refine qJc cells r _ _ ?_
   rw [if_pos rfl, hc]
   exact ⟨c, by simp [jCi]⟩
  ·exact qF2 cells r _ x hm hc
theorem qDi : ∀ (names : List (Str × NameKind)) (cs : List (Str × Addr)), (∀ y ∈ names, y.2 = .free -> ∃ c, env.cells.lookup y.1 = some c) ->
  (forIn names cs (λ (x : Str × NameKind) (r : List (Str × Addr)) => do
   if (x.2 == NameKind.free) = true then do let c <- cellOf env x.1; pure (ForInStep.yield ((x.1, c) :: r)) else pure (ForInStep.yield r)) : Sem (List (Str × Addr))) = pure (qGb names env.cells cs)
 | [], cs, _ => rfl
 | (n, k) :: r, cs, h => by
  rw [jCj]
  by_cases hk : k = .free
  ·subst hk
   obtain ⟨c, hc⟩ := h (n, .free) (.head _) rfl
   have e : cellOf env n = pure c := by unfold cellOf; rw [hc]
   have ih := qDi (env := env) r ((n, c) :: cs) λ y hy => h y (.tail _ hy)
   have e2 : qGb ((n, NameKind.free) :: r) env.cells cs = qGb r env.cells ((n, c) :: cs) := by
    show qGb r env.cells (if NameKind.free = NameKind.free then (match env.cells.lookup n with | some c => (n, c) :: cs | none => cs) else cs) = _
    rw [if_pos rfl, hc]
   rw [e2, <- ih]
   simp only [beq_self_eq_true, if_true, e, pure_bind]
  ·have ih := qDi (env := env) r cs λ y hy => h y (.tail _ hy)
   have hb : (k == NameKind.free) = false := by simpa using hk
   have e2 : qGb ((n, k) :: r) env.cells cs = qGb r env.cells cs := by
    show qGb r env.cells (if k = NameKind.free then (match env.cells.lookup n with | some c => (n, c) :: cs | none => cs) else cs) = _
    rw [if_neg hk]
   rw [e2, <- ih]
   simp only [hb, Bool.false_eq_true, if_false, pure_bind]
theorem qDb (h : ∀ y ∈ scope.names, y.2 = .free -> ∃ c, env.cells.lookup y.1 = some c) : closureFor scope env = pure (qGb scope.names env.cells []) := by
 have := qDi (env := env) scope.names [] h
 unfold closureFor
 simp only [bind_pure]
 exact this
theorem qE6 (f : Str -> NameKind -> NameKind) : ∀ (names : List (Str × NameKind)) (x : Str), (names.map λ y => (y.1, f y.1 y.2)).lookup x = (names.lookup x).map (f x)
 | [], x => rfl
 | (n, k) :: r, x => by
  rw [jBf, jCi, jCi, qE6 f r x]
  cases e : x == n with
  | true =>
   have e' : x = n := beq_iff_eq.mp e
   subst e'
   rfl
  | false => rfl
theorem qFm (scope : Scope) (env : Env) (x : Str) : (relabel scope env).names.lookup x = (scope.names.lookup x).map λ k => if (k == .free && env.scope.kind == .function && env.kindOf x == some .cell) = true then .cell else k := by
 have := qE6 (λ n k => if (k == .free && env.scope.kind == .function && env.kindOf n == some .cell) = true then .cell else k) scope.names x
 rw [<- this]
 unfold relabel
 congr 1
 refine List.map_congr_left λ y _ => ?_
 obtain ⟨n, k⟩ := y
 dsimp only
 split <;> rfl
theorem qAx (h : (relabel scope env).names.lookup x = some kd) : scope.names.lookup x = some kd \/ (scope.names.lookup x = some .free /\ kd = .cell) := by
 rw [qFm] at h
 cases q : scope.names.lookup x with
 | none => rw [q] at h; cases h
 | some k =>
  rw [q, Option.map_some] at h
  have h' := Option.some.inj h
  split at h'
  ·rename_i hc
   have hk : k = .free := by
    have := (Bool.and_eq_true_iff.mp (Bool.and_eq_true_iff.mp hc).1).1
    simpa using this
   exact .inr ⟨by rw [hk], h'.symm⟩
  ·exact .inl (by rw [h'])
structure qCl (N : List Str) (fsc : Scope) (N' : List Str) (scope : Scope) : Prop where
 kind : scope.kind = .function
 names : ∀ x ∈ scope.names, x.2 = .local -> scope.names.lookup x.1 = some .local
 celu : ∀ x ∈ scope.names, x.2 = .cell -> scope.names.lookup x.1 = some .cell
 free : ∀ x ∈ scope.names, x.2 = .free -> scope.names.lookup x.1 = some .free /\ (fsc.names.lookup x.1 = some .cell \/ fsc.names.lookup x.1 = some .free)
 pre : ((jAg N.length).all λ i => match N'[i]? with
  | some x => (match scope.names.lookup x with
   | some .local => false
   | some .cell => false
   | some .free => N[i]? == some x
   | _ => true)
  | none => true) = true
 len : N.length <= N'.length
 nd : N'.Nodup
def qXp (scope : Scope) (x : Str) : Bool := scope.names.lookup x == some .local || scope.names.lookup x == some .cell
def qHc (scope : Scope) (C : Addr) (cells : List (Str × Addr)) : List (Str × Addr) := cellsFrom (C + 1) scope.names (qGb scope.names cells [])
theorem qB9 : ∀ (names : List (Str × NameKind)) (h : Heap) (acc : List (Str × Addr)) (x : Str) (c : Addr), (cellsFrom h.objs.size names acc).lookup x = some c ->
  acc.lookup x = some c \/ ((x, NameKind.cell) ∈ names /\ h.objs.size <= c /\ (pushCells h names).IsCell c none)
 | [], h, acc, x, c, e => .inl e
 | (n, k) :: r, h, acc, x, c, e => by
  unfold cellsFrom at e
  unfold pushCells
  split at e
  ·rename_i hk
   rw [if_pos hk]
   have hk' : k = .cell := by simpa using hk
   have z : (h.push { cls := .type "cell", data := .cell none }).objs.size = h.objs.size + 1 := jBi ..
   rw [<- z] at e
   rcases qB9 r _ _ x c e with q | ⟨q1, q2, q3⟩
   ·rw [jCi] at q
    cases en : x == n with
    | true =>
     rw [en] at q
     have en' : x = n := beq_iff_eq.mp en
     cases q
     refine .inr ⟨by rw [en', hk']; exact .head _, jAy _, { cls := .type "cell", data := .cell none }, pushCells_keeps _ _ _ _ (jAx _ rfl), rfl⟩
    | false =>
     rw [en] at q
     exact .inl q
   ·exact .inr ⟨.tail _ q1, by omega, q3⟩
  ·rename_i hk
   rw [if_neg hk]
   rcases qB9 r _ _ x c e with q | ⟨q1, q2⟩
   ·exact .inl q
   ·exact .inr ⟨.tail _ q1, q2⟩
theorem qCj : ∀ (names : List (Str × NameKind)) (n : Nat) (acc : List (Str × Addr)) (x : Str) (c : Addr), (cellsFrom n names acc).lookup x = some c -> acc.lookup x = some c \/ ((x, NameKind.cell) ∈ names /\ n <= c)
 | [], n, acc, x, c, e => .inl e
 | (y, k) :: r, n, acc, x, c, e => by
  unfold cellsFrom at e
  split at e
  ·rename_i hk
   have hk' : k = .cell := by simpa using hk
   rcases qCj r _ _ x c e with q | ⟨q1, q2⟩
   ·rw [jCi] at q
    cases en : x == y with
    | true =>
     rw [en] at q
     have en' : x = y := beq_iff_eq.mp en
     cases q
     exact .inr ⟨by rw [en', hk']; exact .head _, jAy _⟩
    | false =>
     rw [en] at q
     exact .inl q
   ·exact .inr ⟨.tail _ q1, by omega⟩
  ·rcases qCj r _ _ x c e with q | ⟨q1, q2⟩
   ·exact .inl q
   ·exact .inr ⟨.tail _ q1, q2⟩
theorem qBg : ∀ (names : List (Str × NameKind)) (n : Nat) (acc : List (Str × Addr)) (x : Str), (∃ c, acc.lookup x = some c) -> ∃ c, (cellsFrom n names acc).lookup x = some c
 | [], n, acc, x, e => e
 | (y, k) :: r, n, acc, x, e => by
  unfold cellsFrom
  split
  ·refine qBg r _ _ x ?_
   rw [jCi]
   cases x == y with
   | true => exact ⟨_, rfl⟩
   | false => exact e
  ·exact qBg r _ _ x e
theorem qB8 : ∀ (names : List (Str × NameKind)) (n : Nat) (acc : List (Str × Addr)), (∀ x c, acc.lookup x = some c -> c < n) -> (∀ x y c, acc.lookup x = some c -> acc.lookup y = some c -> x = y) ->
  ∀ x y c, (cellsFrom n names acc).lookup x = some c -> (cellsFrom n names acc).lookup y = some c -> x = y
 | [], n, acc, _, h2 => h2
 | (z, k) :: r, n, acc, h1, h2 => by
  unfold cellsFrom
  split
  ·refine qB8 r _ _ (λ x c e => ?_) λ x y c e1 e2 => ?_
   ·rw [jCi] at e
    cases en : x == z with
    | true => rw [en] at e; cases e; exact jBj _
    | false => rw [en] at e; exact jCk (h1 x c e)
   ·rw [jCi] at e1 e2
    cases en : x == z with
    | true =>
     rw [en] at e1
     cases e1
     cases en2 : y == z with
     | true => rw [beq_iff_eq.mp en, beq_iff_eq.mp en2]
     | false => rw [en2] at e2; exact absurd (h1 y _ e2) (jAe _)
    | false =>
     rw [en] at e1
     cases en2 : y == z with
     | true => rw [en2] at e2; cases e2; exact absurd (h1 x _ e1) (jAe _)
     | false => rw [en2] at e2; exact h2 x y c e1 e2
  ·exact qB8 r _ _ h1 h2
theorem qEi 
  (hQ : ∀ h', h'.Ns s.heap.objs.size (λ _ => none) -> (∀ b o, s.heap.get? b = some o -> h'.get? b = some o) ->
   (∀ x c, (cellsFrom (s.heap.objs.size + 1) scope.names closure).lookup x = some c -> closure.lookup x = some c \/ ((x, NameKind.cell) ∈ scope.names /\ s.heap.objs.size + 1 <= c /\ h'.IsCell c none)) ->
   Q (newEnv scope s.heap.objs.size globals (cellsFrom (s.heap.objs.size + 1) scope.names closure) qual none .none (some env) builtinsNs) { s with heap := h' }) :
  wpAny M A (newFunctionEnv scope globals closure [] qual none .none (some env)) Q E s := by
 simp only [newFunctionEnv, jCl, if_true]
 refine wpAny_bind (wpAny_alloc ?_)
 refine wpAny_bind (wpAny_layCells _ (λ name kind cells => by cases hkc : kind == NameKind.cell <;> simp [hkc]) _ _ _ _ ?_)
 have z : (s.heap.push { cls := .type "dict", data := .dict #[] }).objs.size = s.heap.objs.size + 1 := jBi ..
 rw [jCm]
 refine wpAny_bind (wpAny_pure (wpAny_pure ?_))
 have := hQ (pushCells (s.heap.push { cls := .type "dict", data := .dict #[] }) scope.names) ((Heap.Ns.new s.heap (.type "dict")).keeps (pushCells_keeps _ _)) (λ b o e => pushCells_keeps _ _ b o (jAv _ e)) (λ x c e => by
  rw [<- z] at e ⊢
  exact qB9 _ _ _ _ _ e)
 rw [<- z] at this
 exact this
def qAa (X : Cx) (N' : List Str) (scope : Scope) (C : Addr) (s₃ : Shared) (H₃ : Hp) (ex : List Addr) (pn : List (Addr × Obj)) : Cx where
 prog := X.prog
 w := X.w
 K := X.K
 mg := X.mg
 base := X.base
 A := X.A
 N := N'
 s₀ := s₃
 H₀ := H₃
 env := compEnvC scope (qHc scope C X.env.cells) C X.env
 outer := X.stack
 stack := X.stack
 ex := ex
 fn := qXp scope
 calm := X.calm
 pn := pn
 xe := λ _ _ => False
section
variable {X : Cx} {N' : List Str} {scope : Scope}
theorem qHb (h : (qGb scope.names X.env.cells []).lookup x = some c) : X.env.cells.lookup x = some c /\ (x, NameKind.free) ∈ scope.names := by
 rcases qJd _ _ _ _ _ h with z | z
 ·cases z
 ·exact z
theorem qCq (h : (qHc scope C X.env.cells).lookup x = some c) : (X.env.cells.lookup x = some c /\ (x, NameKind.free) ∈ scope.names) \/ ((x, NameKind.cell) ∈ scope.names /\ C < c) := by
 rcases qCj _ _ _ _ _ h with q | ⟨q1, q2⟩
 ·exact .inl (qHb q)
 ·exact .inr ⟨q1, q2⟩
theorem qO5 (I : Inv X pins σ H₃ s₃) (h : X.env.cells.lookup x = some c) : c < s₃.heap.objs.size := by
 obtain ⟨v, o, ho, _⟩ := I.cell x c h
 exact jAc ho
theorem qIg (O : qCl X.N X.env.scope N' scope) (I : Inv X pins σ H₃ s₃) (hC : s₃.heap.objs.size <= C) (hf : ∀ b ∈ fp, qFi X pins H₃ b) (hfl : ∀ b ∈ fp, b < s₃.heap.objs.size) :
  (qAa X N' scope C s₃ H₃ fp (X.pn ++ pins)).Ok where
 mod := I.ok.mod
 kind := by show (relabel scope X.env).kind = _; exact O.kind
 glob := I.ok.glob
 blt := I.ok.blt
 above := hC
 inj := λ x y c h1 h2 => qB8 scope.names (C + 1) (qGb scope.names X.env.cells []) (λ x c h => jCk (jAd (qO5 I (qHb h).1) hC)) (λ x y c h1 h2 => I.ok.inj x y c (qHb h1).1 (qHb h2).1) x y c h1 h2
 has := λ x hx => by
  have hx' : (relabel scope X.env).names.lookup x = some .cell \/ (relabel scope X.env).names.lookup x = some .free := hx
  have hfree : scope.names.lookup x = some .cell \/ scope.names.lookup x = some .free := by
   rcases hx' with z | z
   ·rcases qAx z with y | ⟨y, _⟩
    ·exact .inl y
    ·exact .inr y
   ·rcases qAx z with y | ⟨y, y2⟩
    ·exact .inr y
    ·cases y2
  rcases hfree with hfree | hfree
  ·exact jBs.mp (jBr scope.names (C + 1) _ (.inl hfree))
  ·have hm := PySem.mem_of_lookup hfree
   have hcell : ∃ c, X.env.cells.lookup x = some c := I.ok.has x (O.free _ hm rfl).2
   exact qBg _ _ _ _ (qF2 _ _ _ _ hm hcell)
 cab := λ x c h1 h2 => by
  rcases qCq (X := X) h2 with ⟨_, hm⟩ | ⟨_, hc⟩
  ·have q := (O.free _ hm rfl).1
   have h1' : (scope.names.lookup x == some .local || scope.names.lookup x == some .cell) = true := h1
   rw [q] at h1'
   cases h1'
  ·exact jAl (jCn hC hc)
 hd := I.ok.hd
 frames := I.ok.frames
 stk := .inl rfl
 exf := λ b hb => ⟨jAf (jAd (hfl b hb) hC), λ x c h => by
  rcases qCq (X := X) h with ⟨q, _⟩ | ⟨_, q⟩
  ·exact (hf b hb).2.2.2.2.1 x c q
  ·exact jAw (jCo (jAd (hfl b hb) hC) q)⟩
 bs := I.bs
 bsz := jAk I.ok.bsz I.sz
 noex := λ b o e hb => by
  rcases (hf b hb).2.2.2.1 with z | z
  ·exact I.ok.noex b o e z
  ·exact absurd (jAd (jAc (I.ok.bs b o e).1) z) (jAe _)
 exfs := λ b hb z => by
  rcases jAp.mp (I.stkSub b z) with e | e
  ·exact (hf b hb).2.1 e
  ·exact (hf b hb).2.2.1 e
 funs := I.stack
 frf := I.stkFree
theorem qI4 (O : qCl X.N X.env.scope N' scope) (I : Inv X pins σ H₃ s₃) (hC : s₃.heap.objs.size <= C) (hf : ∀ b ∈ fp, qFi X pins H₃ b) (hfl : ∀ b ∈ fp, b < s₃.heap.objs.size)
  (hs : ∃ h' t', s₄ = { s₃ with heap := h', toks := t' }) (hk : ∀ b o, s₃.heap.get? b = some o -> s₄.heap.get? b = some o) (hn : s₄.heap.Ns C m)
  (hce : ∀ x c, (qHc scope C X.env.cells).lookup x = some c -> (qGb scope.names X.env.cells []).lookup x = some c \/ ((x, NameKind.cell) ∈ scope.names /\ C + 1 <= c /\ s₄.heap.IsCell c none)) (hlen : X.N.length + k = N'.length) : Inv (qAa X N' scope C s₃ H₃ fp (X.pn ++ pins)) [] (σ ++ jBq k none) H₃ s₄ := by
 obtain ⟨h', t', rfl⟩ := hs
 have hHC : H₃ C = none := I.hok.fresh hC
 refine ⟨qIg O I hC hf hfl, rfl, I.bare, Un.kept hk, ⟨m, hn, λ i x v h1 h2 h3 => ?_⟩, λ x c h => ?_, hHC, λ x c h => ?_, λ p hp => ?_, I.hok.kept hk, ?_⟩
 ·have hi : i < σ.length := by
   by_cases hi : i < σ.length
   ·exact hi
   ·rw [jBv (by omega), jBw] at h2
    split at h2 <;> cases h2
  rw [jBx hi] at h2
  have hiN : i < X.N.length := by rw [<- I.len]; exact hi
  have hp := jCp.mp O.pre i (List.mem_range.mpr hiN)
  have h1' : N'[i]? = some x := h1
  rw [h1'] at hp
  have h3' : (relabel scope X.env).names.lookup x = some .local \/ (relabel scope X.env).names.lookup x = some .cell \/ (relabel scope X.env).names.lookup x = some .free := h3
  have hp2 : (match scope.names.lookup x with
   | some .local => false
   | some .cell => false
   | some .free => X.N[i]? == some x
   | _ => true) = true := hp
  have hfree : scope.names.lookup x = some .free := by
   rcases h3' with z | z | z
   ·rcases qAx z with y | ⟨y, y2⟩
    ·rw [y] at hp2; cases hp2
    ·cases y2
   ·rcases qAx z with y | ⟨y, _⟩
    ·rw [y] at hp2; cases hp2
    ·exact y
   ·rcases qAx z with y | ⟨y, y2⟩
    ·exact y
    ·cases y2
  have hm := PySem.mem_of_lookup hfree
  rw [hfree] at hp2
  have hNx : X.N[i]? = some x := by simpa using hp2
  have hkx := (O.free _ hm rfl).2
  obtain ⟨m0, hn0, hl0⟩ := I.loc
  have vis : Vis X.env.scope x := by
   rcases hkx with z | z
   ·exact .inr (.inl z)
   ·exact .inr (.inr z)
  obtain ⟨u, r, l⟩ := hl0 i x v hNx h2 vis
  refine ⟨u, r, .inr ⟨?_, ?_⟩⟩
  ·rcases h3' with z | z | z
   ·exfalso
    rcases qAx z with y | ⟨y, y2⟩
    ·rw [hfree] at y; cases y
    ·cases y2
   ·exact .inl z
   ·exact .inr z
  ·rcases l with ⟨z, _⟩ | ⟨_, c, hc, hcell⟩
   ·exfalso
    have z' : X.env.scope.names.lookup x = some .local := z
    rcases hkx with y | y
    ·rw [z'] at y; cases y
    ·rw [z'] at y; cases y
   ·obtain ⟨c', hc'⟩ := qBg scope.names (C + 1) _ x (qF2 X.env.cells scope.names [] x hm ⟨c, hc⟩)
    have hcc : X.env.cells.lookup x = some c' := by
     rcases qCq (X := X) (C := C) hc' with ⟨q, _⟩ | ⟨q, _⟩
     ·exact q
     ·have := O.celu _ q rfl
      rw [hfree] at this
      cases this
    rw [hc] at hcc
    cases hcc
    obtain ⟨o, ho, hd⟩ := hcell
    exact ⟨c, hc', o, hk _ _ ho, hd⟩
 ·rcases hce x c h with q | ⟨_, _, q⟩
  ·obtain ⟨v, o, ho, hd⟩ := I.cell x c (qHb q).1
   exact ⟨v, o, hk _ _ ho, hd⟩
  ·exact ⟨_, q⟩
 ·rcases qCq (X := X) h with ⟨q, _⟩ | ⟨_, q⟩
  ·exact I.freeC x c q
  ·exact I.hok.fresh (jAl (jCn hC q))
 ·have hp' : p ∈ X.pn ++ pins := by
   have q : p ∈ (X.pn ++ pins) ++ [] := hp
   rwa [jBl] at q
  obtain ⟨e, n, ne, nf, d⟩ := I.pin p hp'
  refine ⟨hk _ _ e, n, jAf (jAd (jAc e) hC), λ z => ?_, d⟩
  rcases jAp.mp (I.stkSub p.1 z) with y | y
  ·exact ne y
  ·exact nf y
 ·show _ = N'.length
  rw [jB0, jB1, I.len, hlen]
end
section
variable {prog : Program} {w : World} {A : Around} {R : Result -> Shared -> Prop} {s : Shared}
theorem qG9 (I : Nat -> Shared -> Prop)
  (turn : ∀ n s, I n s -> wpAny (model prog w) A (pyNext it) (λ r s₁ => match r with
   | none => R (.ok .next) s₁
   | some v => wpAny (model prog w) A (letOwnedTupleGo target it v) (λ _ s₂ => wpAny (model prog w) A (assign target env v) (λ _ s₃ => wpAny (model prog w) A (eval elt env) (λ x s₄ =>
     wpAny (model prog w) A (call (.builtin "list.append") [acc, x]) (λ _ s₅ => ∃ m, m < n /\ I m s₅) (λ _ _ => False) s₄) (λ _ _ => False) s₃) (λ _ _ => False) s₂) (λ _ _ => False) s₁) (λ _ _ => False) s)
  (n : Nat) (h : I n s) :
  codeAny (model prog w) A (.compLoop (.ListComp elt [⟨target, iter, [], 0⟩] scope pos) 0 it acc env) R s := by
 refine codeAny_loop rfl I (λ n s hI => ?_) n h
 show wpAny _ _ ((compTurn (.ListComp elt [⟨target, iter, [], 0⟩] scope pos) 0 it acc env).onRaise (λ x => do noteFrame x env; theTreesLotGoes x)) _ _ s
 refine wpAny_noted ?_
 rw [compTurn_list1]
 refine wpAny_bind (wpAny_standAt (wpAny_bind (wpAny_mono (turn n s hI) (λ r s₁ h₁ => ?_) λ _ _ h' => h'.elim)))
 cases r with
 | none => exact wpAny_pure h₁
 | some v =>
  refine wpAny_bind (wpAny_mono h₁ (λ _ s₂ h₂ => ?_) λ _ _ h' => h'.elim)
  exact wpAny_bind (wpAny_mono h₂ (λ _ s₂ h₂ => wpAny_bind (wpAny_bind (wpAny_mono h₂ (λ x s₃ h₃ => wpAny_bind (wpAny_mono h₃
   (λ _ s₄ h₄ => wpAny_pure (wpAny_pure ⟨rfl, h₄⟩)) λ _ _ h' => h'.elim)) λ _ _ h' => h'.elim))) λ _ _ h' => h'.elim)
end
def qNq (wi : TI) (g : TG) (te : TE) (k : Nat) : TE := λ σ H Q => wi σ H λ J H1 => ∃ W : Nat -> Nat -> List V -> L2.St -> Hp -> Prop, (∃ n, W 0 n [] (σ ++ jBq k none) H1) /\ ∀ i n vs σ H, W i n vs σ H ->
 (J.stop i H /\ ∀ p, H p = none -> Q (.ref p) (upd H p (.lst vs))) \/ (J.go i H /\ vs.length < sizeLine /\ ∀ x H', J.yld i H x H' -> g x σ H' λ σ2 H2 => te σ2 H2 λ v H3 => ∃ n', n' < n /\ W (i + 1) n' (vs ++ [v]) σ2 H3)
section
variable {X : Cx} {N' : List Str} {scope : Scope}
theorem Inv.adopt (I : Inv X pins σ H s) (f : qFi X pins H a) (e : s.heap.get? a = some { cls := .type "list", data := .seq its.toArray n }) (rv : qAn vs its) (hz : vs.length <= sizeLine) :
  Inv X pins σ (upd H a (.lst vs)) s := by
 have hn := f.1
 have ne : ∀ b u, H b = some u -> b ≠ a := λ b u q => qAd q hn
 have J := I.step (h' := s.heap) (H' := upd H a (.lst vs)) (g' := s.gens) (t' := s.toks) (d' := s.drawn) (ch := [a]) (λ b hb => by
   have z : b = a := by simpa using hb
   subst z
   exact ⟨f.2.2.2.1, f.2.1, f.2.2.2.2.1, f.2.2.2.2.2⟩) (λ b o _ _ _ q _ => q) (λ b o _ _ _ q _ => ⟨o.slots, q⟩) (λ b o hc _ q => by rw [zN (by simpa using hc)]; exact q) (λ b o _ q => ⟨o, q⟩)
  (λ b xs q => by rw [zN (ne b _ q)]; exact q) (λ b o u q => by rw [zN (ne b _ q)]; exact q) (λ b ps q => ⟨#[], by rw [zN (ne b _ q), q]; simp⟩) (λ m hm => hm) (λ b u q => ?_) I.bare
 ·exact J
 ·by_cases hb : b = a
  ·subst hb
   rw [zT] at q
   cases q
   exact ⟨hz, its, n, rv, e⟩
  ·rw [zN hb] at q
   exact (I.hok b u q).stay (λ c v _ z => z) (λ c z => by rw [zN (ne c _ z)]; exact z) λ c xs z => by rw [zN (ne c _ z)]; exact z
end
section
variable {X : Cx} {N' : List Str} {scope : Scope}
theorem qJb (O : qCl X.N X.env.scope N' scope) (hlen : X.N.length + k = N'.length) (hcal : X.calm = true) (hi : PI X tg iter wi)
  (hg : ∀ C s₃ H₃ ex pn, PG (qAa X N' scope C s₃ H₃ ex pn) tg g) (he : ∀ C s₃ H₃ ex pn, PE (qAa X N' scope C s₃ H₃ ex pn) elt te)
  {use : Option (Value -> Sem Unit)} {Qf : Value -> Shared -> Prop} {pins : List (Addr × Obj)} {s : Shared} {σ : L2.St} {H : Hp} {Q : VK} (I : Inv X pins σ H s) (h : qNq wi g te k σ H Q)
  (fin : ∀ (C acc : Addr) (H' : Hp) (s' : Shared) (m : Str -> Option Value), Inv X pins σ H' s' -> s'.heap.Ns C m -> qFi X pins H' C -> Q (.ref acc) H' -> compPost (model X.prog X.w) X.A X.xe use Qf (.ref acc) C (.ok .next) s')
  (hs : ∀ x, foldedSetIterable iter X.env x = pure x := by intro _; rfl) :
  wpAny (model X.prog X.w) X.A (comprehension (.ListComp elt [⟨tg, iter, [], 0⟩] scope pos) scope X.env (firstIterPos [⟨tg, iter, [], 0⟩] pos) (newList []) false (eval iter X.env) use) Qf X.xe s := by
 have hclos : closureFor scope X.env = pure (qGb scope.names X.env.cells []) := qDb λ y hy hf => I.ok.has y.1 (O.free y hy hf).2
 refine wpAny_comprehension_free (use := use) rfl hs hclos O.kind O.names (thn (hi pins s σ H _ I h) λ xv s1 h1 => thn h1 λ itv s2 h2 => ?_)
 obtain ⟨it, fp, tn, J, H2, rfl, I2, T, st2, f2, hW⟩ := h2
 refine wpAny_newObj_type (qEi λ h₁ hns₁ hk₁ hce₁ => ?_)
 have hfp2 : ∀ b ∈ fp, b < s2.heap.objs.size := λ b hb => by
  obtain ⟨o, e, _⟩ := T.obj 0 _ st2 b hb
  exact jAc e
 have hpn : H2 s2.heap.objs.size = none := I2.hok.fresh (jAy _)
 have I3 : Inv X pins σ H2 { s2 with heap := s2.heap.push { cls := .type "list", data := .seq ([] : List Value).toArray } } := I2.kept (t' := s2.toks) λ b o e => jAv _ e
 have facc : qFi X pins H2 s2.heap.objs.size := I2.fpOk (jAy _) hpn
 have gacc : (s2.heap.push { cls := .type "list", data := .seq ([] : List Value).toArray }).get? s2.heap.objs.size = some { cls := .type "list", data := .seq ([] : List Value).toArray } := jAx _ rfl
 obtain ⟨W, ⟨n0, w0⟩, turn⟩ := hW
 generalize hs3 : ({ s2 with heap := s2.heap.push { cls := .type "list", data := .seq ([] : List Value).toArray } } : Shared) = s3 at I3
 have hh3 : s3.heap = s2.heap.push { cls := .type "list", data := .seq ([] : List Value).toArray } := by rw [<- hs3]
 rw [<- hh3] at gacc
 have z3 : s3.heap.objs.size = s2.heap.objs.size + 1 := by rw [hh3, jBi]
 generalize hacc : s2.heap.objs.size = acc at *
 have f3 : ∀ b ∈ acc :: fp, qFi X pins H2 b := λ b hb => by
  rcases jAp.mp hb with e | hb
  ·rw [e]; exact facc
  ·exact f2 b hb
 have hfp3 : ∀ b ∈ acc :: fp, b < s3.heap.objs.size := λ b hb => by
  rw [z3]
  rcases jAp.mp hb with e | hb
  ·rw [e]; exact jBj _
  ·exact jCk (hfp2 b hb)
 have hk4 : ∀ b o, s3.heap.get? b = some o -> h₁.get? b = some o := λ b o e => hk₁ b o (by rw [hh3] at e; exact e)
 have hCe : (s2.heap.push { cls := .type "list", dict := none, data := .seq ([] : List Value).toArray }).objs.size = s3.heap.objs.size := by rw [hh3]
 generalize hC : (s2.heap.push { cls := .type "list", dict := none, data := .seq ([] : List Value).toArray }).objs.size = C at *
 have st3 : tn 0 h₁ := T.keep 0 _ _ st2 λ b hb o e => hk4 b o (by rw [hh3]; exact jAv _ e)
 have okx := qIg (fp := acc :: fp) O I3 (show s3.heap.objs.size <= C by rw [hCe]; exact jAy _) f3 hfp3
 have pinOk : ∀ {H' : Hp} {its : List Value} {kk : Nat} {h' : Heap}, H' acc = none -> h'.get? acc = some { cls := .type "list", data := .seq its.toArray kk } -> ∀ p ∈ [(acc, ({ cls := .type "list", data := .seq its.toArray kk } : Obj))], h'.get? p.1 = some p.2 /\ H' p.1 = none /\ p.1 ≠ (qAa X N' scope C s3 H2 (acc :: fp) (X.pn ++ pins)).env.locals /\ p.1 ∉ (qAa X N' scope C s3 H2 (acc :: fp) (X.pn ++ pins)).fs /\ ∀ v, p.2.data ≠ .cell v := fun {H' its kk h'} hn e p hp => by
  have z : p = (acc, ({ cls := .type "list", data := .seq its.toArray kk } : Obj)) := by simpa using hp
  subst z
  exact ⟨e, hn, (okx.exf acc (.head _)).1, okx.exfs acc (.head _), λ v q => by cases q⟩
 have I4 : Inv (qAa X N' scope C s3 H2 (acc :: fp) (X.pn ++ pins)) [] (σ ++ jBq k none) H2 { s3 with heap := h₁ } :=
  qI4 O I3 (by rw [hCe]; exact jAy _) f3 hfp3 ⟨h₁, _, rfl⟩ hk4 hns₁ hce₁ hlen
 have I4' : Inv (qAa X N' scope C s3 H2 (acc :: fp) (X.pn ++ pins)) [(acc, { cls := .type "list", data := .seq ([] : List Value).toArray 0 })] (σ ++ jBq k none) H2 { s3 with heap := h₁ } :=
  I4.pins_of (pinOk facc.1 (hk4 _ _ gacc))
 have loop : codeAny (model X.prog X.w) X.A (.compLoop (.ListComp elt [⟨tg, iter, [], 0⟩] scope pos) 0 (.ref it) (.ref acc) (compEnvC scope (qHc scope C X.env.cells) C X.env)) (compPost (model X.prog X.w) X.A X.xe use Qf (.ref acc) C) { s3 with heap := h₁ } := by
  have fpx : ∀ {H' : Hp} {ob : Obj}, (∀ b ∈ fp, H' b = none) -> ∀ b ∈ fp, qFi (qAa X N' scope C s3 H2 (acc :: fp) (X.pn ++ pins)) [(acc, ob)] H' b := fun {H' ob} hn b hb => by
   have hb' : b ∈ acc :: fp := .tail _ hb
   refine ⟨hn b hb, (okx.exf b hb').1, okx.exfs b hb', .inl hb', λ x c h => (okx.exf b hb').2 x c h, λ p hp => ?_⟩
   have hp' : p ∈ (X.pn ++ pins) ++ [(acc, ob)] := hp
   rcases jAq.mp hp' with z | z
   ·exact (f3 b hb').2.2.2.2.2 p z
   ·have e : p = (acc, ob) := by simpa using z
    rw [e]
    exact jAw (hfp2 b hb)
  refine qG9 (λ n s' => ∃ i vs its kk σ' H', Inv (qAa X N' scope C s3 H2 (acc :: fp) (X.pn ++ pins)) [(acc, { cls := .type "list", data := .seq its.toArray kk })] σ' H' s' /\ qAn vs its /\ vs.length <= sizeLine /\ tn i s'.heap /\ (∀ b ∈ fp, H' b = none) /\ W i n vs σ' H') ?_ n0 ⟨0, [], [], 0, _, _, I4', .nil, jBk _, st3, λ b hb => (f2 b hb).1, w0⟩
  rintro n s5 ⟨i, vs, its, kk, σ5, H5, I5, rv, hz, st5, fr5, w5⟩
  rcases turn i n vs σ5 H5 w5 with ⟨stop, qn⟩ | ⟨go, hlt, step⟩
  ·refine thn (T.done (qAa X N' scope C s3 H2 (acc :: fp) (X.pn ++ pins)) rfl rfl rfl hcal i _ s5 σ5 H5 _ I5 (fpx fr5) st5 stop) λ r s6 ⟨hr, I6⟩ => ?_
   subst hr
   have back : Inv X pins σ H5 s6 := by
    have e : s6.os = s3.os := I6.os
    refine I3.call' e (ch := acc :: fp) I6.base I6.hok I6.bare λ b hb => ?_
    obtain ⟨a1, a2, a3, a4, a5, a6⟩ := f3 b hb
    exact ⟨a4, a2, a5, a6⟩
   obtain ⟨m6, hn6, _⟩ := I6.loc
   have hn6' : s6.heap.Ns C m6 := hn6
   obtain ⟨e6, n6, _⟩ := I6.pin (acc, { cls := .type "list", data := .seq its.toArray kk }) (jA0 _ (.head _))
   have fa : qFi X pins H5 acc := ⟨n6, facc.2⟩
   have hCa : C ≠ acc := jAw (by rw [hCe]; exact hfp3 acc (.head _))
   refine fin C acc _ s6 m6 (Inv.adopt back fa e6 rv hz) hn6' ?_ (qn acc n6)
   exact I3.fpOk (by rw [hCe]; exact jAy _) (by rw [zN hCa]; exact I6.free)
  ·refine thn (T.item (qAa X N' scope C s3 H2 (acc :: fp) (X.pn ++ pins)) rfl rfl rfl hcal i _ s5 σ5 H5 _ I5 (fpx fr5) st5 go) λ r s6 ⟨u, hr, h6⟩ => ?_
   subst hr
   refine thn h6 λ _ s7 ⟨x, H7, I7, r7, y7, st7, fr7⟩ => ?_
   have I7' := I7.pinned (fpx fr7) (T.obj _ _ st7)
   refine thn (hg _ _ _ _ _ _ s7 σ5 H7 x u _ I7' r7 (step x H7 y7)) λ _ s8 ⟨σ8, H8, I8, q8⟩ => ?_
   refine thn (he _ _ _ _ _ _ s8 σ8 H8 _ I8 q8) λ xv s9 ⟨v, H9, I9, r9, q9⟩ => ?_
   obtain ⟨n', hn', w9⟩ := q9
   obtain ⟨e9, n9, l9, f9, _⟩ := I9.pin (acc, { cls := .type "list", data := .seq its.toArray kk }) (jA0 _ (jAr _ (.head _)))
   have hlen9 := rv.length
   refine call_meets F.slot_list_append ⟨_, e9, rfl⟩ F.entry_list_append (F.args_list_append_2 _ _) (PySem.list_append acc its.toArray kk xv (by rw [jA1]; omega)) ⟨e9, ?_⟩
   have q10 := PySem.IsL.update e9 (λ xs => xs.push xv)
   have ea : (its.toArray.push xv) = (its ++ [xv]).toArray := by simp
   rw [ea] at q10
   have I9' := I9.pins_of (pins' := qCg fp s7.heap) λ p hp => I9.pin p (jA0 _ (jA0 _ hp))
   have I10 : Inv (qAa X N' scope C s3 H2 (acc :: fp) (X.pn ++ pins)) (qCg fp s7.heap) σ8 H9 { s9 with heap := s9.heap.update acc (Obj.mapSeq λ xs => xs.push xv) } :=
    I9'.turned (t' := s9.toks) (it := acc) (λ b o hb e => (jB6 s9.heap _ (Ne.symm hb)).trans e) n9 (okx.exf acc (.head _)).1 (.inl (.head _)) (λ x c h => (okx.exf acc (.head _)).2 x c h) λ p hp => by
     have hp' : p ∈ (X.pn ++ pins) ++ qCg fp s7.heap := hp
     rcases jAq.mp hp' with z | z
     ·exact facc.2.2.2.2.2 p z
     ·exact jAf (hfp2 p.1 (qEg z).1)
   refine ⟨n', hn', i + 1, vs ++ [v], its ++ [xv], _, σ8, H9, I10.pins_of (pinOk n9 q10), rv.append (.cons r9 .nil), by rw [jB0, jCa]; omega, T.keep _ _ _ st7 λ b hb o eo => (I10.pin (b, o) (jA0 _ (qAz hb eo))).1, λ b hb => ?_, w9⟩
   obtain ⟨o, eo, d⟩ := T.obj _ _ st7 b hb
   exact (I10.pin (b, o) (jA0 _ (qAz hb eo))).2.1
 have whole := codeAny_compStart_list loop (T.self _ 0 _ _ _ st3 loop)
 subst hCe
 exact whole
end
section
variable {X : Cx} {N' : List Str} {scope : Scope}
theorem qLo (k : Nat) (O : qCl X.N X.env.scope N' scope) (hcal : X.calm = true) (hi : PI X tg iter wi)
  (hg : ∀ C s₃ H₃ ex pn, PG (qAa X N' scope C s₃ H₃ ex pn) tg g) (he : ∀ C s₃ H₃ ex pn, PE (qAa X N' scope C s₃ H₃ ex pn) elt te)
  (hlen : X.N.length + k = N'.length := by rfl) (hs : ∀ x, foldedSetIterable iter X.env x = pure x := by intro _; rfl) : PE X (.ListComp elt [⟨tg, iter, [], 0⟩] scope pos) (qNq wi g te k) := by
 intro pins s σ H Q I h
 rw [eval_ListComp]
 exact qJb (use := none) O hlen hcal hi hg he I h (λ C acc H' s' m J hn f q => ⟨m, hn, λ h' hs' => ⟨.ref acc, H', J.turned (t' := s'.toks) (λ b o hb e => (hs'.2 b hb).trans e) f.1 f.2.1 f.2.2.2.1 f.2.2.2.2.1 f.2.2.2.2.2, rfl, q⟩⟩) hs
theorem qJu (k : Nat) (O : qCl X.N X.env.scope N' scope) (hcal : X.calm = true) (hi : PI X tg iter wi)
  (hg : ∀ C s₃ H₃ ex pn, PG (qAa X N' scope C s₃ H₃ ex pn) tg g) (he : ∀ C s₃ H₃ ex pn, PE (qAa X N' scope C s₃ H₃ ex pn) elt te)
  (hN : X.N.Nodup) (hj : X.N[j]? = some y) (hy : X.env.scope.names.lookup y = some .local) (hsw : swapsWith (.ListComp elt [⟨tg, iter, [], 0⟩] scope pos) (some (.Name y py)) spos.line X.env = pure true)
  (hlen : X.N.length + k = N'.length := by rfl) (hs : ∀ x, foldedSetIterable iter X.env x = pure x := by intro _; rfl) : PS X (.Assign [.Name y py] (.ListComp elt [⟨tg, iter, [], 0⟩] scope pos) spos) (qW1 (qNq wi g te k) (qR4 j)) := by
 intro pins s σ H D I h
 rw [exec_Assign_Name_used _ _ _ _ hsw]
 refine wpAny_bind (wpAny_standAt (wpAny_bind ?_))
 show wpAny _ X.A (do let _ <- comprehension (.ListComp elt [⟨tg, iter, [], 0⟩] scope pos) scope X.env _ (newList []) false (eval iter X.env) (some (assign (.Name y py) X.env))) _ _ s
 refine wpAny_bind (wpAny_mono (qJb (use := some (assign (.Name y py) X.env)) (Qf := λ _ s' => SP X pins D .next s') O hlen hcal hi hg he I h (λ C acc H' s' m J hn f q => ?_) hs) (λ _ s' hq => wpAny_pure (wpAny_pure hq)) λ _ _ e => e)
 show wpAny _ X.A (assign (.Name y py) X.env (.ref acc)) _ _ _
 refine wpAny_assign_Name ?_
 refine qD6 J hN hj (.inl hy) (v := .ref acc) rfl (λ s2 J2 ⟨a, hsb, ha⟩ => ?_) (.inr hy)
 have haC : C ≠ a := by
  rcases ha with z | z
  ·rw [z]; exact f.2.1
  ·exact λ e => f.2.2.2.2.1 _ _ z e.symm
 exact ⟨m, hn.sameBut hsb haC, λ h' hs' => ⟨σ.set j (some (.ref acc)), H', J2.turned (t' := s2.toks) (λ b o hb e => (hs'.2 b hb).trans e) f.1 f.2.1 f.2.2.2.1 f.2.2.2.2.1 f.2.2.2.2.2, q⟩⟩
end
end Np
end
section
namespace Np
open PySem PySem.Spec PyProof.Rows L2
theorem qCr.more (h : qCr G H W δ σ) (k : Nat) : qCr G H W (δ ++ jBq k none) (σ ++ jBq k none) := by
 refine ⟨by simp [h.1], λ i d e => ?_⟩
 by_cases hi : i < δ.length
 ·rw [jBx hi] at e
  obtain ⟨v, e1, r⟩ := h.2 i d e
  exact ⟨v, by rw [jBx (h.1 ▸ hi)]; exact e1, r⟩
 ·rw [jBv (by omega), jBw] at e
  split at e <;> cases e
theorem qIh (h : qDa src g e n i δ S = some r) :
  (src.get S i = some none /\ r = .ok [] S) \/ ∃ x m, n = m + 1 /\ src.get S i = some (some x) /\ bnd (g x δ S) (qO4 e (qDa src g e m (i + 1))) = some r := by
 cases n with
 | zero =>
  unfold qDa at h
  split at h
  ·rename_i e
   exact .inl ⟨e, (Option.some.inj h).symm⟩
  ·cases h
 | succ n =>
  unfold qDa at h
  split at h
  ·rename_i e
   exact .inl ⟨e, (Option.some.inj h).symm⟩
  ·rename_i x e
   exact .inr ⟨x, n, rfl, e, h⟩
  ·cases h
section
variable {X : Cx} {E : XK} {N' : List Str} {scope : Scope}
theorem qHs : ∀ σ H Q, tF (gx X) E (qA1 gi k g ge) σ H Q -> qNq (tFI (gx X) E gi) (tFG (gx X) E0 g) (tF (gx X) E0 ge) k σ H Q := by
 intro σ H Q ⟨W, δ, rr, hS, hδ, hg, hA⟩
 refine Go.thn hS hδ hg hA λ src H1 W1 s1 hδ1 hg1 hA1 J hJ => ?_
 have q' : (if src.len W1.S <= 1000000 then bnd (qGa (qDa src g ge (src.len W1.S) 0 (δ ++ jBq k none) W1.S)) qWn else none) = some rr := hg1
 split at q'
 ·rename_i hsz
  rcases qAk q' with ⟨ds, S2, e2, q2⟩ | ⟨c, S2, e2, _⟩
  ·obtain ⟨ds', S2', e3, e4⟩ := qBk e2
   cases e4
   refine ⟨λ i n vs σ2 H2 => i + n = src.len W1.S /\ ∃ W2 δ2 ds1 ds2, Nxt (gx X) H1 W1 H2 W2 /\ qCr (gx X) H2 W2 δ2 σ2 /\ ds = ds1 ++ ds2 /\ ds1.length = i /\ qAl (gx X) H2 W2 ds1 vs /\ qDa src g ge n i δ2 W2.S = ok ds2 S2,
    ⟨src.len W1.S, by simp, W1, _, [], ds, .rfl s1.ok, hδ1.more k, rfl, rfl, rfl, e3⟩, ?_⟩
   rintro i n vs σ2 H2 ⟨hn, W2, δ2, ds1, ds2, s2, hδ2, hds, hl1, rl, hc⟩
   obtain ⟨w1, w2⟩ := hJ i H2 W2 s2
   rcases qIh hc with ⟨hend, hr⟩ | ⟨x, m, rfl, hx, hb⟩
   ·refine .inl ⟨w1 hend, λ p hp => ?_⟩
    cases hr
    rw [jBl] at hds
    subst hds
    exact qBq s2.ok q2 (hA1.nxt s2) rl hp
   ·obtain ⟨wg, wy⟩ := w2 x hx
    refine .inr ⟨wg, ?_, λ v H3 y => ?_⟩
    ·rw [<- rl.length, hl1]
     exact jAd (by omega) (sz hsz)
    ·obtain ⟨W3, e3', s3, rx⟩ := wy v H3 y
     rcases qAk hb with ⟨δ4, S4, e4, q4⟩ | ⟨c, S4, _, q4⟩
     ·refine ⟨W3, δ2, x, .ok δ4 S4, s3.ok, hδ2.mv (s3.mv s2.ok), rx, by rw [e3']; exact e4, λ H4 W4 eS4 s4 σ4 hδ4 => ?_⟩
      rcases qAk (show bnd (ge δ4 S4) (qC9 (qDa src g ge m (i + 1)) δ4) = some (Rs.ok ds2 S2) from q4) with ⟨d, S5, e5, q5⟩ | ⟨c, S5, _, q5⟩
      ·refine ⟨W4, δ4, .ok d S5, s4.ok, hδ4, by rw [eS4]; exact e5, λ H5 W5 eS5 s5 v' rv => ?_⟩
       rcases qAk (show bnd (qDa src g ge m (i + 1) δ4 S5) (consK d) = some (Rs.ok ds2 S2) from q5) with ⟨ds3, S6, e6, q6⟩ | ⟨c, S6, _, q6⟩
       ·have q6' : Rs.ok (d :: ds3) S6 = Rs.ok ds2 S2 := Option.some.inj q6
        cases q6'
        refine ⟨m, jBj m, by omega, W5, δ4, ds1 ++ [d], ds3, ((s2.trans s3).trans s4).trans s5, hδ4.mv (s5.mv s4.ok), by rw [hds]; simp, by simp [hl1], ?_, by rw [eS5]; exact e6⟩
        exact (rl.mv (((s3.trans s4).trans s5).mv s2.ok)).append (qAl.one rv)
       ·cases q6
      ·cases q5
     ·cases q4
  ·obtain ⟨_, _, _, z⟩ := qBk e2
   cases z
 ·cases q'
theorem qRi (k : Nat) (O : qCl X.N X.env.scope N' scope) (hcal : X.calm = true) (hi : PDI X E tg iter gi)
  (hg : ∀ C s₃ H₃ ex pn, PDG (qAa X N' scope C s₃ H₃ ex pn) E0 tg g) (he : ∀ C s₃ H₃ ex pn, PDE (qAa X N' scope C s₃ H₃ ex pn) E0 elt ge)
  (hlen : X.N.length + k = N'.length := by rfl) (hs : ∀ x, foldedSetIterable iter X.env x = pure x := by intro _; rfl) : PDE X E (.ListComp elt [⟨tg, iter, [], 0⟩] scope pos) (qA1 gi k g ge) := by
 first
 | exact (
  PE.imp (qLo (g := tFG (gx X) E0 g) (te := tF (gx X) E0 ge) k O hcal hi hg he hlen hs) qHs)
 | ((try unfold PDE at *); (try unfold PDG at *); (try unfold PDI at *); exact (
  PE.imp (qLo (g := tFG (gx X) E0 g) (te := tF (gx X) E0 ge) k O hcal hi hg he hlen hs) qHs))
theorem qJy (j : Nat) (k : Nat) (O : qCl X.N X.env.scope N' scope) (hcal : X.calm = true) (hi : PDI X E tg iter gi)
  (hg : ∀ C s₃ H₃ ex pn, PDG (qAa X N' scope C s₃ H₃ ex pn) E0 tg g) (he : ∀ C s₃ H₃ ex pn, PDE (qAa X N' scope C s₃ H₃ ex pn) E0 elt ge)
  (hN : X.N.Nodup) (hj : X.N[j]? = some y := by rfl) (hy : X.env.scope.names.lookup y = some .local := by rfl) (hsw : swapsWith (.ListComp elt [⟨tg, iter, [], 0⟩] scope pos) (some (.Name y py)) spos.line X.env = pure true := by rfl)
  (hlen : X.N.length + k = N'.length := by rfl) (hs : ∀ x, foldedSetIterable iter X.env x = pure x := by intro _; rfl) : PDS X E (.Assign [.Name y py] (.ListComp elt [⟨tg, iter, [], 0⟩] scope pos) spos) (setS j (qA1 gi k g ge)) := by
 try unfold PDE at *
 try unfold PDS at *
 try unfold PDG at *
 try unfold PDI at *
 refine PS.imp (qJu (g := tFG (gx X) E0 g) (te := tF (gx X) E0 ge) k O hcal hi hg he hN hj hy hsw hlen hs) λ D σ H ⟨W, δ, rr, hS, hδ, hg', hA⟩ => ?_
 refine qHs σ H _ (Go.thn hS hδ hg' hA λ d H1 W1 s1 hδ1 hg1 hA1 v rv => ?_)
 obtain rfl : Rs.ok (Fl.nx (δ.set j (some d))) W1.S = rr := Option.some.inj hg1
 exact hA1.now s1.ok _ (hδ1.set j rv)
end
def Itz (K : PySem.W.Frag) (a b : Addr) : It :=
  ⟨λ i H => ∃ xs ys x y, SqL K H a xs /\ SqL K H b ys /\ xs[i]? = some x /\ ys[i]? = some y,
   λ i H v H' => ∃ p x y, v = .ref p /\ H p = none /\ H' = upd H p (.tup [x, y]) /\ (∀ xs, SqL K H a xs -> xs[i]? = some x) /\ ∀ ys, SqL K H b ys -> ys[i]? = some y,
   λ i H => ∃ xs ys, SqL K H a xs /\ SqL K H b ys /\ (xs.length <= i \/ ys.length <= i)⟩
theorem Inv.moved {X : Cx} {pins : List (Addr × Obj)} {σ : L2.St} {H : Hp} {s : Shared} {h' : Heap} {t' : Nat} {ch : List Addr} {p : Addr} {o : HO} (I : Inv X pins σ H s) (hch : ∀ b ∈ ch, qFi X pins H b) (k : ∀ b u, b ∉ ch -> s.heap.get? b = some u -> h'.get? b = some u) (hp : s.heap.objs.size <= p)
  (new : qA9 X.prog X.w (upd H p o) h' p o) : Inv X pins σ (upd H p o) { s with heap := h', toks := t' } := by
 have hn : H p = none := I.hok.fresh hp
 have nch : ∀ b u, H b = some u -> b ∉ ch := λ b u e z => by rw [(hch b z).1] at e; cases e
 have ne : ∀ b u, H b = some u -> b ≠ p := λ b u q => qAd q hn
 refine I.step (g' := s.gens) (d' := s.drawn) (ch := ch) (λ b hb => ⟨(hch b hb).2.2.2.1, (hch b hb).2.1, (hch b hb).2.2.2.2.1, (hch b hb).2.2.2.2.2⟩) (λ b u _ _ hc e _ => k b u hc e) (λ b u _ _ hc e _ => ⟨u.slots, k b u hc e⟩)
  (λ b u hc e n => by rw [zN (jAf (jAd (jAc e) hp))]; exact n) (λ b u hc e => ⟨u, k b u hc e⟩)
  (λ b xs q => by rw [zN (ne b _ q)]; exact q) (λ b u v q => by rw [zN (ne b _ q)]; exact q) (λ b ps q => ⟨#[], by rw [zN (ne b _ q), q]; simp⟩) (λ m hm => ?_) (λ b u q => ?_) I.bare
 ·obtain ⟨ob, es, ep, ho, r⟩ := hm
  refine ⟨ob, es, ep, k _ ob (λ z => (hch _ z).2.1 rfl) ho, r⟩
 ·by_cases hb : b = p
  ·subst hb
   rw [zT] at q
   cases q
   exact new
  ·rw [zN hb] at q
   refine (I.hok b u q).stay (λ c v hc z => k c v ?_ z) (λ c z => by rw [zN (ne c _ z)]; exact z) λ c xs z => by rw [zN (ne c _ z)]; exact z
   rcases hc with rfl | hc
   ·exact nch _ _ q
   ·exact nch _ _ hc
theorem qIn {P : Program} {w : World} {K : PySem.W.Frag} {elts : List Expr} {x1 : Nat} {tpos : Pos} {z TI TO i1 i2 l1 l2 : Addr} (D : ZipApart z TI TO i1 i2 l1 l2) :
  qWb P w K (.Tuple elts x1 tpos) (Itz K l1 l2) [z, TI, TO, i1, i2] z (λ i h => IsZip h z TI TO .none /\ IsPair h TI (.ref i1) (.ref i2) /\ (∃ a b, IsPair h TO a b) /\ h.IsListIter i1 l1 i /\ h.IsListIter i2 l2 i) where
 mem := by simp
 obj := λ i h st b hb => by
  obtain ⟨hz, hTI, ⟨u, v, hTO⟩, h1, h2⟩ := st
  simp only [jAp, jCq, or_false] at hb
  rcases hb with rfl | rfl | rfl | rfl | rfl
  ·exact ⟨_, hz, λ v q => by cases q⟩
  ·exact ⟨_, hTI, λ v q => by cases q⟩
  ·exact ⟨_, hTO, λ v q => by cases q⟩
  ·obtain ⟨o, e, c, d⟩ := h1
   exact ⟨o, e, λ v q => by rw [d] at q; cases q⟩
  ·obtain ⟨o, e, c, d⟩ := h2
   exact ⟨o, e, λ v q => by rw [d] at q; cases q⟩
 keep := λ i h h' st k => by
  obtain ⟨hz, hTI, ⟨u, v, hTO⟩, h1, h2⟩ := st
  exact ⟨k z (by simp) _ hz, k TI (by simp) _ hTI, ⟨u, v, k TO (by simp) _ hTO⟩, h1.at λ o e => k i1 (by simp) o e, h2.at λ o e => k i2 (by simp) o e⟩
 item := by
  intro X hP hw hK hc i pins s σ H E I hf st hg
  subst hP hw hK
  obtain ⟨hz, hTI, ⟨u, v, hTO⟩, h1, h2⟩ := st
  obtain ⟨xs, ys, x, y, hqx, hqy, hx, hy⟩ := hg
  obtain ⟨its, rx, px, zx⟩ := I.list hqx
  obtain ⟨jts, ry, py, zy⟩ := I.list hqy
  obtain ⟨ux, hux, rux⟩ := rx.get hx
  obtain ⟨uy, huy, ruy⟩ := ry.get hy
  refine wpAny_pyNext_zip_item D hz hTI hTO h1 h2 px.isList py.isList (x := ux) (y := uy) (by simpa using hux) (by simpa using huy) λ h' a1 a2 a3 a4 a5 a6 hk => ?_
  refine ⟨_, rfl, wpAny_letOwnedTupleGo_zip a1 λ h'' hz' hs' => ?_⟩
  have hTn : s.heap.objs.size ≠ z := jAw (jAc hz)
  have kk : ∀ b o, b ∉ [z, TI, TO, i1, i2] -> s.heap.get? b = some o -> h''.get? b = some o := λ b o hb e => by
   simp only [jAp, jCq, or_false, not_or] at hb
   exact hs'.extBut _ _ hb.1 (hk b o hb.1 hb.2.2.1 hb.2.2.2.1 hb.2.2.2.2 e)
  have hp5 : IsPair h'' s.heap.objs.size ux uy := hs'.extBut _ _ hTn a5
  have new : qA9 X.prog X.w (upd H s.heap.objs.size (.tup [x, y])) h'' s.heap.objs.size (.tup [x, y]) := ⟨by show 2 <= sizeLine; decide, [ux, uy], .cons rux (.cons ruy .nil), ⟨_, hp5, rfl, _, rfl⟩⟩
  have I5 := Inv.moved (s := s) (h' := h'') (t' := s.toks) I hf kk (jAy _) new
  refine ⟨.ref s.heap.objs.size, upd H s.heap.objs.size (.tup [x, y]), I5, rfl, ⟨s.heap.objs.size, x, y, rfl, I.hok.fresh (jAy _), rfl, λ ws hws => by rw [I.list_inj hws hqx]; exact hx, λ ws hws => by rw [I.list_inj hws hqy]; exact hy⟩, ?_, λ b hb => ?_⟩
  ·exact ⟨hz', hs'.extBut _ _ D.TIz (hk _ _ D.TIz D.TITO D.TIi1 D.TIi2 hTI), ⟨_, _, hs'.extBut _ _ D.TOz a2⟩, a3.extBut hs'.extBut D.i1z, a4.extBut hs'.extBut D.i2z⟩
  ·have hlt : b < s.heap.objs.size := by
    simp only [jAp, jCq, or_false] at hb
    rcases hb with rfl | rfl | rfl | rfl | rfl
    ·exact jAc hz
    ·exact jAc hTI
    ·exact jAc hTO
    ·obtain ⟨o, e, _⟩ := h1; exact jAc e
    ·obtain ⟨o, e, _⟩ := h2; exact jAc e
   rw [zN (jAf hlt)]
   exact (hf b hb).1
 done := by
  intro X hP hw hK hc i pins s σ H E I hf st hg
  subst hP hw hK
  obtain ⟨hz, hTI, ⟨u, v, hTO⟩, h1, h2⟩ := st
  obtain ⟨xs, ys, hqx, hqy, hend⟩ := hg
  obtain ⟨its, rx, px, zx⟩ := I.list hqx
  obtain ⟨jts, ry, py, zy⟩ := I.list hqy
  have lx := rx.length
  have ly := ry.length
  refine wpAny_pyNext_zip_end (I.ok.hd hc) D hz hTI hTO h1 h2 px.isList py.isList (by
   rcases hend with z | z
   ·exact .inl (by simp; omega)
   ·exact .inr (by simp; omega)) λ h' hk => ⟨rfl, ?_⟩
  have nch : ∀ b u, H b = some u -> b ∉ [z, TI, TO, i1, i2] := λ b u e zz => by rw [(hf b zz).1] at e; cases e
  have kk : ∀ b o, b ∉ [z, TI, TO, i1, i2] -> s.heap.get? b = some o -> h'.get? b = some o := λ b o hb e => by
   simp only [jAp, jCq, or_false, not_or] at hb
   exact hk b o hb.1 hb.2.2.1 hb.2.2.2.1 hb.2.2.2.2 e
  refine I.step (g' := s.gens) (d' := s.drawn) (t' := s.toks) (ch := [z, TI, TO, i1, i2]) (λ b hb => ⟨(hf b hb).2.2.2.1, (hf b hb).2.1, (hf b hb).2.2.2.2.1, (hf b hb).2.2.2.2.2⟩) (λ b u _ _ hc e _ => kk b u hc e) (λ b u _ _ hc e _ => ⟨u.slots, kk b u hc e⟩)
   (λ _ _ _ _ n => n) (λ b u hc e => ⟨u, kk b u hc e⟩) (λ _ _ q => q) (λ _ _ _ q => q) (λ b ps q => ⟨#[], by rw [q]; simp⟩) (λ m hm => ?_) (λ b u q => ?_) I.bare
  ·obtain ⟨ob, es, ep, ho, r⟩ := hm
   exact ⟨ob, es, ep, kk _ ob (λ z => (hf _ z).2.1 rfl) ho, r⟩
  ·refine (I.hok b u q).stay (λ c v hc zz => kk c v ?_ zz) (λ c zz => zz) λ c xs zz => zz
   rcases hc with rfl | hc
   ·exact nch _ _ q
   ·exact nch _ _ hc
 self := λ _ _ _ _ _ st h => wpAny_pyIter_zip st.1 h
section
variable {X : Cx} {E : XK}
def qZf (K : PySem.W.Frag) (ta : TA) : TI := λ σ H R => ta σ H λ vs H1 => ∃ a b, vs = [.ref a, .ref b] /\ (∃ xs, SqL K H1 a xs) /\ (∃ ys, SqL K H1 b ys) /\ R (Itz K a b) H1
theorem qJf : bootBuiltins "zip" = some (.type "zip") := by decide +kernel
theorem qTt {a b : Expr} {ta : TA} {p pos tpos : Pos} {elts : List Expr} {x1 : Nat} (hg : Gl X "zip") (hm : X.mg "zip" = none) (ha : PA X [a, b] ta) (hs : starEach [a, b] X.env = (false, eval a X.env) :: starEach [b] X.env) (hs2 : (backTo pos (starEach [b] X.env)).any (·.1) = false) :
  PI X (.Tuple elts x1 tpos) (.Call (.Name "zip" p) [a, b] [] pos) (qZf X.K ta) := by
 intro pins s σ H R I h
 refine Call_ (qEp I hg hm qJf (PyProof.Rows.callWith_type1 (thn (ha pos pins s σ H _ I h) λ us s1 ⟨vs, H1, I1, r1, q1⟩ => ?_) hs hs2))
 obtain ⟨l1, l2, e, ⟨xs, hqx⟩, ⟨ys, hqy⟩, q⟩ := q1
 subst e
 obtain ⟨u, v, rfl, ru, rv⟩ := qAn.two r1
 cases ru
 cases rv
 obtain ⟨its, rx, px, zx⟩ := I1.list hqx
 obtain ⟨jts, ry, py, zy⟩ := I1.list hqy
 refine call_zip_2 px.isList py.isList λ h' a1 a2 a3 a4 a5 a6 hk => wpAny_pyIter_zip a1 ?_
 have I2 : Inv X pins σ H1 { s1 with heap := h' } := I1.kept (t' := s1.toks) hk
 have lt1 : l1 < s1.heap.objs.size := by obtain ⟨o, e, _⟩ := px.isList; exact jAc e
 have lt2 : l2 < s1.heap.objs.size := by obtain ⟨o, e, _⟩ := py.isList; exact jAc e
 generalize hn : s1.heap.objs.size = n at *
 have w1 : ∀ m : Nat, n <= m -> l1 ≠ m := λ m h => jAf (jAd lt1 h)
 have w2 : ∀ m : Nat, n <= m -> l2 ≠ m := λ m h => jAf (jAd lt2 h)
 have D : ZipApart (n + 4) (n + 2) (n + 3) n (n + 1) l1 l2 := by
  constructor <;> first
   | exact w1 _ (by show (_ : Nat) <= _; omega)
   | exact w2 _ (by show (_ : Nat) <= _; omega)
   | (show (_ : Nat) ≠ _; omega)
 refine ⟨n + 4, [n + 4, n + 2, n + 3, n, n + 1], _, _, H1, rfl, I2, qIn D, ⟨a1, a2, ⟨_, _, a3⟩, a4, a5⟩, λ b hb => ?_, q⟩
 have hb' : n <= b := by
  simp only [jAp, jCq, or_false] at hb
  rcases hb with rfl | rfl | rfl | rfl | rfl <;> (show (_ : Nat) <= _; omega)
 exact I1.fpOk (by rw [hn]; exact hb') (I1.hok.fresh (by rw [hn]; exact hb'))
theorem qIm (h : (Src.two a b).get S i = some o) : ∃ ds es, zH S a = some ds /\ zH S b = some es /\ qP7 ds[i]? es[i]? = o := by
 have h' : (match zH S a, zH S b with | some xs, some ys => some (qP7 xs[i]? ys[i]?) | _, _ => none) = some o := h
 cases q : zH S a with
 | none => rw [q] at h'; cases h'
 | some ds =>
  cases q2 : zH S b with
  | none => rw [q, q2] at h'; cases h'
  | some es => rw [q, q2] at h'; exact ⟨ds, es, rfl, rfl, Option.some.inj h'⟩
theorem qKr (h : qP7 x y = some d) : ∃ u v, x = some u /\ y = some v /\ d = .tup [u, v] := by
 cases x with
 | none => cases h
 | some u =>
  cases y with
  | none => cases h
  | some v => exact ⟨u, v, rfl, rfl, (Option.some.inj h).symm⟩
theorem qKs (h : qP7 x y = none) : x = none \/ y = none := by
 cases x with
 | none => exact .inl rfl
 | some u =>
  cases y with
  | none => exact .inr rfl
  | some v => cases h
theorem qGf (ha : a < W.S.length) (hb : b < W.S.length) : Walks G (Itz G.K (W.μ a) (W.μ b)) H W (.two a b) := λ i H1 W1 s1 => by
 refine ⟨λ h => ?_, λ d hd => ?_⟩
 ·obtain ⟨ds, es, ea, eb, hn⟩ := qIm h
  obtain ⟨xs, _, qx, rx⟩ := s1.ok.lst (v := .ref (W1.μ a)) ⟨jAd ha s1.len, rfl⟩ ea
  obtain ⟨ys, _, qy, ry⟩ := s1.ok.lst (v := .ref (W1.μ b)) ⟨jAd hb s1.len, rfl⟩ eb
  rw [s1.old a ha] at qx
  rw [s1.old b hb] at qy
  refine ⟨xs, ys, .inl (.inl qx), .inl (.inl qy), ?_⟩
  rcases qKs hn with h | h
  ·exact .inl (by rw [<- rx.length]; exact jCf.mp h)
  ·exact .inr (by rw [<- ry.length]; exact jCf.mp h)
 ·obtain ⟨ds, es, ea, eb, hn⟩ := qIm hd
  obtain ⟨xs, _, qx, rx⟩ := s1.ok.lst (v := .ref (W1.μ a)) ⟨jAd ha s1.len, rfl⟩ ea
  obtain ⟨ys, _, qy, ry⟩ := s1.ok.lst (v := .ref (W1.μ b)) ⟨jAd hb s1.len, rfl⟩ eb
  rw [s1.old a ha] at qx
  rw [s1.old b hb] at qy
  obtain ⟨u, v, hu, hv, rfl⟩ := qKr hn
  obtain ⟨vx, ex, rvx⟩ := rx.get hu
  obtain ⟨vy, ey, rvy⟩ := ry.get hv
  refine ⟨⟨xs, ys, vx, vy, .inl (.inl qx), .inl (.inl qy), ex, ey⟩, λ z H3 hz => ?_⟩
  obtain ⟨p, x', y', rfl, hp, rfl, k1, k2⟩ := hz
  have e1 := k1 xs (.inl (.inl qx))
  have e2 := k2 ys (.inl (.inl qy))
  rw [ex] at e1
  rw [ey] at e2
  cases e1
  cases e2
  have sn := Nxt.heap s1.ok hp (HO.tup [vx, vy])
  exact ⟨W1, rfl, sn, p, _, rfl, SqT.of zT, ⟨vx, _, rfl, rvx.mv (sn.mv s1.ok), ⟨vy, _, rfl, rvy.mv (sn.mv s1.ok), rfl⟩⟩⟩
theorem qQ0 (hg : Gl X "zip") (hm : X.mg "zip" = none) (ha : PDE X E a ga) (hb : PDE X E b gb) (hs : starEach [a, b] X.env = (false, eval a X.env) :: starEach [b] X.env := by rfl) (hs2 : (backTo pos (starEach [b] X.env)).any (·.1) = false := by rfl)
  (hst2 : starEach (b :: []) X.env = (false, eval b X.env) :: starEach [] X.env := by rfl) : PDI X E (.Tuple elts x1 tpos) (.Call (.Name "zip" p) [a, b] [] pos) (itA qGd (zZ ga (zZ gb aNil))) := by
 try unfold PDE
 try unfold PDI at *
 intro pins s σ H R I ⟨W, δ, rr, hS, hδ, hg', hA⟩
 refine qTt hg hm (zB ha (zB hb zE hst2) hs).o hs hs2 pins s σ H R I (Go.thn hS hδ hg' hA λ ds H1 W1 s1 hδ1 hg1 hA1 vs rv => ?_)
 unfold qGd at hg1
 split at hg1
 ·rename_i a b
  split at hg1
  ·rename_i xs ys ea eb
   obtain rfl : Rs.ok (Src.two a b) W1.S = rr := Option.some.inj hg1
   obtain ⟨v, r, e, rx, t⟩ := rv
   obtain ⟨v2, r2, e2, ry, t2⟩ := t
   have t2 : r2 = [] := t2
   obtain ⟨us, eu, qu, _⟩ := s1.ok.lst rx ea
   obtain ⟨ws, ew, qw, _⟩ := s1.ok.lst ry eb
   subst e e2 eu ew t2
   exact ⟨_, _, rfl, ⟨us, .inl (.inl qu)⟩, ⟨ws, .inl (.inl qw)⟩, hA1.now s1.ok _ (qGf rx.1 ry.1)⟩
  ·cases hg1
 ·cases hg1
end
end Np
end
section
namespace Np
open PySem PySem.Spec PyProof.Rows L2
theorem qQn (hS : qB0 G H W) (ha : a < W.S.length) (hA : qBn G E H W (.ok D.non (W.S.set a (.lst ds))) (VP G Q)) (rl : qAl G H W ds vs) : Q .non (upd H (W.μ a) (.lst vs)) :=
 hA _ (W.put a (.lst ds)) rfl (Nxt.write hS ha ⟨vs, zT, rl.mv (Mv.put hS ha _ _)⟩) .non rfl
section
variable {X : Cx} {E : XK} {o e e2 : Expr} {go ge ge2 : DE} {apos cpos : Pos}
theorem qOy (h : isL x S = true) : ∃ a xs, x = .ref a /\ zH S a = some xs := by
 cases x with
 | ref a =>
  have h : (zH S a).isSome = true := h
  obtain ⟨xs, e⟩ := jBs.mp h
  exact ⟨a, xs, rfl, e⟩
 | _ => cases h
theorem qNn {K : PySem.W.Frag} {H : Hp} {p : Addr} {xs : List V} (h : H p = some (.lst xs)) : tyV K "list" (.ref p) H := .inl ⟨rfl, xs, .inl (.inl h)⟩
theorem qHr (hf : ∀ (E : XK) (H : Hp) (W : Wd) (x y : V) (dx dy : D) (Q : VK) (rr : Rs D), qB0 (gx X) H W -> Rep (gx X) H W dx x -> Rep (gx X) H W dy y -> f dx dy W.S = some rr -> qBn (gx X) E H W rr (VP (gx X) Q) -> r x [y] H Q) :
  ∀ σ H Q, tF (gx X) E (opM f go ge) σ H Q -> tBM X.K "list" r (tF (gx X) E go) (tFA (gx X) E (zZ ge aNil)) σ H Q := by
 intro σ H Q ⟨W, δ, rr, hS, hδ, hg, hA⟩
 refine Go.thn hS hδ hg hA λ dx H1 W1 s1 hδ1 hg1 hA1 x rx => ?_
 unfold qWk at hg1
 split at hg1
 ·rename_i hl
  obtain ⟨a, xs, rfl, el⟩ := qOy hl
  obtain ⟨us, ex, hq, rl⟩ := s1.ok.lst rx el
  subst ex
  refine ⟨qNn hq, ?_⟩
  rcases qAk hg1 with ⟨dy, S2, e2, q2⟩ | ⟨c, S2, e2, q2⟩
  ·refine ⟨W1, δ, .ok [dy] S2, s1.ok, hδ1, by show bnd (ge δ W1.S) (aConsK aNil δ) = _; rw [e2]; rfl, λ H2 W2 eS s2 vs rvs => ?_⟩
   obtain ⟨y, r', rfl, ry, t⟩ := rvs
   have t : r' = [] := t
   subst t
   subst eS
   exact hf E H2 W2 _ y (.ref a) dy Q rr s2.ok (Rep.mv (s2.mv s1.ok) rx) ry q2 (hA1.nxt s2)
  ·subst q2
   exact ⟨W1, δ, .er c S2, s1.ok, hδ1, by show bnd (ge δ W1.S) (aConsK aNil δ) = _; rw [e2]; rfl, hA1⟩
 ·cases hg1
theorem qGz (E : XK) (H : Hp) (W : Wd) (x y : V) (dx dy : D) (Q : VK) (rr : Rs D) (hS : qB0 (gx X) H W) (rx : Rep (gx X) H W dx x) (ry : Rep (gx X) H W dy y) (e : qFg dx dy W.S = some rr) (hA : qBn (gx X) E H W rr (VP (gx X) Q)) : qLa x [y] H Q := by
 unfold qFg at e
 split at e
 ·rename_i a
  split at e
  ·rename_i xs hx
   split at e
   ·rename_i hl
    obtain rfl : Rs.ok D.non (W.S.set a (.lst (xs ++ [dy]))) = rr := Option.some.inj e
    obtain ⟨us, ex, hq, rl⟩ := hS.lst rx hx
    exact ⟨_, us, y, ex, rfl, hq, by rw [<- rl.length]; exact jAd hl (sz (jAy _)), qQn hS rx.1 hA (rl.append (qAl.one ry))⟩
   ·cases e
  ·cases e
 ·cases e
theorem qLw (ho : PDE X E o go) (he : PDE X E e ge) (hbase : attributeBase o "append" X.env (eval o X.env) = eval o X.env := by rfl)
  (hfew : ((backTo cpos (starEach (e :: []) X.env)).all (λ x => !x.1) && (backToKw cpos (keywordEach [] X.env)).all (λ x => x.1.isSome) && decide ((e :: []).length + ([] : List Keyword).length + (if ([] : List Keyword).isEmpty then 0 else 1) < 30)) = true := by rfl)
  (hline : (apos.endLine == cpos.line) = true := by rfl) (hs : starEach (e :: []) X.env = (false, eval e X.env) :: starEach [] X.env := by rfl) (hplain : (backTo cpos (starEach [] X.env)).any (·.1) = false := by rfl) :
  PDE X E (.Call (.Attribute o "append" apos) [e] [] cpos) (opM qFg go ge) := by
 first
 | exact (
  PE.imp (qQy PySem.F.plainAttrs_list PySem.F.slot_list_append PySem.F.type_list_append qGy ho.o (zB he zE hs).o hbase hfew hline hs hplain) (qHr qGz))
 | ((try unfold PDE); exact (
  PE.imp (qQy PySem.F.plainAttrs_list PySem.F.slot_list_append PySem.F.type_list_append qGy ho.o (zB he zE hs).o hbase hfew hline hs hplain) (qHr qGz)))
def tFO (G : Gx) (E : XK) (g : DO) : TO := λ σ H Q => Go G E g (λ i H' _ => Q i H') σ H
@[irreducible] def PDO (X : Cx) (E : XK) (e : Option Expr) (g : DO) : Prop := PO X e (tFO (gx X) E g)
theorem PO.imp {X : Cx} {e : Option Expr} {t t' : TO} (h : PO X e t) (hi : ∀ σ H Q, t' σ H Q -> t σ H Q) : PO X e t' := λ pins s σ H Q I q => h pins s σ H Q I (hi σ H Q q)
theorem qT6 : PDO X E none noP := by
 first
 | exact (
  PO.imp qLi λ σ H Q ⟨W, δ, rr, hS, hδ, hg, hA⟩ => by
   obtain rfl : Rs.ok none W.S = rr := Option.some.inj hg
   exact hA.now hS)
 | ((try unfold PDO at *); exact (
  PO.imp qLi λ σ H Q ⟨W, δ, rr, hS, hδ, hg, hA⟩ => by
   obtain rfl : Rs.ok none W.S = rr := Option.some.inj hg
   exact hA.now hS))
theorem qT7 (he : PDE X E e ge) : PDO X E (some e) (atP ge) := by
 first
 | exact (
  PO.imp (qLh he) λ σ H Q ⟨W, δ, rr, hS, hδ, hg, hA⟩ => by
   refine Go.thn hS hδ hg hA λ d H1 W1 s1 hδ1 hg1 hA1 v rv => ?_
   cases d with
   | int i =>
    obtain rfl : Rs.ok (some i) W1.S = rr := Option.some.inj hg1
    exact ⟨i, rv, hA1.now s1.ok⟩
   | _ => cases hg1)
 | ((try unfold PDE at *); (try unfold PDO at *); exact (
  PO.imp (qLh he) λ σ H Q ⟨W, δ, rr, hS, hδ, hg, hA⟩ => by
   refine Go.thn hS hδ hg hA λ d H1 W1 s1 hδ1 hg1 hA1 v rv => ?_
   cases d with
   | int i =>
    obtain rfl : Rs.ok (some i) W1.S = rr := Option.some.inj hg1
    exact ⟨i, rv, hA1.now s1.ok⟩
   | _ => cases hg1))
theorem qAl.cut (h : qAl G H W ds vs) (lo hi : Option Int) : qAl G H W (qIf ds lo hi) (qPx vs lo hi) := by
 have e : ∀ (n d : Nat) (o : Option Int), qPi n d o = HT.sIx n d o := λ n d o => by cases o <;> rfl
 unfold qIf qPx
 rw [e, e, h.length]
 exact (h.drop _).take _
theorem qN9 {lo hi : Option Expr} {gl gh : DO} {p2 pos : Pos} (he : PDE X E e ge) (hl : PDO X E lo gl) (hh : PDO X E hi gh) : PDE X E (.Subscript e (.Slice lo hi none p2) pos) (slE ge gl gh) := by
 try unfold PDE at *
 try unfold PDO at *
 refine PE.imp (qN2 (SlR.or qQd qTc) he hl hh) λ σ H Q ⟨W, δ, rr, hS, hδ, hg, hA⟩ => ?_
 refine Go.thn hS hδ hg hA λ dx H1 W1 s1 hδ1 hg1 hA1 x rx => ?_
 refine Go.thn s1.ok hδ1 hg1 hA1 λ l H2 W2 s2 hδ2 hg2 hA2 => ?_
 refine Go.thn s2.ok hδ2 hg2 hA2 λ h H3 W3 s3 hδ3 hg3 hA3 => ?_
 have rx3 := Rep.mv ((s2.trans s3).mv s1.ok) rx
 have hg3 : slD dx l h W3.S = some rr := hg3
 unfold slD at hg3
 split at hg3
 ·split at hg3
  ·rename_i xs hx
   obtain ⟨us, ex, hq, rl⟩ := s3.ok.lst rx3 hx
   exact .inl ⟨_, us, ex, .inl (.inl hq), λ p hp => qBq s3.ok hg3 hA3 (rl.cut l h) hp⟩
  ·cases hg3
 ·rename_i xs
  obtain ⟨a, us, ex, q, rl⟩ := rx3
  exact .inl ⟨a, us, ex, q.sq, λ p hp => qBq s3.ok hg3 hA3 (rl.cut l h) hp⟩
 ·rename_i xs _
  obtain ⟨a, us, ex, q, rl⟩ := rx3
  split at hg3
  ·cases hg3
  ·rename_i hw
   obtain rfl : Rs.ok (D.tup (qIf xs l h)) W3.S = rr := Option.some.inj hg3
   have e : ∀ (n d : Nat) (o : Option Int), qPi n d o = HT.sIx n d o := λ n d o => by cases o <;> rfl
   rw [e, e, rl.length] at hw
   exact .inr ⟨a, us, ex, q, hw, λ p hp => hA3 _ W3 rfl (Nxt.heap s3.ok hp _) _ ⟨p, _, rfl, SqT.of zT, (rl.cut l h).mv (Mv.heap hp _)⟩⟩
 ·cases hg3
theorem qQ2 (ho : PDE X E o go) (he : PDE X E e ge)
  (ha : ∀ v, assign (.Subscript o e pos) X.env v = (do
   let ov <- holding [v] (eval o X.env)
   let iv <- holding [v, ov] (eval e X.env)
   standAt pos
   holding [v, ov, iv] (setItem ov iv v)
   release [v, ov, iv] []) := by intro _; rfl) : PDG X E (.Subscript o e pos) (qGl go ge) := by
 try unfold PDE at *
 try unfold PDG at *
 intro pins s σ H v u Q I rv h
 obtain ⟨W, δ, d, rr, hS, hδ, hd, hg, hA⟩ := h
 refine qTv ho he qNr ha pins s σ H v u Q I rv ?_
 refine Go.thn hS hδ hg hA λ dx H1 W1 s1 hδ1 hg1 hA1 x rx => ?_
 refine Go.thn s1.ok hδ1 hg1 hA1 λ di H2 W2 s2 hδ2 hg2 hA2 i ri => ?_
 have rx2 := Rep.mv (s2.mv s1.ok) rx
 have rd2 := Rep.mv (((s1.trans s2)).mv hS) hd
 unfold qK4 at hg2
 split at hg2
 ·rename_i a j
  split at hg2
  ·rename_i xs hx
   split at hg2
   ·rename_i k hk
    obtain rfl : Rs.ok δ (W2.S.set a (.lst (xs.set k d))) = rr := Option.some.inj hg2
    obtain ⟨us, ex, hq, rl⟩ := s2.ok.lst rx2 hx
    refine ⟨_, us, j, k, ex, ri, hq, by rw [<- rl.length]; exact hk, ?_⟩
    have nx : Nxt (gx X) H2 W2 (upd H2 (W2.μ a) (.lst (us.set k v))) (W2.put a (.lst (xs.set k d))) := Nxt.write s2.ok rx2.1 ⟨_, zT, (rl.set rd2 k).mv (Mv.put s2.ok rx2.1 _ _)⟩
    exact hA2 _ _ rfl nx σ (hδ2.mv (nx.mv s2.ok))
   ·cases hg2
  ·cases hg2
 ·cases hg2
variable {a b c : Expr} {ga gb gc : DE} {pos : Pos}
theorem qDx (hf : OpD (gx X) r f) (hf' : OpD (gx X) r' f') : ∀ σ H Q, tF (gx X) E (chn f f' ga gb gc) σ H Q -> qK2 r r' (tF (gx X) E ga) (tF (gx X) E gb) (tF (gx X) E gc) σ H Q := by
 intro σ H Q ⟨W, δ, rr, hS, hδ, hg, hA⟩
 refine Go.thn hS hδ hg hA λ dx H1 W1 s1 hδ1 hg1 hA1 x rx => ?_
 refine Go.thn s1.ok hδ1 hg1 hA1 λ dy H2 W2 s2 hδ2 hg2 hA2 y ry => ?_
 have rx2 := Rep.mv (s2.mv s1.ok) rx
 rcases qAk (show bnd (f dx dy W2.S) (chnT f' gc δ dy) = some rr from hg2) with ⟨t, S3, e3, q3⟩ | ⟨c, S3, e3, q3⟩
 ·refine hf E H2 W2 x y dx dy _ (.ok t S3) s2.ok rx2 ry e3 λ H3 W3 eS s3 z rz => ?_
  subst eS
  cases t with
  | bl k =>
   refine ⟨k, rz, ?_⟩
   cases k with
   | true =>
    rw [if_pos rfl]
    refine Go.thn s3.ok (hδ2.mv (s3.mv s2.ok)) (show bnd (gc δ W3.S) (f' dy) = some rr from q3) (hA2.nxt s3) λ dw H4 W4 s4 hδ4 hg4 hA4 w rw' => ?_
    exact hf' E H4 W4 y w dy dw Q rr s4.ok (Rep.mv ((s3.trans s4).mv s2.ok) ry) rw' hg4 hA4
   | false =>
    rw [if_neg (by decide)]
    obtain rfl : Rs.ok (D.bl false) W3.S = rr := Option.some.inj q3
    exact (hA2.nxt s3).now s3.ok _ rfl
  | _ => cases q3
 ·subst q3
  exact hf E H2 W2 x y dx dy _ (.er c S3) s2.ok rx2 ry e3 hA2
theorem qOe (ho : OpR X (compareOp op) r) (hf : OpD (gx X) r f) (ho' : OpR X (compareOp op') r') (hf' : OpD (gx X) r' f') (ha : PDE X E a ga) (hb : PDE X E b gb) (hc : PDE X E c gc)
  (hm : lastMarks [op, op'] [b, c] = false := by with_unfolding_all rfl) : PDE X E (.Compare a [op, op'] [b, c] pos) (chn f f' ga gb gc) := by
 first
 | exact (
  PE.imp (qIw ho ho' ha hb hc hm) (qDx hf hf'))
 | ((try unfold PDE at *); exact (
  PE.imp (qIw ho ho' ha hb hc hm) (qDx hf hf')))
theorem qLe (ho : OpR X (compareOp op) r) (hf : OpD (gx X) r f) (ho' : OpR X (compareOp op') r') (hf' : OpD (gx X) r' f') (ha : PDE X E a ga) (hb : PDE X E b gb) (hc : PDE X E c gc)
  (hm : lastMarks [op, op'] [b, c] = false := by with_unfolding_all rfl) : PDT X E (.Compare a [op, op'] [b, c] pos) (tv (chn f f' ga gb gc)) := by
 first
 | exact (
  PT.imp (qIt ho ho' ha hb hc hm) (qJq (qDx hf hf')))
 | ((try unfold PDE at *); (try unfold PDT at *); exact (
  PT.imp (qIt ho ho' ha hb hc hm) (qJq (qDx hf hf'))))
theorem qVv : qEw G (λ xs H Q => ∃ p ys, xs = [.ref p] /\ (SqL G.K H p ys \/ SqT G.K H p ys) /\ ∀ l, H l = none -> Q (.ref l) (upd H l (.lst ys))) qOt := by
 intro E H W vs ds Q rr hS rl e hA
 unfold qOt at e
 split at e
 ·rename_i a
  split at e
  ·rename_i xs hx
   obtain ⟨v, r, rfl, rx, t⟩ := rl
   have t : r = [] := t
   subst t
   obtain ⟨us, ex, hq, rl⟩ := hS.lst rx hx
   subst ex
   exact ⟨_, us, rfl, .inl (.inl (.inl hq)), λ p hp => qBq hS e hA rl hp⟩
  ·cases e
 ·rename_i xs
  obtain ⟨v, r, rfl, ⟨a, us, rfl, q, rl⟩, t⟩ := rl
  have t : r = [] := t
  subst t
  exact ⟨a, us, rfl, .inl q.sq, λ p hp => qBq hS e hA rl hp⟩
 ·rename_i xs
  obtain ⟨v, r, rfl, ⟨a, us, rfl, q, rl⟩, t⟩ := rl
  have t : r = [] := t
  subst t
  exact ⟨a, us, rfl, .inr q, λ p hp => qBq hS e hA rl hp⟩
 ·cases e
theorem qVu : qEw G (λ xs H Q => ∃ i j, xs = [.int i, .int j] /\ Q (.int (if j > i then j else i)) H) qSm := by
 intro E H W vs ds Q rr hS rl e hA
 unfold qSm at e
 split at e
 ·rename_i i j
  obtain rfl : Rs.ok (D.int (if j > i then j else i)) W.S = rr := Option.some.inj e
  obtain ⟨v, r, rfl, q, v2, r2, rfl, q2, t⟩ := rl
  have q : v = .int i := q
  have q2 : v2 = .int j := q2
  have t : r2 = [] := t
  subst q q2 t
  exact ⟨i, j, rfl, hA.now hS _ rfl⟩
 ·cases e
def qYj : List V -> Hp -> VK -> Prop := λ xs H Q => ∃ i j, xs = [.int i, .int j] /\ j ≠ 0 /\ ∀ p, H p = none -> Q (.ref p) (upd H p (.tup [.int (i.fdiv j), .int (i.fmod j)]))
theorem qHg (hr : qBd k X.A) (ht : X.prog.given.tree = none) (hst : X.stack = X.env :: X.outer) (hgen : X.env.scope.isGenerator = false) (hco : X.env.scope.isCoroutine = false) : qBm X (.builtin "divmod") qYj := by
 intro pins s σ H xs us Q I r h
 obtain ⟨i, j, rfl, h1, q⟩ := h
 obtain ⟨u, w', rfl, ⟨t, rfl⟩, ⟨t', rfl⟩⟩ := qP6 r
 refine divmod_int h1 ?_ (.inr (qD9 I hr ht hst hgen hco))
 have hn : H s.heap.objs.size = none := I.hok.fresh (jAy _)
 refine ⟨.ref s.heap.objs.size, upd H s.heap.objs.size (.tup [.int (i.fdiv j), .int (i.fmod j)]), ?_, rfl, q _ hn⟩
 refine I.laid (λ b o e => jAv _ e) (jAy _) ⟨by simp only [jBa, jCr]; rw [sizeLine_eq]; decide, [.int (i.fdiv j) s.toks, .int (i.fmod j) (s.toks + 1)], .cons ⟨_, rfl⟩ (.cons ⟨_, rfl⟩ .nil), ?_⟩
 exact ⟨_, jAx s.heap rfl, rfl, 0, rfl⟩
theorem qVx : qEw G qYj qNg := by
 intro E H W vs ds Q rr hS rl e hA
 unfold qNg at e
 split at e
 ·rename_i i j
  split at e
  ·cases e
  ·rename_i hj
   obtain rfl : Rs.ok (D.tup [.int (i.fdiv j), .int (i.fmod j)]) W.S = rr := Option.some.inj e
   obtain ⟨v, r, rfl, q, v2, r2, rfl, q2, t⟩ := rl
   have q : v = .int i := q
   have q2 : v2 = .int j := q2
   have t : r2 = [] := t
   subst q q2 t
   exact ⟨i, j, rfl, hj, λ p hp => hA _ W rfl (Nxt.heap hS hp _) _ ⟨p, _, rfl, SqT.of zT, ⟨_, _, rfl, rfl, ⟨_, _, rfl, rfl, rfl⟩⟩⟩⟩
 ·cases e
theorem qKq : ∀ {bs : List Bool} {its : List Value}, qAn (bs.map V.bl) its -> its = bs.map Value.bool
 | [], _, h => by cases h; rfl
 | b :: bs, _, h => by
  cases h with
  | cons h1 h2 =>
   cases h1
   rw [qKq h2]
   rfl
theorem qM0 (hc : X.calm = true) : qBm X (.builtin "all") (λ xs H Q => ∃ (l : Addr) (bs : List Bool), xs = [.ref l] /\ SqL X.K H l (bs.map V.bl) /\ Q (.bl (bs.all id)) H) := by
 intro pins s σ H xs us Q I r h
 obtain ⟨l, bs, rfl, hq, q⟩ := h
 obtain ⟨u, rfl, rx⟩ := qJo r
 cases rx
 obtain ⟨its, rv, pl, hz⟩ := I.list hq
 have hl := pl.isList
 obtain rfl := qKq rv
 have hlt : l < s.heap.objs.size := by obtain ⟨_, e, _⟩ := hl; exact jAc e
 refine call_all_walk (wpAny_pyIter_list hl ?_)
 refine ⟨s.heap.objs.size, [s.heap.objs.size, l], [s.heap.objs.size], (bs.map Value.bool).toArray.size, _, _, λ i => (bs[i]?).getD true, rfl, Walks.list (A := X.A.in1) (I.ok.hd hc) _ l (jAf hlt) (bs.map Value.bool).toArray,
  ⟨⟨_, jAx _ rfl, rfl, rfl⟩, hl.push _⟩, λ i v s' Q' E' hP hQ => ?_, λ h' tk hk => ?_⟩
 ·have hP : (bs.map Value.bool)[i]? = some v := by simpa using hP
  rw [jBy] at hP
  cases e : bs[i]? with
  | none => rw [e] at hP; cases hP
  | some b =>
   rw [e] at hP
   cases hP
   simp only [e, Option.getD_some] at hQ
   exact wpAny_truthy_bool hQ
 ·have e : ((jAg (bs.map Value.bool).toArray.size).all λ i => (bs[i]?).getD true) = bs.all id := by
   rw [jA1, jBh]; exact LSm.range_all bs
  rw [e]
  exact ⟨.bl _, H, I.kept λ b x eb => hk b x (λ hm => by rw [jCs.mp hm] at eb; exact jAe _ (jAc eb)) (jAv _ eb), rfl, q⟩
theorem qHl : ∀ {ds : List D} {b : Bool}, qKk ds = some b -> ∃ bs : List Bool, ds = bs.map D.bl /\ b = bs.all id
 | [], _, h => by cases h; exact ⟨[], rfl, rfl⟩
 | .bl c :: ds, b, h => by
  have h : (match qKk ds with | some e => some (c && e) | none => none) = some b := h
  cases q : qKk ds with
  | none => rw [q] at h; cases h
  | some e =>
   rw [q] at h
   cases h
   obtain ⟨bs, rfl, rfl⟩ := qHl q
   exact ⟨c :: bs, rfl, rfl⟩
 | .non :: _, _, h => by cases h
 | .int _ :: _, _, h => by cases h
 | .str _ :: _, _, h => by cases h
 | .tup _ :: _, _, h => by cases h
 | .ref _ :: _, _, h => by cases h
 | .exc _ :: _, _, h => by cases h
 | .scr _ :: _, _, h => by cases h
theorem qK8 : ∀ {bs : List Bool} {vs : List V}, qAl G H W (bs.map D.bl) vs -> vs = bs.map V.bl
 | [], _, h => h
 | b :: bs, _, h => by
  obtain ⟨v, r, rfl, q, t⟩ := h
  have q : v = .bl b := q
  rw [q, qK8 t]
  rfl
theorem qVy : qEw G (λ xs H Q => ∃ (l : Addr) (bs : List Bool), xs = [.ref l] /\ SqL G.K H l (bs.map V.bl) /\ Q (.bl (bs.all id)) H) qSs := by
 intro E H W vs ds Q rr hS rl e hA
 unfold qSs at e
 split at e
 ·rename_i a
  split at e
  ·rename_i xs hx
   split at e
   ·rename_i b hb
    obtain rfl : Rs.ok (D.bl b) W.S = rr := Option.some.inj e
    obtain ⟨v, r, rfl, rx, t⟩ := rl
    have t : r = [] := t
    subst t
    obtain ⟨us, ex, hq, rl⟩ := hS.lst rx hx
    subst ex
    obtain ⟨bs, rfl, rfl⟩ := qHl hb
    obtain rfl := qK8 rl
    exact ⟨_, bs, rfl, .inl (.inl hq), hA.now hS _ rfl⟩
   ·cases e
  ·cases e
 ·cases e
end
end Np
end
section
namespace Np
open PySem PySem.Spec PyProof.Rows L2
section
variable {prog : Program} {w : World} {A : Around} {R : Result -> Shared -> Prop} {s : Shared}
theorem qF1 (I : Nat -> Shared -> Prop)
  (turn : ∀ n s, I n s -> wpAny (model prog w) A (pyNext it) (λ r s₁ => match r with
   | none => R (.ok .next) s₁
   | some v => wpAny (model prog w) A (letOwnedTupleGo target it v) (λ _ s₂ => wpAny (model prog w) A (assign target env v) (λ _ s₃ =>
     wpAny (model prog w) A (isTrue ce env (eval ce env)) (λ b s₃ => match b with
      | false => ∃ m, m < n /\ I m s₃
      | true => wpAny (model prog w) A (eval elt env) (λ x s₄ =>
     wpAny (model prog w) A (call (.builtin "list.append") [acc, x]) (λ _ s₅ => ∃ m, m < n /\ I m s₅) (λ _ _ => False) s₄) (λ _ _ => False) s₃) (λ _ _ => False) s₃) (λ _ _ => False) s₂) (λ _ _ => False) s₁) (λ _ _ => False) s)
  (n : Nat) (h : I n s) :
  codeAny (model prog w) A (.compLoop (.ListComp elt [⟨target, iter, [ce], 0⟩] scope pos) 0 it acc env) R s := by
 refine codeAny_loop rfl I (λ n s hI => ?_) n h
 show wpAny _ _ ((compTurn (.ListComp elt [⟨target, iter, [ce], 0⟩] scope pos) 0 it acc env).onRaise (λ x => do noteFrame x env; theTreesLotGoes x)) _ _ s
 refine wpAny_noted ?_
 rw [compTurn_list]
 refine wpAny_bind (wpAny_standAt (wpAny_bind (wpAny_mono (turn n s hI) (λ r s₁ h₁ => ?_) λ _ _ h' => h'.elim)))
 cases r with
 | none => exact wpAny_pure h₁
 | some v =>
  refine wpAny_bind (wpAny_mono h₁ (λ _ s₂ h₂ => ?_) λ _ _ h' => h'.elim)
  refine wpAny_bind (wpAny_mono h₂ (λ _ s₂ h₂ => wpAny_bind (wpAny_mono (wpAny_tests_one h₂) (λ ok s₃ h₃ => ?_) λ _ _ h' => h'.elim)) λ _ _ h' => h'.elim)
  cases ok with
  | false => exact wpAny_pure ⟨rfl, h₃⟩
  | true => exact wpAny_bind (wpAny_bind (wpAny_mono h₃ (λ x s₄ h₄ => wpAny_bind (wpAny_mono h₄ (λ _ s₅ h₅ => wpAny_pure (wpAny_pure ⟨rfl, h₅⟩)) λ _ _ h' => h'.elim)) λ _ _ h' => h'.elim))
end
def qK1 (wi : TI) (g : TG) (tt : TT) (te : TE) (k : Nat) : TE := λ σ H Q => wi σ H λ J H1 => ∃ W : Nat -> Nat -> List V -> L2.St -> Hp -> Prop, (∃ n, W 0 n [] (σ ++ jBq k none) H1) /\ ∀ i n vs σ H, W i n vs σ H ->
 (J.stop i H /\ ∀ p, H p = none -> Q (.ref p) (upd H p (.lst vs))) \/ (J.go i H /\ vs.length < sizeLine /\ ∀ x H', J.yld i H x H' -> g x σ H' λ σ2 H2 => tt σ2 H2 λ b H3 => match b with
  | false => ∃ n', n' < n /\ W (i + 1) n' vs σ2 H3
  | true => te σ2 H3 λ v H4 => ∃ n', n' < n /\ W (i + 1) n' (vs ++ [v]) σ2 H4)
section
variable {X : Cx} {N' : List Str} {scope : Scope}
theorem qMr (O : qCl X.N X.env.scope N' scope) (hlen : X.N.length + k = N'.length) (hcal : X.calm = true) (hi : PI X tg iter wi)
  (hg : ∀ C s₃ H₃ ex pn, PG (qAa X N' scope C s₃ H₃ ex pn) tg g) (hc : ∀ C s₃ H₃ ex pn, PT (qAa X N' scope C s₃ H₃ ex pn) ce tt) (he : ∀ C s₃ H₃ ex pn, PE (qAa X N' scope C s₃ H₃ ex pn) elt te)
  {use : Option (Value -> Sem Unit)} {Qf : Value -> Shared -> Prop} {pins : List (Addr × Obj)} {s : Shared} {σ : L2.St} {H : Hp} {Q : VK} (I : Inv X pins σ H s) (h : qK1 wi g tt te k σ H Q)
  (fin : ∀ (C acc : Addr) (H' : Hp) (s' : Shared) (m : Str -> Option Value), Inv X pins σ H' s' -> s'.heap.Ns C m -> qFi X pins H' C -> Q (.ref acc) H' -> compPost (model X.prog X.w) X.A X.xe use Qf (.ref acc) C (.ok .next) s')
  (hs : ∀ x, foldedSetIterable iter X.env x = pure x := by intro _; rfl) :
  wpAny (model X.prog X.w) X.A (comprehension (.ListComp elt [⟨tg, iter, [ce], 0⟩] scope pos) scope X.env (firstIterPos [⟨tg, iter, [ce], 0⟩] pos) (newList []) false (eval iter X.env) use) Qf X.xe s := by
 have hclos : closureFor scope X.env = pure (qGb scope.names X.env.cells []) := qDb λ y hy hf => I.ok.has y.1 (O.free y hy hf).2
 refine wpAny_comprehension_free (use := use) rfl hs hclos O.kind O.names (thn (hi pins s σ H _ I h) λ xv s1 h1 => thn h1 λ itv s2 h2 => ?_)
 obtain ⟨it, fp, tn, J, H2, rfl, I2, T, st2, f2, hW⟩ := h2
 refine wpAny_newObj_type (qEi λ h₁ hns₁ hk₁ hce₁ => ?_)
 have hfp2 : ∀ b ∈ fp, b < s2.heap.objs.size := λ b hb => by
  obtain ⟨o, e, _⟩ := T.obj 0 _ st2 b hb
  exact jAc e
 have hpn : H2 s2.heap.objs.size = none := I2.hok.fresh (jAy _)
 have I3 : Inv X pins σ H2 { s2 with heap := s2.heap.push { cls := .type "list", data := .seq ([] : List Value).toArray } } := I2.kept (t' := s2.toks) λ b o e => jAv _ e
 have facc : qFi X pins H2 s2.heap.objs.size := I2.fpOk (jAy _) hpn
 have gacc : (s2.heap.push { cls := .type "list", data := .seq ([] : List Value).toArray }).get? s2.heap.objs.size = some { cls := .type "list", data := .seq ([] : List Value).toArray } := jAx _ rfl
 obtain ⟨W, ⟨n0, w0⟩, turn⟩ := hW
 generalize hs3 : ({ s2 with heap := s2.heap.push { cls := .type "list", data := .seq ([] : List Value).toArray } } : Shared) = s3 at I3
 have hh3 : s3.heap = s2.heap.push { cls := .type "list", data := .seq ([] : List Value).toArray } := by rw [<- hs3]
 rw [<- hh3] at gacc
 have z3 : s3.heap.objs.size = s2.heap.objs.size + 1 := by rw [hh3, jBi]
 generalize hacc : s2.heap.objs.size = acc at *
 have f3 : ∀ b ∈ acc :: fp, qFi X pins H2 b := λ b hb => by
  rcases jAp.mp hb with e | hb
  ·rw [e]; exact facc
  ·exact f2 b hb
 have hfp3 : ∀ b ∈ acc :: fp, b < s3.heap.objs.size := λ b hb => by
  rw [z3]
  rcases jAp.mp hb with e | hb
  ·rw [e]; exact jBj _
  ·exact jCk (hfp2 b hb)
 have hk4 : ∀ b o, s3.heap.get? b = some o -> h₁.get? b = some o := λ b o e => hk₁ b o (by rw [hh3] at e; exact e)
 have hCe : (s2.heap.push { cls := .type "list", dict := none, data := .seq ([] : List Value).toArray }).objs.size = s3.heap.objs.size := by rw [hh3]
 generalize hC : (s2.heap.push { cls := .type "list", dict := none, data := .seq ([] : List Value).toArray }).objs.size = C at *
 have st3 : tn 0 h₁ := T.keep 0 _ _ st2 λ b hb o e => hk4 b o (by rw [hh3]; exact jAv _ e)
 have okx := qIg (fp := acc :: fp) O I3 (show s3.heap.objs.size <= C by rw [hCe]; exact jAy _) f3 hfp3
 have pinOk : ∀ {H' : Hp} {its : List Value} {kk : Nat} {h' : Heap}, H' acc = none -> h'.get? acc = some { cls := .type "list", data := .seq its.toArray kk } -> ∀ p ∈ [(acc, ({ cls := .type "list", data := .seq its.toArray kk } : Obj))], h'.get? p.1 = some p.2 /\ H' p.1 = none /\ p.1 ≠ (qAa X N' scope C s3 H2 (acc :: fp) (X.pn ++ pins)).env.locals /\ p.1 ∉ (qAa X N' scope C s3 H2 (acc :: fp) (X.pn ++ pins)).fs /\ ∀ v, p.2.data ≠ .cell v := fun {H' its kk h'} hn e p hp => by
  have z : p = (acc, ({ cls := .type "list", data := .seq its.toArray kk } : Obj)) := by simpa using hp
  subst z
  exact ⟨e, hn, (okx.exf acc (.head _)).1, okx.exfs acc (.head _), λ v q => by cases q⟩
 have I4 : Inv (qAa X N' scope C s3 H2 (acc :: fp) (X.pn ++ pins)) [] (σ ++ jBq k none) H2 { s3 with heap := h₁ } :=
  qI4 O I3 (by rw [hCe]; exact jAy _) f3 hfp3 ⟨h₁, _, rfl⟩ hk4 hns₁ hce₁ hlen
 have I4' : Inv (qAa X N' scope C s3 H2 (acc :: fp) (X.pn ++ pins)) [(acc, { cls := .type "list", data := .seq ([] : List Value).toArray 0 })] (σ ++ jBq k none) H2 { s3 with heap := h₁ } :=
  I4.pins_of (pinOk facc.1 (hk4 _ _ gacc))
 have loop : codeAny (model X.prog X.w) X.A (.compLoop (.ListComp elt [⟨tg, iter, [ce], 0⟩] scope pos) 0 (.ref it) (.ref acc) (compEnvC scope (qHc scope C X.env.cells) C X.env)) (compPost (model X.prog X.w) X.A X.xe use Qf (.ref acc) C) { s3 with heap := h₁ } := by
  have fpx : ∀ {H' : Hp} {ob : Obj}, (∀ b ∈ fp, H' b = none) -> ∀ b ∈ fp, qFi (qAa X N' scope C s3 H2 (acc :: fp) (X.pn ++ pins)) [(acc, ob)] H' b := fun {H' ob} hn b hb => by
   have hb' : b ∈ acc :: fp := .tail _ hb
   refine ⟨hn b hb, (okx.exf b hb').1, okx.exfs b hb', .inl hb', λ x c h => (okx.exf b hb').2 x c h, λ p hp => ?_⟩
   have hp' : p ∈ (X.pn ++ pins) ++ [(acc, ob)] := hp
   rcases jAq.mp hp' with z | z
   ·exact (f3 b hb').2.2.2.2.2 p z
   ·have e : p = (acc, ob) := by simpa using z
    rw [e]
    exact jAw (hfp2 b hb)
  refine qF1 (λ n s' => ∃ i vs its kk σ' H', Inv (qAa X N' scope C s3 H2 (acc :: fp) (X.pn ++ pins)) [(acc, { cls := .type "list", data := .seq its.toArray kk })] σ' H' s' /\ qAn vs its /\ vs.length <= sizeLine /\ tn i s'.heap /\ (∀ b ∈ fp, H' b = none) /\ W i n vs σ' H') ?_ n0 ⟨0, [], [], 0, _, _, I4', .nil, jBk _, st3, λ b hb => (f2 b hb).1, w0⟩
  rintro n s5 ⟨i, vs, its, kk, σ5, H5, I5, rv, hz, st5, fr5, w5⟩
  rcases turn i n vs σ5 H5 w5 with ⟨stop, qn⟩ | ⟨go, hlt, step⟩
  ·refine thn (T.done (qAa X N' scope C s3 H2 (acc :: fp) (X.pn ++ pins)) rfl rfl rfl hcal i _ s5 σ5 H5 _ I5 (fpx fr5) st5 stop) λ r s6 ⟨hr, I6⟩ => ?_
   subst hr
   have back : Inv X pins σ H5 s6 := by
    have e : s6.os = s3.os := I6.os
    refine I3.call' e (ch := acc :: fp) I6.base I6.hok I6.bare λ b hb => ?_
    obtain ⟨a1, a2, a3, a4, a5, a6⟩ := f3 b hb
    exact ⟨a4, a2, a5, a6⟩
   obtain ⟨m6, hn6, _⟩ := I6.loc
   have hn6' : s6.heap.Ns C m6 := hn6
   obtain ⟨e6, n6, _⟩ := I6.pin (acc, { cls := .type "list", data := .seq its.toArray kk }) (jA0 _ (.head _))
   have fa : qFi X pins H5 acc := ⟨n6, facc.2⟩
   have hCa : C ≠ acc := jAw (by rw [hCe]; exact hfp3 acc (.head _))
   refine fin C acc _ s6 m6 (Inv.adopt back fa e6 rv hz) hn6' ?_ (qn acc n6)
   exact I3.fpOk (by rw [hCe]; exact jAy _) (by rw [zN hCa]; exact I6.free)
  ·refine thn (T.item (qAa X N' scope C s3 H2 (acc :: fp) (X.pn ++ pins)) rfl rfl rfl hcal i _ s5 σ5 H5 _ I5 (fpx fr5) st5 go) λ r s6 ⟨u, hr, h6⟩ => ?_
   subst hr
   refine thn h6 λ _ s7 ⟨x, H7, I7, r7, y7, st7, fr7⟩ => ?_
   have I7' := I7.pinned (fpx fr7) (T.obj _ _ st7)
   refine thn (hg _ _ _ _ _ _ s7 σ5 H7 x u _ I7' r7 (step x H7 y7)) λ _ s8 ⟨σ8, H8, I8, q8⟩ => ?_
   refine thn (hc _ _ _ _ _ _ s8 σ8 H8 _ I8 q8) λ b s8' ⟨H8', I8', q8'⟩ => ?_
   cases b with
   | false =>
    obtain ⟨n', hn', w9⟩ := q8'
    obtain ⟨e9, n9, l9, f9, _⟩ := I8'.pin (acc, { cls := .type "list", data := .seq its.toArray kk }) (jA0 _ (jAr _ (.head _)))
    have I9' := I8'.pins_of (pins' := qCg fp s7.heap) λ p hp => I8'.pin p (jA0 _ (jA0 _ hp))
    refine ⟨n', hn', i + 1, vs, its, _, σ8, H8', I9'.pins_of (pinOk n9 e9), rv, hz, T.keep _ _ _ st7 λ b hb o eo => (I9'.pin (b, o) (jA0 _ (qAz hb eo))).1, λ b hb => ?_, w9⟩
    obtain ⟨o, eo, d⟩ := T.obj _ _ st7 b hb
    exact (I9'.pin (b, o) (jA0 _ (qAz hb eo))).2.1
   | true =>
   refine thn (he _ _ _ _ _ _ s8' σ8 H8' _ I8' q8') λ xv s9 ⟨v, H9, I9, r9, q9⟩ => ?_
   obtain ⟨n', hn', w9⟩ := q9
   obtain ⟨e9, n9, l9, f9, _⟩ := I9.pin (acc, { cls := .type "list", data := .seq its.toArray kk }) (jA0 _ (jAr _ (.head _)))
   have hlen9 := rv.length
   refine call_meets F.slot_list_append ⟨_, e9, rfl⟩ F.entry_list_append (F.args_list_append_2 _ _) (PySem.list_append acc its.toArray kk xv (by rw [jA1]; omega)) ⟨e9, ?_⟩
   have q10 := PySem.IsL.update e9 (λ xs => xs.push xv)
   have ea : (its.toArray.push xv) = (its ++ [xv]).toArray := by simp
   rw [ea] at q10
   have I9' := I9.pins_of (pins' := qCg fp s7.heap) λ p hp => I9.pin p (jA0 _ (jA0 _ hp))
   have I10 : Inv (qAa X N' scope C s3 H2 (acc :: fp) (X.pn ++ pins)) (qCg fp s7.heap) σ8 H9 { s9 with heap := s9.heap.update acc (Obj.mapSeq λ xs => xs.push xv) } :=
    I9'.turned (t' := s9.toks) (it := acc) (λ b o hb e => (jB6 s9.heap _ (Ne.symm hb)).trans e) n9 (okx.exf acc (.head _)).1 (.inl (.head _)) (λ x c h => (okx.exf acc (.head _)).2 x c h) λ p hp => by
     have hp' : p ∈ (X.pn ++ pins) ++ qCg fp s7.heap := hp
     rcases jAq.mp hp' with z | z
     ·exact facc.2.2.2.2.2 p z
     ·exact jAf (hfp2 p.1 (qEg z).1)
   refine ⟨n', hn', i + 1, vs ++ [v], its ++ [xv], _, σ8, H9, I10.pins_of (pinOk n9 q10), rv.append (.cons r9 .nil), by rw [jB0, jCa]; omega, T.keep _ _ _ st7 λ b hb o eo => (I10.pin (b, o) (jA0 _ (qAz hb eo))).1, λ b hb => ?_, w9⟩
   obtain ⟨o, eo, d⟩ := T.obj _ _ st7 b hb
   exact (I10.pin (b, o) (jA0 _ (qAz hb eo))).2.1
 have whole := codeAny_compStart_list loop (T.self _ 0 _ _ _ st3 loop)
 subst hCe
 exact whole
end
section
variable {X : Cx} {N' : List Str} {scope : Scope}
theorem qHw (k : Nat) (O : qCl X.N X.env.scope N' scope) (hcal : X.calm = true) (hi : PI X tg iter wi)
  (hg : ∀ C s₃ H₃ ex pn, PG (qAa X N' scope C s₃ H₃ ex pn) tg g) (hc : ∀ C s₃ H₃ ex pn, PT (qAa X N' scope C s₃ H₃ ex pn) ce tt) (he : ∀ C s₃ H₃ ex pn, PE (qAa X N' scope C s₃ H₃ ex pn) elt te)
  (hN : X.N.Nodup) (hj : X.N[j]? = some y) (hy : X.env.scope.names.lookup y = some .local) (hsw : swapsWith (.ListComp elt [⟨tg, iter, [ce], 0⟩] scope pos) (some (.Name y py)) spos.line X.env = pure true)
  (hlen : X.N.length + k = N'.length := by rfl) (hs : ∀ x, foldedSetIterable iter X.env x = pure x := by intro _; rfl) : PS X (.Assign [.Name y py] (.ListComp elt [⟨tg, iter, [ce], 0⟩] scope pos) spos) (qW1 (qK1 wi g tt te k) (qR4 j)) := by
 intro pins s σ H D I h
 rw [exec_Assign_Name_used _ _ _ _ hsw]
 refine wpAny_bind (wpAny_standAt (wpAny_bind ?_))
 show wpAny _ X.A (do let _ <- comprehension (.ListComp elt [⟨tg, iter, [ce], 0⟩] scope pos) scope X.env _ (newList []) false (eval iter X.env) (some (assign (.Name y py) X.env))) _ _ s
 refine wpAny_bind (wpAny_mono (qMr (use := some (assign (.Name y py) X.env)) (Qf := λ _ s' => SP X pins D .next s') O hlen hcal hi hg hc he I h (λ C acc H' s' m J hn f q => ?_) hs) (λ _ s' hq => wpAny_pure (wpAny_pure hq)) λ _ _ e => e)
 show wpAny _ X.A (assign (.Name y py) X.env (.ref acc)) _ _ _
 refine wpAny_assign_Name ?_
 refine qD6 J hN hj (.inl hy) (v := .ref acc) rfl (λ s2 J2 ⟨a, hsb, ha⟩ => ?_) (.inr hy)
 have haC : C ≠ a := by
  rcases ha with z | z
  ·rw [z]; exact f.2.1
  ·exact λ e => f.2.2.2.2.1 _ _ z e.symm
 exact ⟨m, hn.sameBut hsb haC, λ h' hs' => ⟨σ.set j (some (.ref acc)), H', J2.turned (t' := s2.toks) (λ b o hb e => (hs'.2 b hb).trans e) f.1 f.2.1 f.2.2.2.1 f.2.2.2.2.1 f.2.2.2.2.2, q⟩⟩
end
theorem qHa (h : qAs src g t e n i δ S = some r) :
  (src.get S i = some none /\ r = .ok [] S) \/ ∃ x m, n = m + 1 /\ src.get S i = some (some x) /\ bnd (g x δ S) (qFf t e (qAs src g t e m (i + 1))) = some r := by
 cases n with
 | zero =>
  unfold qAs at h
  split at h
  ·rename_i e
   exact .inl ⟨e, (Option.some.inj h).symm⟩
  ·cases h
 | succ n =>
  unfold qAs at h
  split at h
  ·rename_i e
   exact .inl ⟨e, (Option.some.inj h).symm⟩
  ·rename_i x e
   exact .inr ⟨x, n, rfl, e, h⟩
  ·cases h
section
variable {X : Cx} {E : XK} {N' : List Str} {scope : Scope}
theorem qNp : ∀ σ H Q, tF (gx X) E (qDw gi k g gc ge) σ H Q -> qK1 (tFI (gx X) E gi) (tFG (gx X) E0 g) (tFT (gx X) E0 gc) (tF (gx X) E0 ge) k σ H Q := by
 intro σ H Q ⟨W, δ, rr, hS, hδ, hg, hA⟩
 refine Go.thn hS hδ hg hA λ src H1 W1 s1 hδ1 hg1 hA1 J hJ => ?_
 have q' : (if src.len W1.S <= 1000000 then bnd (qGa (qAs src g gc ge (src.len W1.S) 0 (δ ++ jBq k none) W1.S)) qWn else none) = some rr := hg1
 split at q'
 ·rename_i hsz
  rcases qAk q' with ⟨ds, S2, e2, q2⟩ | ⟨c, S2, e2, _⟩
  ·obtain ⟨ds', S2', e3, e4⟩ := qBk e2
   cases e4
   refine ⟨λ i n vs σ2 H2 => i + n = src.len W1.S /\ ∃ W2 δ2 ds1 ds2, Nxt (gx X) H1 W1 H2 W2 /\ qCr (gx X) H2 W2 δ2 σ2 /\ ds = ds1 ++ ds2 /\ ds1.length <= i /\ qAl (gx X) H2 W2 ds1 vs /\ qAs src g gc ge n i δ2 W2.S = ok ds2 S2,
    ⟨src.len W1.S, by simp, W1, _, [], ds, .rfl s1.ok, hδ1.more k, rfl, jAy _, rfl, e3⟩, ?_⟩
   rintro i n vs σ2 H2 ⟨hn, W2, δ2, ds1, ds2, s2, hδ2, hds, hl1, rl, hc⟩
   obtain ⟨w1, w2⟩ := hJ i H2 W2 s2
   rcases qHa hc with ⟨hend, hr⟩ | ⟨x, m, rfl, hx, hb⟩
   ·refine .inl ⟨w1 hend, λ p hp => ?_⟩
    cases hr
    rw [jBl] at hds
    subst hds
    exact qBq s2.ok q2 (hA1.nxt s2) rl hp
   ·obtain ⟨wg, wy⟩ := w2 x hx
    refine .inr ⟨wg, ?_, λ v H3 y => ?_⟩
    ·rw [<- rl.length]
     exact jAd (by omega) (sz hsz)
    ·obtain ⟨W3, e3', s3, rx⟩ := wy v H3 y
     rcases qAk hb with ⟨δ4, S4, e4, q4⟩ | ⟨c, S4, _, q4⟩
     ·refine ⟨W3, δ2, x, .ok δ4 S4, s3.ok, hδ2.mv (s3.mv s2.ok), rx, by rw [e3']; exact e4, λ H4 W4 eS4 s4 σ4 hδ4 => ?_⟩
      rcases qAk (show bnd (gc δ4 S4) (qPy ge (qAs src g gc ge m (i + 1)) δ4) = some (Rs.ok ds2 S2) from q4) with ⟨b, S5, e5, q5⟩ | ⟨c, S5, _, q5⟩
      ·refine ⟨W4, δ4, .ok b S5, s4.ok, hδ4, by rw [eS4]; exact e5, λ H5 W5 eS5 s5 => ?_⟩
       cases b with
       | false =>
        refine ⟨m, jBj m, by omega, W5, δ4, ds1, ds2, ((s2.trans s3).trans s4).trans s5, hδ4.mv (s5.mv s4.ok), hds, by omega, rl.mv (((s3.trans s4).trans s5).mv s2.ok), by rw [eS5]; exact q5⟩
       | true =>
        rcases qAk (show bnd (ge δ4 S5) (qC9 (qAs src g gc ge m (i + 1)) δ4) = some (Rs.ok ds2 S2) from q5) with ⟨d, S6, e6, q6⟩ | ⟨c, S6, _, q6⟩
        ·refine ⟨W5, δ4, .ok d S6, s5.ok, hδ4.mv (s5.mv s4.ok), by rw [eS5]; exact e6, λ H6 W6 eS6 s6 v' rv => ?_⟩
         rcases qAk (show bnd (qAs src g gc ge m (i + 1) δ4 S6) (consK d) = some (Rs.ok ds2 S2) from q6) with ⟨ds3, S7, e7, q7⟩ | ⟨c, S7, _, q7⟩
         ·have q7' : Rs.ok (d :: ds3) S7 = Rs.ok ds2 S2 := Option.some.inj q7
          cases q7'
          refine ⟨m, jBj m, by omega, W6, δ4, ds1 ++ [d], ds3, (((s2.trans s3).trans s4).trans s5).trans s6, (hδ4.mv (s5.mv s4.ok)).mv (s6.mv s5.ok), by rw [hds]; simp, by simp; omega, ?_, by rw [eS6]; exact e7⟩
          exact (rl.mv ((((s3.trans s4).trans s5).trans s6).mv s2.ok)).append (qAl.one rv)
         ·cases q7
        ·cases q6
      ·cases q5
     ·cases q4
  ·obtain ⟨_, _, _, z⟩ := qBk e2
   cases z
 ·cases q'
theorem qHy (j : Nat) (k : Nat) (O : qCl X.N X.env.scope N' scope) (hcal : X.calm = true) (hi : PDI X E tg iter gi)
  (hg : ∀ C s₃ H₃ ex pn, PDG (qAa X N' scope C s₃ H₃ ex pn) E0 tg g) (hc : ∀ C s₃ H₃ ex pn, PDT (qAa X N' scope C s₃ H₃ ex pn) E0 ce gc) (he : ∀ C s₃ H₃ ex pn, PDE (qAa X N' scope C s₃ H₃ ex pn) E0 elt ge)
  (hN : X.N.Nodup) (hj : X.N[j]? = some y := by rfl) (hy : X.env.scope.names.lookup y = some .local := by rfl) (hsw : swapsWith (.ListComp elt [⟨tg, iter, [ce], 0⟩] scope pos) (some (.Name y py)) spos.line X.env = pure true := by rfl)
  (hlen : X.N.length + k = N'.length := by rfl) (hs : ∀ x, foldedSetIterable iter X.env x = pure x := by intro _; rfl) : PDS X E (.Assign [.Name y py] (.ListComp elt [⟨tg, iter, [ce], 0⟩] scope pos) spos) (setS j (qDw gi k g gc ge)) := by
 try unfold PDE at *
 try unfold PDT at *
 try unfold PDS at *
 try unfold PDG at *
 try unfold PDI at *
 refine PS.imp (qHw (g := tFG (gx X) E0 g) (tt := tFT (gx X) E0 gc) (te := tF (gx X) E0 ge) k O hcal hi hg hc he hN hj hy hsw hlen hs) λ D σ H ⟨W, δ, rr, hS, hδ, hg', hA⟩ => ?_
 refine qNp σ H _ (Go.thn hS hδ hg' hA λ d H1 W1 s1 hδ1 hg1 hA1 v rv => ?_)
 obtain rfl : Rs.ok (Fl.nx (δ.set j (some d))) W1.S = rr := Option.some.inj hg1
 exact hA1.now s1.ok _ (hδ1.set j rv)
end
end Np
end
section
namespace Np
open PySem PySem.Spec PyProof.Rows L2
mutual
theorem qI9 : ∀ (d e : T), eqT d e = eqT e d
 | .non, e => by cases e <;> simp [eqT]
 | .bl a, e => by cases e <;> simp only [eqT] <;> exact BEq.comm
 | .int a, e => by cases e <;> simp only [eqT] <;> exact BEq.comm
 | .str a, e => by cases e <;> simp only [eqT] <;> exact BEq.comm
 | .tup ds, e => by
  cases e with
  | tup es => simp only [eqT]; exact qEu ds es
  | _ => simp [eqT]
 | .lst ds, e => by
  cases e with
  | lst es => simp only [eqT]; exact qEu ds es
  | _ => simp [eqT]
theorem qEu : ∀ (ds es : List T), qEx ds es = qEx es ds
 | [], es => by cases es <;> simp [qEx]
 | d :: ds, es => by
  cases es with
  | nil => simp [qEx]
  | cons e es => simp only [qEx]; rw [qI9 d e, qEu ds es]
end
theorem qL7 (t : T) : ∀ ts : List T, ((qBw ts).any λ y => PyData.eqv y (qCz t)) = qKh t ts
 | [] => rfl
 | u :: us => by simp only [qBw, List.any_cons, qKh, qL7 t us, qI8, qI9 u t]
section
variable {X : Cx} {G : Gx}
def qW7 (G : Gx) (neg : Bool) : R2 := λ x y H Q => ∃ W d a ys t ts, qB0 G H W /\ Rep G H W d x /\ Rep G H W (.ref a) y /\ zH W.S a = some ys /\ rd 8 W.S d = some t /\ rdl (rd 8 W.S) ys = some ts /\ Q (.bl (if neg = true then !qKh t ts else qKh t ts)) H
theorem qR3 {pins : List (Addr × Obj)} {s : Shared} {σ : L2.St} {H : Hp} {W : Wd} {a : Nat} {ys : List D} {ts : List T} {y : V} {u : Value} (I : Inv X pins σ H s) (hS : qB0 (gx X) H W) (r : Rep (gx X) H W (.ref a) y) (q : qA6 y u) (hl : zH W.S a = some ys) (h : rdl (rd 8 W.S) ys = some ts) : qWc s 9 (.lst ts) u :=
 qPh I hS (n := 9) (d := .ref a) (by simp only [rd, hl, h]; rfl) r q
theorem qLz {k : Nat} (hr : qBd k X.A) : OpR X (compareOp .NotIn) (qW7 (gx X) true) := by
 intro pins s σ H x y v u Q I rx ry h
 obtain ⟨W, d, a, ys, t, ts, hS, rd1, re, hl, pd, pe, q⟩ := h
 have sa := qPh I hS pd rd1 rx
 obtain ⟨c1, c2, bs, rb⟩ := qR3 I hS re ry hl pe
 obtain ⟨as, ra⟩ := sa.2.2
 have c1' : PyData.canLayAll0 (qBw ts) = true := by simpa only [qCz, PyData.canLay0] using c1
 refine SeqAt.notIn_list_reads (xs := qBw ts) rb ra c1' sa.1 ?_ ?_
 ·have := hr.units
  have := sa.2.1
  omega
 ·rw [qL7]
  exact ⟨.bl _, H, I, rfl, q⟩
theorem qU6 (neg : Bool) : OpD G (qW7 G neg) (inA neg) := by
 intro E H W x y dx dy Q rr hS rx ry e hA
 cases dy with
 | ref a =>
  simp only [inA] at e
  split at e
  ·rename_i ys hl
   split at e
   ·rename_i t ts h1 h2
    obtain rfl := Option.some.inj e
    exact ⟨W, dx, a, ys, t, ts, hS, rx, ry, hl, h1, h2, hA.now hS _ rfl⟩
   ·cases e
  ·cases e
 | _ => cases e
theorem qOi : OpD G (qW7 G true) qCc := qU6 true
end
end Np
end
section
namespace Np
open PySem PySem.Spec PyProof.Rows L2
theorem qA9.at' {P : Program} {w : World} {H : Hp} {h : Heap} {a : Addr} {o : HO} (x : qA9 P w H h a o) : ∃ ob, h.get? a = some ob := by
 cases o with
 | lst xs => obtain ⟨_, _, _, _, e⟩ := x; exact ⟨_, e⟩
 | tup xs => obtain ⟨_, _, _, o, e, _⟩ := x; exact ⟨_, e⟩
 | dK kvs => obtain ⟨_, _, _, _, o, _, _, e, _⟩ := x; exact ⟨_, e⟩
 | dT kvs => obtain ⟨_, _, _, _, o, _, _, e, _⟩ := x; exact ⟨_, e⟩
 | set S n => obtain ⟨o, _, _, _, e, _⟩ := x; exact ⟨_, e⟩
 | ins C dx fs => obtain ⟨_, _, _, e, _⟩ := x; exact ⟨_, e⟩
 | own y => obtain ⟨_, e⟩ := x; exact ⟨_, e⟩
 | xd fs => obtain ⟨_, ⟨_, _, _, e, _⟩, _⟩ := x; exact ⟨_, e⟩
 | rng lo hi => obtain ⟨_, _, _, e⟩ := x; exact ⟨_, e⟩
 | frz ob u => obtain ⟨e, _⟩ := x; exact ⟨_, e⟩
 | tbl ps => exact ⟨_, (show h.get? a = some _ from x)⟩
 | met f y => exact ⟨_, (show h.get? a = some _ from x)⟩
 | ext φ => obtain ⟨_, ⟨_, e⟩, _⟩ := x; exact ⟨_, e⟩
structure Fly (P : Program) (w : World) (l : List Env) (H H' : Hp) (s : Shared) (ea : Addr) (B h : Heap) : Prop where
 un : Un (frs l) [] H H' s.heap h
 hok : HOk P w H' h
 newe : s.heap.get? ea = none
 free : H' ea = none
 frf : ∀ b ∈ frs l, H' b = none
 ff : h.FunFrames B l
 keep : ∀ b o, h.get? b = some o -> ((∃ o0, s.heap.get? b = some o0) \/ H' b ≠ none) -> b ∉ frs l -> B.get? b = some o
 st : B.StaysIn h
theorem qO2 {h h' B : Heap} {l : List Env} (f : h.FunFrames B l) (k : h.UpToSlots h') : h'.FunFrames B l := f.of_keeps λ b o e n => by
 obtain ⟨sl, q⟩ := k b o e n
 exact ⟨_, q, rfl⟩
theorem Fly.step {P : Program} {w : World} {l : List Env} {H H' : Hp} {s : Shared} {ea : Addr} {B h h' : Heap} (F : Fly P w l H H' s ea B h) (k : h.UpToSlots h') (st : B.StaysIn h') : Fly P w l H H' s ea B h' := by
 have fr : ∀ b ∈ frs l, ∃ o, h.get? b = some o /\ ∀ vs, o.data ≠ .fields vs := λ b hb => (F.ff.mem hb).2
 have there : ∀ b o, s.heap.get? b = some o -> ∃ o', h'.get? b = some o' := λ b o e => by
  obtain ⟨o', q⟩ := F.un.there b o e (by simp)
  by_cases hb : b ∈ frs l
  ·obtain ⟨o1, e1, n1⟩ := fr b hb
   obtain ⟨sl, q'⟩ := k b o1 e1 n1
   exact ⟨_, q'⟩
  ·exact ⟨o', st _ _ (F.keep b o' q (.inl ⟨o, e⟩) hb)⟩
 refine ⟨⟨λ b o e n hb _ => st _ _ (F.keep b o (F.un.keep b o e n hb (by simp)) (.inl ⟨o, e⟩) hb), λ b o e n hb _ => ?_, F.un.free, λ b o e _ => there b o e, F.un.tups, F.un.frzs, F.un.tbls⟩, λ a u e => ?_, F.newe, F.free, F.frf, qO2 F.ff k, λ b o e q hb => ?_, st⟩
 ·obtain ⟨sl, q⟩ := F.un.slot b o e n hb (by simp)
  obtain ⟨o1, e1, n1⟩ := fr b hb
  rw [q] at e1
  cases e1
  obtain ⟨sl', q'⟩ := k b _ q n1
  exact ⟨sl', q'⟩
 ·refine (F.hok a u e).stay (λ b v hb q => st _ _ (F.keep b v q (.inr ?_) λ z => ?_)) (λ _ q => q) λ _ _ q => q
  ·rcases hb with rfl | hb
   ·rw [e]; exact λ z => by cases z
   ·rw [hb]; exact λ z => by cases z
  ·have z := F.frf b z
   rcases hb with rfl | hb
   ·rw [e] at z; cases z
   ·rw [hb] at z; cases z
 ·have : ∃ o', h.get? b = some o' := by
   rcases q with ⟨o0, e0⟩ | q
   ·exact F.un.there b o0 e0 (by simp)
   ·cases z : H' b with
    | none => exact absurd z q
    | some u => exact qA9.at' (F.hok b u z)
  obtain ⟨o', e'⟩ := this
  have q' := F.keep b o' e' q hb
  have := st _ _ q'
  rw [e] at this
  cases this
  exact q'
theorem Un.less {L : Addr} {fs : List Addr} {H H' : Hp} {h h' : Heap} (u : Un (L :: fs) [] H H' h h') (n : h.get? L = none) : Un fs [] H H' h h' := by
 have ne : ∀ b o, h.get? b = some o -> b ≠ L := λ b o e z => by rw [z, n] at e; cases e
 refine ⟨λ b o e hn hb hx => u.keep b o e hn (λ z => ?_) hx, λ b o e hn hb hx => u.slot b o e hn (.tail _ hb) hx, u.free, u.there, u.tups, u.frzs, u.tbls⟩
 rcases jAp.mp z with z | z
 ·exact ne b o e z
 ·exact hb z
def CX1 (P : Program) (w : World) : CXT := λ outer H s E e s' => ∃ (ea C : Addr) (H' : Hp) (B : Heap) (a0 : Value), e = .ref ea /\ s'.os = s.os /\ AllBare s'.gens /\ Fly P w outer H H' s ea B s'.heap /\ Heap.FlyingW B outer ea (.ref C) a0 s'.heap /\ E (.ref C) none H'
section
variable {P : Program} {w : World} {K : PySem.W.Frag} {mg : Str -> Option Value} {base : Heap} {N : List Str} {qual : Str} {scope : Scope} {f : Addr} {cd : Value} {A : Around} {outer : List Env} {s : Shared} {H : Hp} {E : XK}
theorem qMn {pins : List (Addr × Obj)} {σ : L2.St} {H1 H' : Hp} {s1 : Shared} {ea : Addr} {B h' : Heap} (I : Inv (qFe (CX1 P w) P w K mg base N qual scope f cd A outer s H E) pins σ H1 s1)
  (F : Fly P w (envOfC qual scope s.heap.objs.size f cd :: outer) H1 H' s1 ea B h') (hff : h'.FunFrames B outer) : Fly P w outer H H' s ea B h' := by
 have nL : s.heap.get? s.heap.objs.size = none := Heap.get?_none_of_le (jAy _)
 have ef : frs (envOfC qual scope s.heap.objs.size f cd :: outer) = s.heap.objs.size :: frs outer := rfl
 have u0 : Un (frs outer) [] H H1 s.heap s1.heap := I.base
 have u1 : Un (s.heap.objs.size :: frs outer) [] H H' s.heap h' := (u0.mono (λ b hb => .tail _ hb) λ _ z => z).trans (ef ▸ F.un)
 have HL : H' s.heap.objs.size = none := F.frf _ (by rw [ef]; exact .head _)
 refine ⟨Un.less u1 nL, F.hok, ?_, F.free, λ b hb => F.frf b (by rw [ef]; exact .tail _ hb), hff, λ b o e q hb => ?_, F.st⟩
 ·cases z : s.heap.get? ea with
  | none => rfl
  | some o =>
   obtain ⟨o', q⟩ := u0.there ea o z (by simp)
   rw [F.newe] at q
   cases q
 ·refine F.keep b o e ?_ λ z => ?_
  ·rcases q with ⟨o0, e0⟩ | q
   ·exact .inl (u0.there b o0 e0 (by simp))
   ·exact .inr q
  ·rw [ef] at z
   rcases jAp.mp z with z | z
   ·rcases q with ⟨o0, e0⟩ | q
    ·rw [z, nL] at e0; cases e0
    ·rw [z] at q; exact q HL
   ·exact hb z
theorem qRl : qAv (CX1 P w) (qFe (CX1 P w) P w K mg base N qual scope f cd A outer s H E) E := by
 intro pins σ H1 s1 e s' I h
 obtain ⟨ea, C, H', B, a0, rfl, os, bare, F, fl, q⟩ := h
 have os1 : s1.os = s.os := I.os
 show wpAny (model P w) (A.deeper (envOfC qual scope s.heap.objs.size f cd)) (leaving (envOfC qual scope s.heap.objs.size f cd) (.ref ea)) _ _ s'
 refine wpAny_leaves_onW I.ok.frames rfl fl λ h' fl' k => ?_
 exact ⟨ea, C, H', B, a0, rfl, by rw [<- os1, <- os], bare, qMn I (F.step k fl'.1) fl'.2.2.1, fl', q⟩
theorem qXy {pins : List (Addr × Obj)} {σ : L2.St} {H1 : Hp} {s1 : Shared} {e C : Addr} {vs : List Value} {h1 : Heap} (I : Inv (qFe (CX1 P w) P w K mg base N qual scope f cd A outer s H E) pins σ H1 s1) (hx : Heap.MadeExcOf s1.heap h1 e (.ref C) vs) (q : E (.ref C) none H1) :
  (qFe (CX1 P w) P w K mg base N qual scope f cd A outer s H E).xe (.ref e) { s1 with heap := h1 } := by
 have os1 : s1.os = s.os := I.os
 have stk := I.stack
 have hin : ∀ env ∈ (envOfC qual scope s.heap.objs.size f cd :: outer), ∀ b, env.frame = some b -> b ∈ frs (envOfC qual scope s.heap.objs.size f cd :: outer) := λ env he b hb => jAz.mpr ⟨env, he, hb⟩
 have ffB : s1.heap.FunFrames (jAh s1.heap (frs (envOfC qual scope s.heap.objs.size f cd :: outer))) (envOfC qual scope s.heap.objs.size f cd :: outer) := PySem.W.funFrames_hide stk hin
 have tr : ∀ b, H1 b ≠ none -> ∃ o, s1.heap.get? b = some o := λ b n => by
  cases z : H1 b with
  | none => exact absurd z n
  | some u => exact qA9.at' (I.hok b u z)
 have fe : H1 e = none := by
  cases z : H1 e with
  | none => rfl
  | some u =>
   obtain ⟨o, q⟩ := qA9.at' (I.hok e u z)
   rw [hx.new] at q
   cases q
 have F : Fly P w (envOfC qual scope s.heap.objs.size f cd :: outer) H1 H1 s1 e (jAh s1.heap (frs (envOfC qual scope s.heap.objs.size f cd :: outer))) h1 := by
  refine ⟨Un.kept hx.keeps, I.hok.kept hx.keeps, hx.new, fe, I.stkFree, ffB.of_keeps λ b o e _ => ⟨o, hx.keeps b o e, rfl⟩, λ b o e q hb => ?_, λ b o q => hx.keeps b o (jAj _ q)⟩
  have : ∃ o0, s1.heap.get? b = some o0 := by
   rcases q with q | q
   ·exact q
   ·exact tr b q
  obtain ⟨o0, e0⟩ := this
  have := hx.keeps b o0 e0
  rw [e] at this
  cases this
  exact PySem.W.hideAll_get _ e0 hb
 show wpAny (model P w) (A.deeper (envOfC qual scope s.heap.objs.size f cd)) (leaving (envOfC qual scope s.heap.objs.size f cd) (.ref e)) _ _ { s1 with heap := h1 }
 refine wpAny_leaves_madeW (s := { s1 with heap := h1 }) I.ok.frames rfl (λ b o q => jAj _ q) ffB hx λ h' t fl' _ _ k => ?_
 exact ⟨e, C, H1, _, _, rfl, os1, I.bare, qMn I (F.step k fl'.1) fl'.2.2.1, fl', q⟩
end
abbrev bmV : List Value := [.type "ValueError", .type "Exception", .type "BaseException", .type "object"]
theorem qZc {K : PySem.W.Frag} {h : Heap} {mg : Str -> Option Value} {x : Str} {C : Addr} (X : K.In h) (hm : mg x = some (.ref C)) (q : jCt K C bmV "ValueError.__new__" = true) : OwnCls x C bmV "ValueError.__new__" mg h := by
 refine ⟨hm, ?_⟩
 unfold jCt at q
 split at q
 ·rename_i dd cd sl ho
  split at q
  ·rename_i C' bm k0 k1 k2 k3 n k5 hm hs
   simp only [Bool.and_eq_true, beq_iff_eq, Bool.not_eq_true'] at q
   obtain ⟨⟨⟨⟨⟨rfl, rfl⟩, hdel⟩, ht⟩, hok⟩, hni⟩ := q
   obtain ⟨nm, bs, mro, ns, qn, hd, sn, sub, ab, col, del⟩ := cd
   dsimp only at hm hdel hok hni
   subst hm hdel
   have hsl : sl = #[k0, k1, k2, k3, some (.builtin "ValueError.__new__"), k5] := by
    obtain ⟨l⟩ := sl
    simp only at hs
    rw [hs]
   subst hsl
   exact ⟨bm, ns, nm, qn, bs, hd, sn, sub, ab, col, dd, k0, k1, k2, k3, k5, _, X _ _ ho, .of_isNs (PySem.W.isNs_of_in X hok), PySem.W.nsMap_none_of_in X hok hni, PySem.W.tail_of_in X ht⟩
  ·cases q
 ·cases q
def qIj (X : Cx) (E : XK) : Prop := ∀ (pins : List (Addr × Obj)) (σ : L2.St) (H : Hp) (s : Shared) (e C : Addr) (vs : List Value) (h' : Heap), Inv X pins σ H s -> Heap.MadeExcOf s.heap h' e (.ref C) vs -> E (.ref C) none H -> X.xe (.ref e) { s with heap := h' }
theorem qQm {P : Program} {w : World} {K : PySem.W.Frag} {mg : Str -> Option Value} {base : Heap} {N : List Str} {qual : Str} {scope : Scope} {f : Addr} {cd : Value} {A : Around} {outer : List Env} {s : Shared} {H : Hp} {E : XK} :
  qIj (qFe (CX1 P w) P w K mg base N qual scope f cd A outer s H E) E := λ _ _ _ _ _ _ _ _ I hx q => qXy I hx q
section
variable {X : Cx} {E : XK}
theorem qOa {x t : Str} {C : Addr} {np cpos pos p' : Pos} {j : Nat} (hR : qIj X E) (hg : Gl X x) (hm : X.mg x = some (.ref C)) (hq : jCt X.K C bmV "ValueError.__new__" = true) (hc : X.calm = true := by rfl) (hdb : (x == ("__debug__" : Str)) = false := by decide +kernel)
  (he : starEach [.Constant (.str t) j p'] X.env = (false, eval (.Constant (.str t) j p') X.env) :: starEach [] X.env := by rfl) (hpl : (backTo cpos (starEach [] X.env)).any (·.1) = false := by rfl) :
  PDS X E (.Raise (some (.Call (.Name x np) [.Constant (.str t) j p'] [] cpos)) none pos) (qAy x) := by
 unfold PDS
 intro pins s σ H D I ⟨W, δ, rr, hS, hδ, hg', hA⟩
 obtain rfl : Rs.er x W.S = rr := Option.some.inj hg'
 obtain ⟨C', m', q⟩ := hA
 have e : C' = C := by
  have : X.mg x = some (.ref C') := m'
  rw [hm] at this
  cases this
  rfl
 subst e
 obtain ⟨tl, Nn, nm, qn, bs, hdct, sn, sub, ab, col, dd, k0, k1, k2, k3, k5, mN, hC, hN, hni, T⟩ := (qZc I.kIn hm hq).obj
 refine wpAny_Raise_call_subT (C := C') (nm := nm) (q := qn) (N := Nn) (bs := bs) (bm := tl) (hdct := hdct) (sn := sn) (sub := sub) (ab := ab) (col := col) (dd := dd) (k0 := k0) (k1 := k1) (k2 := k2) (k3 := k3) (k5 := k5)
  PySem.F.excBase_ValueError (mN := mN) (T.hasType PySem.F.excBase_ValueError.hasBase) (I.ok.hd hc) (by rw [he]; show (false || (backTo cpos (starEach [] X.env)).any (·.1)) = false; rw [hpl]; rfl) hni (qDf I hg hm ⟨rfl, ?_⟩ hdb)
 rw [he]
 refine Calls.evalArgs_plain ?_
 refine Calls.spliced_cons ?_
 refine Calls.Constant_str (k := j) (pos := p') ?_
 refine spliced_none ⟨rfl, ?_, hC, hN, T, λ h' e hx => ?_⟩
 ·show 1 <= sizeLine; decide
 ·exact hR pins σ H { s with toks := s.toks + 1 } e C' _ h' (I.tok _) hx (q H W rfl (.rfl hS))
theorem qQ7 {st : Stmt} {g : DSt} (h : PDS X.nox E0 st g) : PDS X E st (qA4 g) := by
 unfold PDS at *
 intro pins s σ H D I ⟨W, δ, rr, hS, hδ, hg', hA⟩
 obtain ⟨a, S1, e1, e2⟩ := qBk hg'
 subst e2
 have := h pins s σ H D (I.wish _) ⟨W, δ, _, hS, hδ, e1, hA⟩
 exact wpAny_mono this (λ f s' q => SP.unwish q) λ e s' q => q.elim
end
theorem qJj.okX {P : Program} {w : World} {K : PySem.W.Frag} {mg : Str -> Option Value} {base : Heap} {x qual : Str} {st : Stmt} {f : Addr} {fd : FuncData} {N ps : List Str} {k : Nat} {sp : Sp} (F : qJj K x qual st f fd) (S : zM N ps (zC st)) (len : ∀ vs H Q E, sp vs H Q E -> vs.length = ps.length)
  (hbody : ∀ (cdv : Value) (A : Around) (outer : List Env) (s : Shared) (H : Hp) (vs : List V) (Q : VK) (E : XK), qBd k (A.deeper (envOfC qual (zC st) s.heap.objs.size f cdv)) -> sp vs H Q E ->
   ∃ t, PSs (qFe (CX1 P w) P w K mg base N qual (zC st) f cdv A outer s H E) (zG st) t /\ t { nx := λ _ H' => Q .non H', rt := Q } (start N vs) H) : qCf P w K mg base (CX1 P w) (k + 1) f fd ps sp := by
 obtain ⟨dV, oc, od, kV, doc, pm, an, cdv, ct, osl, rfl, lk, hcd⟩ := F.ex
 exact qR5 lk hcd S len λ A outer s H vs Q E hr hsp => hbody cdv A outer s H vs Q E hr hsp
theorem qZk {P : Program} {w : World} {K : PySem.W.Frag} {mg : Str -> Option Value} {base : Heap} {x qual : Str} {st : Stmt} {fa : Addr} {fd : FuncData} {N ps : List Str} {k : Nat} (n m : Nat) (g : DSt) {f : List D -> Sto -> R D} (hf : f = fnX n m g) (F : qJj K x qual st fa fd) (S : zM N ps (zC st)) (hn : N.length = n) (hm : ps.length = m)
  (hbody : ∀ (cdv : Value) (A : Around) (outer : List Env) (s : Shared) (H : Hp) (E : XK), qBd k (A.deeper (envOfC qual (zC st) s.heap.objs.size fa cdv)) ->
   qDl (qFe (CX1 P w) P w K mg base N qual (zC st) fa cdv A outer s H E) E (zG st) g) : qCf P w K mg base (CX1 P w) (k + 1) fa fd ps (spF ⟨K, mg⟩ f) := by
 subst hf hn hm
 refine qJj.okX F S (λ vs H Q E h => ?_) (λ cdv A outer s H vs Q E hr h => ?_)
 ·obtain ⟨W, ds, rr, _, rl, e, _⟩ := h
  rw [<- rl.length]
  unfold fnX at e
  split at e
  ·assumption
  ·cases e
 ·obtain ⟨W, ds, rr, hS, rl, e, hA⟩ := h
  have hb := hbody cdv A outer s H E hr
  unfold qDl at hb
  refine ⟨_, hb, ?_⟩
  have q : qRm (g (startD N.length ds) W.S) = some rr := by
   unfold fnX at e
   split at e
   ·exact e
   ·cases e
  cases z : g (startD N.length ds) W.S with
  | none => rw [z] at q; cases q
  | some r =>
   refine ⟨W, startD N.length ds, r, hS, qCr.start N rl, z, ?_⟩
   rw [z] at q
   cases r with
   | er c S1 =>
    obtain rfl : Rs.er c S1 = rr := Option.some.inj q
    exact hA
   | ok fl S1 =>
    cases fl with
    | nx δ =>
     obtain rfl : Rs.ok D.non S1 = rr := Option.some.inj q
     exact λ H1 W1 eS s1 σ1 hδ1 => hA H1 W1 eS s1 .non rfl
    | rt d' =>
     obtain rfl : Rs.ok d' S1 = rr := Option.some.inj q
     exact λ H1 W1 eS s1 v rv => hA H1 W1 eS s1 v rv
    | bk δ => cases q
    | ct δ => cases q
end Np
end
section
namespace Np
open PySem PySem.Spec PyProof.Rows L2
def qG0 (X : Cx) (ea : Addr) : Cx := { X with A := X.A.mark (some (.ref ea)), calm := false, xe := λ _ _ => False }
section
variable {X : Cx} {pins : List (Addr × Obj)} {σ : L2.St} {H : Hp} {s : Shared} {ea : Addr}
theorem Inv.mark (I : Inv X pins σ H s) (ea : Addr) : Inv (qG0 X ea) pins σ H s :=
 ⟨⟨I.ok.mod, I.ok.kind, I.ok.glob, I.ok.blt, I.ok.above, I.ok.inj, I.ok.has, I.ok.cab, λ h => (by cases h), I.ok.frames, I.ok.stk, I.ok.exf, I.ok.bs, I.ok.bsz, I.ok.noex, I.ok.exfs, I.ok.funs, I.ok.frf⟩, I.os, I.bare, I.base, I.loc, I.cell, I.free, I.freeC, I.pin, I.hok, I.len⟩
theorem Inv.unmark (I : Inv (qG0 X ea) pins σ H s) (ok : X.Ok) : Inv X pins σ H s := ⟨ok, I.os, I.bare, I.base, I.loc, I.cell, I.free, I.freeC, I.pin, I.hok, I.len⟩
theorem Inv.trackE {φ : Heap -> Prop} {oe : Obj} (I : Inv X pins σ H s) (hn : H ea = none) (hy : ∀ b o, X.s₀.heap.get? b = some o -> b ≠ ea) (he : s.heap.get? ea = some oe) (hd : ∀ v, oe.data ≠ .cell v) (hdd : ∀ es n, oe.data ≠ .dict es n) (hp : ∀ p ∈ X.pn ++ pins, p.1 ≠ ea)
  (hφ : φ s.heap) (hst : ∀ h1 h2 : Heap, φ h1 -> (∀ o, h1.get? ea = some o -> h2.get? ea = some o) -> φ h2) : Inv X pins σ (upd H ea (.ext φ)) s := by
 have nl : X.env.locals ≠ ea := λ z => by
  obtain ⟨m, ⟨o, es, n, ho, hod, _⟩, _⟩ := I.loc
  rw [z, he] at ho
  cases ho
  exact hdd _ _ hod
 have nc : ∀ x c, X.env.cells.lookup x = some c -> c ≠ ea := λ x c e z => by
  obtain ⟨v, o, ho, hod⟩ := I.cell x c e
  rw [z, he] at ho
  cases ho
  exact hd _ hod
 have ne : ∀ b u, H b = some u -> b ≠ ea := λ b u q => qAd q hn
 refine ⟨I.ok, I.os, I.bare, ⟨I.base.keep, I.base.slot, λ b o e n hx => by rw [zN (hy b o e)]; exact I.base.free b o e n hx, I.base.there, λ b xs q => ?_, λ b o u q => ?_, λ b ps q => ?_⟩, I.loc, I.cell, by rw [zN nl]; exact I.free, λ x c e => by rw [zN (nc x c e)]; exact I.freeC x c e, λ p q => ?_, λ b u q => ?_, I.len⟩
 ·have := I.base.tups b xs q
  rw [zN (ne b _ this)]
  exact this
 ·have := I.base.frzs b o u q
  rw [zN (ne b _ this)]
  exact this
 ·obtain ⟨more, this⟩ := I.base.tbls b ps q
  exact ⟨more, by rw [zN (ne b _ this)]; exact this⟩
 ·obtain ⟨a1, a2, a3⟩ := I.pin p q
  exact ⟨a1, by rw [zN (hp p q)]; exact a2, a3⟩
 ·by_cases hb : b = ea
  ·subst hb
   rw [zT] at q
   cases q
   exact ⟨hφ, ⟨oe, he⟩, hst⟩
  ·rw [zN hb] at q
   exact (I.hok b u q).stay (λ c v _ z => z) (λ c z => by rw [zN (ne c _ z)]; exact z) λ c xs z => by rw [zN (ne c _ z)]; exact z
theorem Inv.names {h' : Heap} {m : Str -> Option Value} {v : Option Value} {j : Nat} {n : Str} {t : Nat} (I : Inv X pins σ H s) (hN : X.N.Nodup) (hj : X.N[j]? = some n) (hm : ∀ (i : Nat) (x : Str) (v : V), X.N[i]? = some x -> σ[i]? = some (some v) -> Vis X.env.scope x -> ∃ u, qA6 v u /\ qYs X.env s.heap m x u)
  (hn : h'.Ns X.env.locals (λ x => if x = n then v else m x)) (hs : Heap.SameBut X.env.locals s.heap h') : Inv X pins (σ.set j none) H { s with heap := h', toks := t } := by
 have cne := I.cne
 refine ⟨I.ok, I.os, I.bare, ⟨λ b o e nn hb hx => ?_, λ b o e nn hb hx => ?_, I.base.free, λ b o e hx => ?_, I.base.tups, I.base.frzs, I.base.tbls⟩, ⟨_, hn, λ i y v' e1 e2 e3 => ?_⟩, λ y c e => ?_, I.free, I.freeC, λ p hp => ?_, λ b ob e => ?_, by simpa using I.len⟩
 ·exact (hs.2 b (jAf (jAd (jAc e) I.ok.above))).trans (I.base.keep b o e nn hb hx)
 ·obtain ⟨sl, e1⟩ := I.base.slot b o e nn hb hx
  exact ⟨sl, (hs.2 b (jAf (jAd (jAc e) I.ok.above))).trans e1⟩
 ·obtain ⟨o', e1⟩ := I.base.there b o e hx
  exact ⟨o', (hs.2 b (jAf (jAd (jAc e) I.ok.above))).trans e1⟩
 ·by_cases hi : i = j
  ·subst hi
   exfalso
   rw [jCu] at e2
   split at e2
   ·split at e2 <;> cases e2
   ·rename_i z; exact z rfl
  ·rw [jAu (Ne.symm hi)] at e2
   obtain ⟨u, r, l⟩ := hm i y v' e1 e2 e3
   refine ⟨u, r, ?_⟩
   rcases l with ⟨k, e⟩ | ⟨k, c, e, z⟩
   ·refine .inl ⟨k, ?_⟩
    have : y ≠ n := λ e => hi (qFq hN e1 (e ▸ hj))
    simp [this, e]
   ·exact .inr ⟨k, c, e, z.sameBut hs (cne y c e)⟩
 ·obtain ⟨w', z⟩ := I.cell y c e
  exact ⟨w', z.sameBut hs (cne y c e)⟩
 ·obtain ⟨e, nn, ne, nf, d⟩ := I.pin p hp
  exact ⟨(hs.2 p.1 ne).trans e, nn, ne, nf, d⟩
 ·refine (I.hok b ob e).stay (λ c w' hc q => (hs.2 c ?_).trans q) (λ _ q => q) λ _ _ q => q
  rintro rfl
  have fr := I.free
  rcases hc with rfl | hc
  ·rw [fr] at e; cases e
  ·rw [fr] at hc; cases hc
theorem qL6 {A : Around} {E : Value -> Shared -> Prop} {j : Nat} {n : Str} {pos : Pos} {Q : Unit -> Shared -> Prop} (I : Inv X pins σ H s) (hN : X.N.Nodup) (hj : X.N[j]? = some n) (hl : X.env.scope.names.lookup n = some .local) (h : ∀ s', Inv X pins (σ.set j none) H s' -> Q () s') :
  wpAny (model X.prog X.w) A (do bindName X.env n .none; unbindBehindTheSuite X.env n pos) Q E s := by
 have hcls : (X.env.scope.kind == .class || (X.env.scope.kind == .module && X.env.locals != X.env.globals)) = false := by rw [I.ok.kind]; rfl
 have hk : X.env.kindOf n = some .local := hl
 refine wpAny_bind (wpAny_bindName (qC0 (v := .non) I hN hj (.inl hl) rfl (λ s1 I1 => ?_) (.inr hl)))
 obtain ⟨m1, hn1, hm1⟩ := I1.loc
 unfold unbindBehindTheSuite
 refine wpAny_onRaise ?_
 unfold unbindName
 refine wpAny_bind (wpAny_point (wpAny_bind ?_))
 unfold deleteName
 simp only [hk, hcls]
 rw [if_neg (by decide)]
 have hs1 : m1 n = some .none := by
  have hj' : j < σ.length := by rw [I.len]; exact (jAs.mp hj).1
  obtain ⟨u, r, l⟩ := hm1 j n .non hj (by rw [jAt hj']) (.inl hl)
  rcases l with ⟨_, e⟩ | ⟨k, _⟩
  ·have r : u = Value.none := r
   rw [e, r]
  ·rcases k with k | k <;> (rw [hk] at k; cases k)
 refine wpAny_bind (wpAny_nsDel_keeps hn1 λ h2 v hn2 hs2 => ?_)
 rw [hs1]
 simp only [if_true, jCl, Bool.not_true, Bool.false_eq_true, if_false]
 refine wpAny_pure (wpAny_point (h _ ?_))
 have := Inv.names (t := s1.toks) (v := v) I1 hN hj hm1 hn2 hs2
 rw [List.set_set] at this
 exact this
end
theorem qCr.unset {G : Gx} {H : Hp} {W : Wd} {δ : DS} {σ : L2.St} (j : Nat) (h : qCr G H W δ σ) : qCr G H W (δ.set j none) (σ.set j none) := by
 refine ⟨by simp [h.1], λ i d e => ?_⟩
 by_cases hi : i = j
 ·subst hi
  rw [jCu] at e
  split at e
  ·split at e <;> cases e
  ·rename_i z; exact absurd rfl z
 ·rw [jAu (Ne.symm hi)] at e ⊢
  exact h.2 i d e
theorem qJ7 {K : PySem.W.Frag} {M : Model} {A : Around} {E : Value -> Shared -> Prop} {s : Shared} {x t c : Value} {dep : Int} {tk : Tok} {Q : Fin -> Shared -> Prop} (X : K.In s.heap) (LT : PySem.W.Looks M s.heap (typeOf x) t) (e : jCv K t c = some true) (h : Q (.done (.ret (.bool true))) s) :
  wpAny M A (Builtin.«isinstance.nested» ⟨[x, c, .int dep tk], []⟩) Q E s := by
 obtain ⟨h0, g, d, tt, os⟩ := s
 unfold jCv at e
 unfold Builtin.«isinstance.nested»
 refine wpAny_bind (LT.at ?_)
 by_cases q : (t == c) = true
 ·rw [if_pos q]
  exact wpAny_bind (wpAny_rule (wpAny_bind (wpAny_pure (wpAny_pure h))))
 ·rw [if_neg q] at e
  rw [if_neg q]
  obtain ⟨hty, his, hsub⟩ := PySem.W.kit_cls (M := M) X e
  have LI : PySem.W.Looks M h0 (isInstance x c) true := LT.andThen hsub
  refine wpAny_bind (hty.at ?_)
  rw [if_pos (by decide)]
  k_delta "plainIsInstance"
  refine wpAny_bind (wpAny_bind (his.at ?_))
  simp only [Bool.not_true, Bool.false_eq_true, if_false]
  refine wpAny_bind (LI.at ?_)
  simp only [if_true]
  exact wpAny_pure (wpAny_pure h)
theorem qOv {K : PySem.W.Frag} {prog : Program} {w : World} {A : Around} {E : Value -> Shared -> Prop} {s : Shared} {x t c : Value} {Q : Value -> Shared -> Prop} (X : K.In s.heap) (ht : ∀ M, PySem.W.Looks M s.heap (typeOf x) t) (e : jCv K t c = some true) (hx : x ≠ .builtin "__main__.__loader__#opaque") (h : Q (.bool true) s) :
  wpAny (model prog w) A (call (.builtin "isinstance") [x, c]) Q E s :=
 call_isinstance (S := λ _ R s => (K.In s.heap /\ ∀ M, PySem.W.Looks M s.heap (typeOf x) t) /\ R (.ok (.ret (.bool true))) s) (λ _ _ _ _ _ hs => isinstance_outer (qJ7 hs.1.1 (hs.1.2 _) e hs.2) hx) ⟨⟨X, ht⟩, h⟩
section
variable {X : Cx} {E : XK}
def qYi (G : Gx) (cv : Value) (cV : V) : List V -> Hp -> VK -> Prop := λ vs H Q => ∃ ea C, vs = [.ref ea, cV] /\ H ea = some (.ext (qC6 ea C)) /\ jCv G.K (.ref C) cv = some true /\ Q (.bl true) H
theorem qO7 {cv : Value} {cV : V} (hcv : ∀ u, qA6 cV u -> u = cv) : qBm X (.builtin "isinstance") (qYi (gx X) cv cV) := by
 intro pins s σ H vs us Q I r h
 obtain ⟨ea, C, rfl, ho, ek, q⟩ := h
 cases r with
 | cons r1 r2 =>
  cases r2 with
  | cons r2 r3 =>
   cases r3
   have e1 : _ = Value.ref ea := r1
   have e2 := hcv _ r2
   subst e1 e2
   obtain ⟨⟨o, hoo, hoc⟩, _⟩ := (show qA9 X.prog X.w H s.heap ea (.ext (qC6 ea C)) from I.hok ea _ ho)
   refine qOv (t := .ref C) I.kIn (λ M => ?_) ek (λ z => nomatch z) ⟨.bl true, H, I, rfl, q⟩
   have := (PySem.W.Looks.ld (M := M) (part := none) hoo).andThen (f := λ o => (pure o.cls : Sem Value)) .now
   rw [hoc] at this
   exact this
theorem qS8 {cv : Value} {cV : V} {yes : List Str} {ge : DE} {te : TA} (hy : ∀ c ∈ yes, ∃ C, X.mg c = some (.ref C) /\ jCv X.K (.ref C) cv = some true) {σ : L2.St} {H : Hp} {Q : VK} (h : tF (gx X) E (op1 (qSp yes) ge) σ H Q) : tF (gx X) E ge σ H λ v H1 => qYi (gx X) cv cV [v, cV] H1 Q := by
 obtain ⟨W, δ, rr, hS, hδ, hg', hA⟩ := h
 refine Go.thn hS hδ hg' hA λ d H1 W1 s1 hδ1 hg1 hA1 v rv => ?_
 cases d with
 | exc c =>
  have hg1 : (if yes.contains c = true then ok (.bl true) W1.S else none) = some rr := hg1
  by_cases hc : yes.contains c = true
  ·rw [if_pos hc] at hg1
   obtain rfl : Rs.ok (D.bl true) W1.S = rr := Option.some.inj hg1
   obtain ⟨ea, C, rfl, hmc, ho⟩ := rv
   obtain ⟨C', hm', ek⟩ := hy c (by simpa using hc)
   have hmc : X.mg c = some (.ref C) := hmc
   rw [hm'] at hmc
   cases hmc
   exact ⟨ea, _, rfl, ho, ek, hA1.now s1.ok _ rfl⟩
  ·rw [if_neg hc] at hg1
   cases hg1
 | _ => cases hg1
theorem qRd {B : String} {yes : List Str} {e : Expr} {ge : DE} {p p2 pos : Pos} {T : Str} (hT : bootBuiltins T = some (.type B)) (hg : Gl X "isinstance") (hm : X.mg "isinstance" = none) (hgT : Gl X T) (hmT : X.mg T = none) (hy : ∀ c ∈ yes, ∃ C, X.mg c = some (.ref C) /\ jCv X.K (.ref C) (.type B) = some true) (he : PDE X E e ge)
  (hv : bootBuiltins "isinstance" = some (.builtin "isinstance") := by decide +kernel) (hnT : T ≠ "__name__" := by decide +kernel) (hdT : (T == ("__debug__" : Str)) = false := by decide +kernel)
  (hst : starEach (e :: [.Name T p2]) X.env = (false, eval e X.env) :: starEach [.Name T p2] X.env := by rfl) (hst2 : starEach (.Name T p2 :: []) X.env = (false, eval (.Name T p2) X.env) :: starEach [] X.env := by rfl)
  (hpl : (backTo pos (starEach [.Name T p2] X.env)).any (·.1) = false := by rfl) :
  PDE X E (.Call (.Name "isinstance" p) [e, .Name T p2] [] pos) (op1 (qSp yes) ge) := by
 unfold PDE at *
 exact PE.imp (qCm (qO7 (cv := .type B) (cV := .ty B) λ u r => r) hg hm hv (qAr he (qAr (qLq (v := .ty B) hgT hmT hT rfl hnT hdT) qEf hst2) hst) (by decide +kernel) (by decide +kernel) hst hpl) λ σ H Q h => qS8 (te := qWv) hy h
end
end Np
end
section
namespace Np
open PySem PySem.Spec PyProof.Rows L2
def qCi (K : PySem.W.Frag) (C : Addr) : Bool := (jCw K C).isSome && jA5 K (.ref C) "__getattribute__" == some (some (.builtin "BaseException.__getattribute__")) && jA5 K (.ref C) "__getattr__" == some none && jA5 K (.ref C) "__class__" == some (some (.builtin "object.__class__"))
 && jCx K (.ref C) (.type "BaseException") == some true && jCx K (.ref C) (.type "object") == some true
structure qCk (K : PySem.W.Frag) (C : Addr) : Prop where
 cls : (jCw K C).isSome = true
 ga : jA5 K (.ref C) "__getattribute__" = some (some (.builtin "BaseException.__getattribute__"))
 nga : jA5 K (.ref C) "__getattr__" = some none
 cl : jA5 K (.ref C) "__class__" = some (some (.builtin "object.__class__"))
 be : jCx K (.ref C) (.type "BaseException") = some true
 ob : jCx K (.ref C) (.type "object") = some true
theorem qCk.of {K : PySem.W.Frag} {C : Addr} (h : qCi K C = true) : qCk K C := by
 unfold qCi at h
 simp only [Bool.and_eq_true, beq_iff_eq] at h
 exact ⟨h.1.1.1.1.1, h.1.1.1.1.2, h.1.1.1.2, h.1.1.2, h.1.2, h.2⟩
section
variable {prog : Program} {w : World} {A : Around} {E : Value -> Shared -> Prop} {h : Heap} {g : Array GenState} {d : Drawn} {t : Nat} {os : OsState} {a C : Addr} {o : Obj} {K : PySem.W.Frag}
theorem qSv {R : Result -> Shared -> Prop} (X : K.In h) (Z : qCk K C) (hx : h.get? a = some o) (hc : o.cls = .ref C) (hq : R (.ok (.ret (.ref C))) ⟨h, g, d, t, os⟩) :
  codeAny (model prog w) A (.call (.builtin "getset_descriptor.__get__") ⟨[.builtin "object.__class__", .ref a, .ref C], []⟩) R ⟨h, g, d, t, os⟩ := by
 have hT5 : (⟨h, g, d, t, os⟩ : Shared).TypeIs (.builtin "object.__class__") "getset_descriptor" := PySem.F.typeOf_object_class
 have S := λ M => PySem.W.looks_subIn (M := M) X Z.ob
 refine codeAny_call_builtin F.slot_gs_get.plain F.entry_gs_get (F.slot_gs_get.check _ _ _ _ _ _ _ _ hT5 (F.args_gs_get _ _ _) ?_)
 repeat (any_goals (first | assumption | (with_reducible refine wpAny_loadPart_at hx ?_; rw [hc]) | (rw [F.owner_object_class]; refine (S _).at ?_) | wp_step))
 refine ⟨Code.quiet_builtin _ (by decide +kernel), codeAny_builtin F.entry_object_class ?_⟩
 repeat (any_goals (first | assumption | (with_reducible refine wpAny_loadPart_at hx ?_; rw [hc]) | wp_step))
theorem qNl {tk : Tok} {Q : Fin -> Shared -> Prop} (X : K.In h) (Z : qCk K C) (hx : h.get? a = some o) (hc : o.cls = .ref C) (hq : Q (.done (.ret (.ref C))) ⟨h, g, d, t, os⟩) :
  wpAny (model prog w) A (Builtin.«object.__getattribute__» ⟨[.ref a, .str "__class__" tk], []⟩) Q E ⟨h, g, d, t, os⟩ := by
 have hT5 : (⟨h, g, d, t, os⟩ : Shared).TypeIs (.builtin "object.__class__") "getset_descriptor" := PySem.F.typeOf_object_class
 have f5 := PySem.F.typeOf_object_class
 have f6 := F.slot_gs_get.lookup
 have f7 := F.slot_gs_set.lookup
 have S := λ M => jBd (M := M) X Z.cl
 repeat (any_goals (first | assumption | (with_reducible refine wpAny_loadPart_at hx ?_; rw [hc]) | with_reducible refine (S _).at ?_ | wp_step))
 refine qSv X Z hx hc ?_
 repeat (any_goals (first | assumption | wp_step))
theorem qNm {M : Model} {nameV : Value} {Q : Unit -> Shared -> Prop} (X : K.In h) (Z : qCk K C) (hx : h.get? a = some o) (hc : o.cls = .ref C) (hq : Q () ⟨h, g, d, t, os⟩) : wpAny M A (checkBuiltinCall "BaseException.__getattribute__" ⟨[.ref a, nameV], []⟩) Q E ⟨h, g, d, t, os⟩ := by
 have hk : builtinKind "BaseException.__getattribute__" = some .slot := by decide +kernel
 have hsplit : splitId "BaseException.__getattribute__" = some ("BaseException", "__getattribute__") := by decide +kernel
 have ha := F.args_bexc_ga (.ref a) nameV
 have S := PySem.W.looks_subIn (M := M) X Z.be
 simp only [checkBuiltinCall, hk, hsplit]
 refine wpAny_bind ?_
 ·unfold isInstance
  repeat (first | (with_reducible refine wpAny_loadPart_at hx ?_; rw [hc]) | with_reducible refine S.at ?_ | wp_step)
  exact hq
theorem qP3 {tk : Tok} {R : Result -> Shared -> Prop} (X : K.In h) (Z : qCk K C) (hx : h.get? a = some o) (hc : o.cls = .ref C) (hq : R (.ok (.ret (.ref C))) ⟨h, g, d, t, os⟩) :
  codeAny (model prog w) A (.call (.builtin "BaseException.__getattribute__") ⟨[.ref a, .str "__class__" tk], []⟩) R ⟨h, g, d, t, os⟩ :=
 codeAny_call_builtin PySem.F.attr_ValueError.ga.plain F.entry_bexc_ga (qNm X Z hx hc (qNl X Z hx hc hq))
theorem qWp {tk : Tok} {Q : Value -> Shared -> Prop} (X : K.In h) (Z : qCk K C) (hx : h.get? a = some o) (hc : o.cls = .ref C) (hq : Q (.ref C) ⟨h, g, d, t, os⟩) :
  wpAny (model prog w) A (getAttrBy (.ref a) (.str "__class__" tk) false) Q E ⟨h, g, d, t, os⟩ := by
 have S1 := λ M => jBd (M := M) X Z.ga
 have S2 := λ M => jBd (M := M) X Z.nga
 have f3 := PySem.F.attr_ValueError.ga.bind (.ref a)
 have hx0 : (false && onTheHeap (Value.builtin "BaseException.__getattribute__")) = false := rfl
 have hx2 : (Value.builtin "BaseException.__getattribute__" == Value.builtin "object.__getattribute__") = false := by decide +kernel
 have hx1 : (onTheHeap (Value.ref C) && Value.builtin "BaseException.__getattribute__" == Value.builtin "object.__getattribute__") = false := by rw [hx2]; rfl
 repeat (any_goals (first | assumption | (with_reducible refine wpAny_loadPart_at hx ?_; rw [hc]) | with_reducible refine (S1 _).at ?_ | with_reducible refine (S2 _).at ?_ | wp_step))
 refine qP3 X Z hx hc ?_
 repeat (any_goals (first | assumption | wp_step))
theorem qP4 {Q : Option Value -> Shared -> Prop} (X : K.In h) (Z : qCk K C) (hx : h.get? a = some o) (hc : o.cls = .ref C) (hq : Q (some (.ref C)) ⟨h, g, d, t + 1, os⟩) : wpAny (model prog w) A (getAttr? (.ref a) "__class__") Q E ⟨h, g, d, t, os⟩ := by
 unfold getAttr? getAttrBy?
 repeat (any_goals (first | assumption | with_reducible apply qWp X Z hx hc | wp_step))
end
theorem qI2 {K : PySem.W.Frag} {ea C : Addr} (Z : qCk K C) : PySem.W.KitX K (.ref ea) (.ref C) (qC6 ea C) where
 ty := λ M h _ ⟨o, ho, hc⟩ => by
  have := (PySem.W.Looks.ld (M := M) (part := none) ho).andThen (f := λ o => (pure o.cls : Sem Value)) .now
  rw [hc] at this
  exact this
 it := λ _ _ X _ => by
  have hcD := Z.cls
  unfold jCw at hcD
  split at hcD
  ·rename_i c' d' cd' sl' ho
   intro A' Q' E' s' k q
   unfold isType loadHead
   exact wpAny_bind (wpAny_loadPart (k _ _ (X _ _ ho)) (wpAny_pure q))
  ·cases hcD
 ne := λ h tp dd its n sl X htp => by
  have hcD := Z.cls
  refine Bool.eq_false_iff.mpr λ q => ?_
  have e : C = tp := Value.ref.inj (beq_iff_eq.mp q)
  subst e
  unfold jCw at hcD
  split at hcD
  ·rename_i c' d' cd' sl' ho
   have z := (X _ _ ho).symm.trans htp
   cases z
  ·cases hcD
 ca := fun {_ _ _ _ _ s} X ⟨o, ho, hc⟩ k => by
  obtain ⟨h, g, d, t, os⟩ := s
  exact qP4 X Z ho hc k
section
variable {X : Cx} {E : XK}
theorem qGg : ∀ {cs : List Addr} {us : List Value}, qAn (cs.map V.ref) us -> us = cs.map Value.ref
 | [], _, .nil => rfl
 | c :: cs, _, .cons r t => by
  have r : _ = Value.ref c := r
  rw [r, qGg t]
  rfl
def qW6 (G : Gx) (cs : List Addr) : List V -> Hp -> VK -> Prop := λ vs H Q => ∃ ea C p, vs = [.ref ea, .ref p] /\ H p = some (.tup (cs.map V.ref)) /\ H ea = some (.ext (qC6 ea C)) /\ qCk G.K C /\ jCy G.K (.ref C) (cs.map Value.ref) = some false /\ Q (.bl false) H
theorem qMz {cs : List Addr} : qBm X (.builtin "isinstance") (qW6 (gx X) cs) := by
 intro pins s σ H vs us Q I r h
 obtain ⟨ea, C, p, rfl, hp, ho, Z, ek, q⟩ := h
 obtain ⟨u, w, rfl, rx, rw'⟩ := qAn.two r
 cases rx; cases rw'
 have hx : qC6 ea C s.heap := (show qA9 X.prog X.w H s.heap ea (.ext (qC6 ea C)) from I.hok ea _ ho).1
 obtain ⟨its, rv, ⟨o, hoo, hc, kk, hd⟩, hz⟩ := I.tuple (SqT.of hp)
 have ei := qGg rv
 subst ei
 obtain ⟨cls, dict, data, slots⟩ := o
 subst hc hd
 exact PySem.W.kia_tup (qI2 Z) I.kIn hx hoo ek (λ z => nomatch z) λ tk => ⟨.bl false, H, I.tok tk, rfl, q⟩
theorem qRc {cs : List Addr} {no : List Str} {e : Expr} {ts : List Expr} {ta : TA} {ge : DE} {p p4 pos : Pos} {x1} (hg : Gl X "isinstance") (hm : X.mg "isinstance" = none) (hts : PA X ts ta) (hta : ∀ σ H Q, Q (cs.map V.ref) H -> ta σ H Q) (hl : cs.length <= 1000000)
  (hn : ∀ c ∈ no, ∃ C, X.mg c = some (.ref C) /\ qCi X.K C = true /\ jCy X.K (.ref C) (cs.map Value.ref) = some false) (he : PDE X E e ge)
  (hv : bootBuiltins "isinstance" = some (.builtin "isinstance") := by decide +kernel)
  (hst : starEach (e :: [.Tuple ts x1 p4]) X.env = (false, eval e X.env) :: starEach [.Tuple ts x1 p4] X.env := by rfl)
  (hst2 : starEach [.Tuple ts x1 p4] X.env = (false, eval (.Tuple ts x1 p4) X.env) :: starEach [] X.env := by rfl)
  (hpl : (backTo pos (starEach [.Tuple ts x1 p4] X.env)).any (·.1) = false := by rfl) :
  PDE X E (.Call (.Name "isinstance" p) [e, .Tuple ts x1 p4] [] pos) (op1 (qMe no) ge) := by
 unfold PDE at *
 refine PE.imp (qCm (qMz (cs := cs)) hg hm hv (qAr he (qAr (qPo hts) qEf hst2) hst) (by decide +kernel) (by decide +kernel) hst hpl) λ σ H Q ⟨W, δ, rr, hS, hδ, hg', hA⟩ => ?_
 refine Go.thn hS hδ hg' hA λ d H1 W1 s1 hδ1 hg1 hA1 v rv => hta _ _ _ ?_
 cases d with
 | exc c =>
  have hg1 : (if no.contains c = true then ok (.bl false) W1.S else none) = some rr := hg1
  by_cases hc : no.contains c = true
  ·rw [if_pos hc] at hg1
   obtain rfl : Rs.ok (D.bl false) W1.S = rr := Option.some.inj hg1
   obtain ⟨ea, C, rfl, hmc, ho⟩ := rv
   obtain ⟨C', hm', eg, ek⟩ := hn c (by simpa using hc)
   have hmc : X.mg c = some (.ref C) := hmc
   rw [hm'] at hmc
   cases hmc
   refine ⟨sz (by rw [jBh]; exact hl), λ q hq => ?_⟩
   exact ⟨ea, _, q, rfl, zT, by rw [zN (qAd ho hq)]; exact ho, .of eg, ek, hA1 _ W1 rfl (Nxt.heap s1.ok hq _) _ rfl⟩
  ·rw [if_neg hc] at hg1
   cases hg1
 | _ => cases hg1
end
end Np
end
section
namespace Np
open PySem PySem.Spec PyProof.Rows L2
section
variable {X : Cx} {E : XK}
theorem qQw {pos : Pos} : PE X (.Dict [] [] pos) (λ _ H Q => ∀ p, H p = none -> Q (.ref p) (upd H p (.dK []))) := λ pins s σ H Q I h => by
 have hb : sysModules < s.heap.objs.size := by
  have h : mainGlobals < s.heap.objs.size := (I.mod.glob.keeps I.bk).lt
  exact jCo (by decide) h
 exact wpAny_Dict_empty ⟨.ref s.heap.objs.size, _, I.laid (a := s.heap.objs.size) (o := .dK []) (t' := s.toks) (λ _ _ q => jAv _ q) (jAy _) ⟨jBk _, beq_eq_false_iff_ne.mpr (Ne.symm (jAf hb)), [], .nil, Heap.DictOf.new s.heap⟩, rfl, h _ (I.hok.fresh (jAy _))⟩
theorem qRh {pos : Pos} : PDE X E (.Dict [] [] pos) qSq := by
 try unfold PDE at *
 refine PE.imp qQw λ σ H Q ⟨W, δ, rr, hS, hδ, hg, hA⟩ p hp => ?_
 obtain rfl : Rs.ok (D.ref W.S.length) (W.S ++ [O.dct []]) = rr := Option.some.inj hg
 refine hA _ (W.push p (.dct [])) rfl (Nxt.alloc hS hp ⟨rfl, zT⟩) _ ⟨?_, ?_⟩
 ·simp [Wd.push]
 ·show V.ref p = .ref (if W.S.length = W.S.length then p else _)
  rw [if_pos rfl]
theorem qVs {G : Gx} : qEw G (λ xs H Q => ∃ p ys, xs = [.ref p] /\ ((SqL G.K H p ys /\ ∀ l, H l = none -> Q (.ref l) (upd H l (.tup ys))) \/ (SqT G.K H p ys /\ Q (.ref p) H))) qS2 := by
 intro E H W vs ds Q rr hS rl e hA
 unfold qS2 at e
 split at e
 ·rename_i a
  split at e
  ·rename_i xs hx
   obtain ⟨v, r, rfl, rx, t⟩ := rl
   have t : r = [] := t
   subst t
   obtain rfl : Rs.ok (D.tup xs) W.S = rr := Option.some.inj e
   obtain ⟨us, ex, hq, rl⟩ := hS.lst rx hx
   subst ex
   exact ⟨_, us, rfl, .inl ⟨.inl (.inl hq), λ p hp => hA _ W rfl (Nxt.heap hS hp _) _ ⟨p, us, rfl, SqT.of zT, rl.mv (Mv.heap hp _)⟩⟩⟩
  ·cases e
 ·rename_i xs
  obtain ⟨v, r, rfl, ⟨a, us, rfl, q, rl⟩, t⟩ := rl
  have t : r = [] := t
  subst t
  obtain rfl : Rs.ok (D.tup xs) W.S = rr := Option.some.inj e
  exact ⟨a, us, rfl, .inr ⟨q, hA.now hS _ ⟨a, us, rfl, q, rl⟩⟩⟩
 ·cases e
end
end Np
end
section
namespace Np
open PySem PySem.Spec PyProof.Rows L2
theorem qE5 {G : Gx} {H : Hp} {W : Wd} {f : Str} {d : D} : ∀ {fs : List (Str × D)} {ps : List (Str × V)}, ps.map (·.1) = fs.map (·.1) -> qAl G H W (fs.map (·.2)) (ps.map (·.2)) -> fs.lookup f = some d -> ∃ v, ps.lookup f = some v /\ Rep G H W d v
 | [], _, _, _, h => by cases h
 | (g, x) :: fs, ps, e, r, h => by
  cases ps with
  | nil => cases e
  | cons p ps =>
   obtain ⟨k, v⟩ := p
   obtain ⟨e1, e2⟩ := List.cons.inj e
   have e1 : k = g := e1
   subst e1
   obtain ⟨v', r', ev, r1, r2⟩ := r
   obtain ⟨rfl, rfl⟩ := List.cons.inj ev
   rw [jCi] at h ⊢
   split at h
   ·rename_i hb
    cases h
    exact ⟨v, rfl, r1⟩
   ·exact qE5 e2 r2 h
theorem qB5 {f : Str} : ∀ {fs : List (Str × D)} {ps : List (Str × V)}, ps.map (·.1) = fs.map (·.1) -> fs.lookup f = none -> ps.lookup f = none
 | [], ps, e, _ => by
  cases ps with
  | nil => rfl
  | cons p ps => cases e
 | (g, x) :: fs, ps, e, h => by
  cases ps with
  | nil => cases e
  | cons p ps =>
   obtain ⟨k, v⟩ := p
   obtain ⟨e1, e2⟩ := List.cons.inj e
   have e1 : k = g := e1
   subst e1
   rw [jCi] at h ⊢
   split at h
   ·cases h
   ·exact qB5 e2 h
theorem qLc {G : Gx} {H : Hp} {W : Wd} {f : Str} {d : D} {v : V} (q : Rep G H W d v) : ∀ {fs : List (Str × D)} {ps : List (Str × V)}, ps.map (·.1) = fs.map (·.1) -> qAl G H W (fs.map (·.2)) (ps.map (·.2)) -> (qEb f v ps).map (·.1) = (qIs f d fs).map (·.1) /\ qAl G H W ((qIs f d fs).map (·.2)) ((qEb f v ps).map (·.2))
 | [], ps, e, _ => by
  cases ps with
  | nil => exact ⟨rfl, ⟨v, [], rfl, q, rfl⟩⟩
  | cons p ps => cases e
 | (g, x) :: fs, ps, e, r => by
  cases ps with
  | nil => cases e
  | cons p ps =>
   obtain ⟨k, y⟩ := p
   obtain ⟨e1, e2⟩ := List.cons.inj e
   have e1 : k = g := e1
   subst e1
   obtain ⟨v', r', ev, r1, r2⟩ := r
   obtain ⟨rfl, rfl⟩ := List.cons.inj ev
   rw [show qEb f v ((k, y) :: ps) = (if k = f then (k, v) :: ps else (k, y) :: qEb f v ps) from rfl, show qIs f d ((k, x) :: fs) = (if k = f then (k, d) :: fs else (k, x) :: qIs f d fs) from rfl]
   by_cases hk : k = f
   ·rw [if_pos hk, if_pos hk]
    exact ⟨congrArg (k :: ·) e2, ⟨v, _, rfl, q, r2⟩⟩
   ·rw [if_neg hk, if_neg hk]
    obtain ⟨i1, i2⟩ := qLc q e2 r2
    exact ⟨congrArg (k :: ·) i1, ⟨y, _, rfl, r1, i2⟩⟩
section
variable {X : Cx} {E : XK} {c f m : Str} {C : Addr} {e o : Expr} {ge go : DE} {pos pos' : Pos}
theorem qB0.inst {H : Hp} {W : Wd} {a : Nat} {fs : List (Str × D)} (h : qB0 (gx X) H W) (hm : X.mg c = some (.ref C)) (e : qBc W.S a = some (c, fs)) : ∃ dx ps, H (W.μ a) = some (.ins C dx ps) /\ ps.map (·.1) = fs.map (·.1) /\ qAl (gx X) H W (fs.map (·.2)) (ps.map (·.2)) := by
 obtain ⟨C', dx, ps, m', q, n, r⟩ := h.get a _ (qDh e)
 have m' : X.mg c = some (.ref C') := m'
 rw [hm] at m'
 cases m'
 exact ⟨dx, ps, q, n, r⟩
theorem qUn (hc : Cls X.K C) (hn : qDc X.K C f) (hm : X.mg c = some (.ref C)) (he : PDE X E e ge) (hb : attributeBase e f X.env (eval e X.env) = eval e X.env := by rfl) : PDE X E (.Attribute e f pos) (op1 (qAt c f) ge) := by
 try unfold PDE at *
 refine PE.imp (qT3 he hb) λ σ H Q ⟨W, δ, rr, hS, hδ, hg, hA⟩ => ?_
 refine Go.thn hS hδ hg hA λ d H1 W1 s1 hδ1 hg1 hA1 v rv => ?_
 unfold qAt at hg1
 split at hg1
 ·rename_i a
  split at hg1
  ·rename_i c' fs hi
   split at hg1
   ·rename_i ec
    subst ec
    split at hg1
    ·rename_i d hl
     obtain rfl : Rs.ok d W1.S = rr := Option.some.inj hg1
     obtain ⟨dx, ps, q, n, r⟩ := s1.ok.inst hm hi
     obtain ⟨u, hu, ru⟩ := qE5 n r hl
     exact ⟨_, C, dx, ps, u, rv.2, q, hc, hn, hu, hA1.now s1.ok _ ru⟩
    ·cases hg1
   ·cases hg1
  ·cases hg1
 ·cases hg1
theorem qQ5 {value : Expr} {gv : DE} (hc : Cls X.K C) (hn : qDc X.K C f) (hm : X.mg c = some (.ref C)) (ho : PDE X E o go) (hv : PDE X E value gv) (hs : swapsWith value (some (.Attribute o f pos')) pos.line X.env = pure false := by rfl) :
  PDS X E (.Assign [.Attribute o f pos'] value pos) (qDv c f go gv) := by
 try unfold PDE at *
 try unfold PDS at *
 refine PS.imp (qTr ho hv hs) λ D σ H ⟨W, δ, rr, hS, hδ, hg, hA⟩ => ?_
 refine Go.thn hS hδ hg hA λ d H1 W1 s1 hδ1 hg1 hA1 v rv => ?_
 refine Go.thn s1.ok hδ1 hg1 hA1 λ x H2 W2 s2 hδ2 hg2 hA2 y ry => ?_
 have rv2 := rv.mv (s2.mv s1.ok)
 unfold qJr at hg2
 split at hg2
 ·rename_i a
  split at hg2
  ·rename_i c' fs hi
   split at hg2
   ·rename_i ec
    obtain ⟨ec, hl⟩ := ec
    subst ec
    obtain rfl : Rs.ok (Fl.nx δ) (W2.S.set a (.ins c' (qIs f d fs))) = rr := Option.some.inj hg2
    obtain ⟨dx, ps, q, n, r⟩ := s2.ok.inst hm hi
    refine ⟨_, C, dx, ps, ry.2, q, hc, hn, ?_, ?_⟩
    ·have := congrArg jBt n
     simp at this
     omega
    ·have mp := Mv.put (G := gx X) (W := W2) s2.ok ry.1 (.ins C dx (qEb f v ps)) (.ins c' (qIs f d fs))
     obtain ⟨k1, k2⟩ := qLc (f := f) rv2 n r
     have nx : Nxt (gx X) H2 W2 (upd H2 (W2.μ a) (.ins C dx (qEb f v ps))) (W2.put a (.ins c' (qIs f d fs))) := Nxt.write s2.ok ry.1 ⟨C, dx, qEb f v ps, hm, zT, k1, k2.mv mp⟩
     exact hA2 _ (W2.put a (.ins c' (qIs f d fs))) rfl nx σ (hδ2.mv mp)
   ·cases hg2
  ·cases hg2
 ·cases hg2
theorem qLt {CX : CXT} {k : Nat} {fa : Addr} {fd : FuncData} {ps : List Str} {F : List D -> Sto -> R D} {es : List Expr} {gs : DA} {apos : Pos} {pl : Sem Bool} (hc : Cls X.K C) (hM : qP2 X.K C m fa) (hm : X.mg c = some (.ref C)) (O : qCf X.prog X.w X.K X.mg X.base CX k fa fd ps (spF (gx X) F)) (hr : qBd k X.A) (hb : zS X.K fd ps []) (hx : qAv CX X E) (ho : PDE X E o go) (ha : PDA X E (e :: es) gs)
  (hst : starEach (e :: es) X.env = (false, eval e X.env) :: starEach es X.env := by rfl) (hpl : (backTo pos (starEach es X.env)).any (·.1) = false := by rfl)
  (ht : eval (.Call (.Attribute o m apos) (e :: es) [] pos) X.env = (do
   let ov <- eval o X.env
   standAt apos.atName
   let (f, first) <- holding [ov] (getMethod ov m pl)
   callWith pos f first (backTo pos (starEach (e :: es) X.env)) (backToKw pos (keywordEach [] X.env))) := by rfl) : PDE X E (.Call (.Attribute o m apos) (e :: es) [] pos) (qAg c m F go gs) := by
 try unfold PDE at *
 try unfold PDA at *
 refine PE.imp (qLn ho hc hM O hr hb .nil hx ha hst hpl ht) λ σ H Q ⟨W, δ, rr, hS, hδ, hg, hA⟩ => ?_
 refine Go.thn hS hδ hg hA λ d H1 W1 s1 hδ1 hg1 hA1 v rv => ?_
 unfold qH2 at hg1
 split at hg1
 ·rename_i a
  split at hg1
  ·rename_i c' fs hi
   split at hg1
   ·rename_i ec
    obtain ⟨ec, hl⟩ := ec
    subst ec
    obtain ⟨dx, qs, q, n, r⟩ := s1.ok.inst hm hi
    refine ⟨_, dx, qs, rv.2, q, qB5 n hl, ?_⟩
    refine Go.thn s1.ok hδ1 hg1 hA1 λ as H2 W2 s2 hδ2 hg2 hA2 vs rvs => ?_
    rw [rv.2]
    exact ⟨W2, .ref a :: as, rr, s2.ok, by rw [jBl]; exact ⟨_, _, rfl, by rw [<- rv.2]; exact rv.mv (s2.mv s1.ok), rvs⟩, hg2, hA2⟩
   ·cases hg1
  ·cases hg1
 ·cases hg1
theorem qIx {CX : CXT} {k : Nat} {fa : Addr} {fd : FuncData} {ps : List Str} {F : List D -> Sto -> R D} {apos : Pos} {pl : Sem Bool} (hc : Cls X.K C) (hM : qP2 X.K C m fa) (hm : X.mg c = some (.ref C)) (O : qCf X.prog X.w X.K X.mg X.base CX k fa fd ps (spF (gx X) F)) (hr : qBd k X.A) (hb : zS X.K fd ps []) (hx : qAv CX X E) (ho : PDE X E o go)
  (ht : eval (.Call (.Attribute o m apos) [] [] pos) X.env = (do
   let ov <- eval o X.env
   standAt apos.atName
   let (f, first) <- holding [ov] (getMethod ov m pl)
   callWith pos f first (backTo pos (starEach [] X.env)) (backToKw pos (keywordEach [] X.env))) := by rfl) : PDE X E (.Call (.Attribute o m apos) [] [] pos) (qAg c m F go aNil) := by
 try unfold PDE at *
 refine PE.imp (qN3 ho hc hM O hr hb .nil hx ht) λ σ H Q ⟨W, δ, rr, hS, hδ, hg, hA⟩ => ?_
 refine Go.thn hS hδ hg hA λ d H1 W1 s1 hδ1 hg1 hA1 v rv => ?_
 unfold qH2 at hg1
 split at hg1
 ·rename_i a
  split at hg1
  ·rename_i c' fs hi
   split at hg1
   ·rename_i ec
    obtain ⟨ec, hl⟩ := ec
    subst ec
    obtain ⟨dx, qs, q, n, r⟩ := s1.ok.inst hm hi
    refine ⟨_, dx, qs, rv.2, q, qB5 n hl, ?_⟩
    rw [rv.2]
    exact ⟨W1, [.ref a], rr, s1.ok, ⟨_, _, rfl, by rw [<- rv.2]; exact rv, rfl⟩, hg1, hA1⟩
   ·cases hg1
  ·cases hg1
 ·cases hg1
theorem qLu {CX : CXT} {k : Nat} {fa : Addr} {fd : FuncData} {ps : List Str} {F : List D -> Sto -> R D} {es : List Expr} {gs : DA} {p : Pos} (hM : Mk X.K C fa) (hm : X.mg c = some (.ref C)) (O : qCf X.prog X.w X.K X.mg X.base CX k fa fd ps (spF (gx X) F)) (hr : qBd (k + 1) X.A) (hg : Gl X c) (hb : zS X.K fd ps []) (hx : qAv CX X E) (ha : PDA X E (e :: es) gs)
  (hdb : (c == ("__debug__" : Str)) = false := by decide +kernel) (he : starEach (e :: es) X.env = (false, eval e X.env) :: starEach es X.env := by rfl) (hpl : (backTo pos (starEach es X.env)).any (·.1) = false := by rfl) :
  PDE X E (.Call (.Name c p) (e :: es) [] pos) (mkE c F gs) := by
 try unfold PDE at *
 try unfold PDA at *
 refine PE.imp (qQv hM O hr hg hm hb .nil hx ha hdb he hpl) λ σ H Q ⟨W, δ, rr, hS, hδ, hg, hA⟩ => ?_
 refine Go.thn hS hδ hg hA λ as H1 W1 s1 hδ1 hg1 hA1 vs rvs x dx nx ndx ne => ?_
 have n1 := Nxt.heap s1.ok ndx (.own x)
 have nx' : upd H1 dx (.own x) x = none := by rw [zN (Ne.symm ne)]; exact nx
 have n2 : Nxt (gx X) (upd H1 dx (.own x)) W1 (upd (upd H1 dx (.own x)) x (.ins C dx [])) (W1.push x (.ins c [])) := Nxt.alloc n1.ok nx' ⟨C, dx, [], hm, zT, rfl, rfl⟩
 have n12 := n1.trans n2
 have hμ : (W1.push x (.ins c [])).μ W1.S.length = x := if_pos rfl
 have hl : W1.S.length < (W1.push x (.ins c [])).S.length := by simp [Wd.push]
 unfold mkA at hg1
 cases hF : F (.ref W1.S.length :: as) (W1.S ++ [.ins c []]) with
 | none => rw [hF] at hg1; cases hg1
 | some r =>
  rw [hF] at hg1
  refine ⟨W1.push x (.ins c []), .ref W1.S.length :: as, r, n12.ok, ?_, hF, ?_⟩
  ·rw [jBl]
   exact ⟨_, _, rfl, ⟨hl, by rw [hμ]⟩, rvs.mv (n12.mv s1.ok)⟩
  ·cases r with
   | ok d S' =>
    cases d with
    | non =>
     obtain rfl : Rs.ok (D.ref W1.S.length) S' = rr := Option.some.inj hg1
     intro H' W' eS n3 v rv
     refine ⟨rv, hA1 H' W' eS (n12.trans n3) _ ⟨jAd hl n3.len, ?_⟩⟩
     rw [n3.old _ hl, hμ]
    | _ => cases hg1
   | er c' S' =>
    obtain rfl : Rs.er c' S' = rr := Option.some.inj hg1
    obtain ⟨C', hC', h⟩ := hA1
    exact ⟨C', hC', λ H' W' eS n3 => h H' W' eS (n12.trans n3)⟩
theorem qOd {CX : CXT} {k : Nat} {fa : Addr} {fd : FuncData} {ps : List Str} {F : List D -> Sto -> R D} {es : List Expr} {gs : DA} {apos : Pos} {pl : Sem Bool} (hc : Cls X.K C) (hM : qP2 X.K C m fa) (hm : X.mg c = some (.ref C)) (O : qCf X.prog X.w X.K X.mg X.base CX k fa fd ps (spF (gx X) F)) (hr : qBd k X.A) (hb : zS X.K fd ps [.none]) (hx : qAv CX X E) (ho : PDE X E o go) (ha : PDA X E (e :: es) gs)
  (hst : starEach (e :: es) X.env = (false, eval e X.env) :: starEach es X.env := by rfl) (hpl : (backTo pos (starEach es X.env)).any (·.1) = false := by rfl)
  (ht : eval (.Call (.Attribute o m apos) (e :: es) [] pos) X.env = (do
   let ov <- eval o X.env
   standAt apos.atName
   let (f, first) <- holding [ov] (getMethod ov m pl)
   callWith pos f first (backTo pos (starEach (e :: es) X.env)) (backToKw pos (keywordEach [] X.env))) := by rfl) : PDE X E (.Call (.Attribute o m apos) (e :: es) [] pos) (qAg c m (fnD F [.non]) go gs) := by
 try unfold PDE at *
 try unfold PDA at *
 refine PE.imp (qLn ho hc hM O hr hb (dvs := [.non]) (.cons (show qA6 V.non Value.none from rfl) .nil) hx ha hst hpl ht) λ σ H Q ⟨W, δ, rr, hS, hδ, hg, hA⟩ => ?_
 refine Go.thn hS hδ hg hA λ d H1 W1 s1 hδ1 hg1 hA1 v rv => ?_
 unfold qH2 at hg1
 split at hg1
 ·rename_i a
  split at hg1
  ·rename_i c' fs hi
   split at hg1
   ·rename_i ec
    obtain ⟨ec, hl⟩ := ec
    subst ec
    obtain ⟨dx, qs, q, n, r⟩ := s1.ok.inst hm hi
    refine ⟨_, dx, qs, rv.2, q, qB5 n hl, ?_⟩
    refine Go.thn s1.ok hδ1 hg1 hA1 λ as H2 W2 s2 hδ2 hg2 hA2 vs rvs => ?_
    rw [rv.2]
    exact ⟨W2, D.ref a :: (as ++ [D.non]), rr, s2.ok, ⟨_, _, rfl, by rw [<- rv.2]; exact rv.mv (s2.mv s1.ok), rvs.append ⟨_, _, rfl, rfl, rfl⟩⟩, hg2, hA2⟩
   ·cases hg1
  ·cases hg1
 ·cases hg1
theorem qVt {G : Gx} : qEw G (λ xs H Q => ∃ i j, xs = [.int i, .int j] /\ Q (.int (if j < i then j else i)) H) qSl := by
 intro E H W vs ds Q rr hS rl e hA
 unfold qSl at e
 split at e
 ·rename_i i j
  obtain rfl : Rs.ok (D.int (if j < i then j else i)) W.S = rr := Option.some.inj e
  obtain ⟨v, r, rfl, q, v2, r2, rfl, q2, t⟩ := rl
  have q : v = .int i := q
  have q2 : v2 = .int j := q2
  have t : r2 = [] := t
  subst q q2 t
  exact ⟨i, j, rfl, hA.now hS _ rfl⟩
 ·cases e
theorem qAl.erase {G : Gx} {H : Hp} {W : Wd} : ∀ {ds : List D} {vs : List V} (k : Nat), qAl G H W ds vs -> qAl G H W (ds.eraseIdx k) (vs.eraseIdx k)
 | [], _, _, h => by cases h; rfl
 | d :: ds, _, 0, h => by
  obtain ⟨v, r, rfl, q, t⟩ := h
  exact t
 | d :: ds, _, k + 1, h => by
  obtain ⟨v, r, rfl, q, t⟩ := h
  exact ⟨v, _, rfl, q, qAl.erase k t⟩
theorem qOb {apos cpos : Pos} (ho : PDE X E o go) (he : PDE X E e ge) (hbase : attributeBase o "pop" X.env (eval o X.env) = eval o X.env := by rfl)
  (hfew : ((backTo cpos (starEach (e :: []) X.env)).all (λ x => !x.1) && (backToKw cpos (keywordEach [] X.env)).all (λ x => x.1.isSome) && decide ((e :: []).length + ([] : List Keyword).length + (if ([] : List Keyword).isEmpty then 0 else 1) < 30)) = true := by rfl)
  (hline : (apos.endLine == cpos.line) = true := by rfl) (hs : starEach (e :: []) X.env = (false, eval e X.env) :: starEach [] X.env := by rfl) (hplain : (backTo cpos (starEach [] X.env)).any (·.1) = false := by rfl) :
  PDE X E (.Call (.Attribute o "pop" apos) [e] [] cpos) (opM qDo go ge) := by
 have hm := qHr (X := X) (E := E) (go := go) (ge := ge) (f := qDo) (r := qPl) λ E H W x y dx dy Q rr hS rx ry e hA => by
  unfold qDo at e
  split at e
  ·rename_i a i
   split at e
   ·rename_i xs hx
    split at e
    ·rename_i hi
     split at e
     ·rename_i d hd
      obtain rfl : Rs.ok d (W.S.set a (.lst (xs.eraseIdx i.toNat))) = rr := Option.some.inj e
      obtain ⟨us, ex, hq, rl⟩ := hS.lst rx hx
      obtain ⟨v, hv, rv⟩ := rl.get hd
      have hlt : i.toNat < xs.length := (jAs.mp hd).1
      have hl := rl.length
      refine ⟨_, us, i, i.toNat, v, ex, by rw [show y = .int i from ry], hq, by omega, by omega, ?_, hv, ?_⟩
      ·exact seqIndex_of hi.1 (by omega)
      ·exact hA _ (W.put a (.lst (xs.eraseIdx i.toNat))) rfl (Nxt.write hS rx.1 ⟨_, zT, (rl.erase i.toNat).mv (Mv.put hS rx.1 _ _)⟩) v (rv.mv (Mv.put hS rx.1 _ _))
     ·cases e
    ·cases e
   ·cases e
  ·cases e
 (try unfold PDE); exact PE.imp (qQy PySem.F.plainAttrs_list PySem.F.slot_list_pop PySem.F.type_list_pop qOp ho.o (zB he zE hs).o hbase hfew hline hs hplain) hm
end
end Np
end
section
namespace Np
open PySem PySem.Spec PyProof.Rows L2
section
variable {P : Program} {w : World} {A : Around}
structure Itx (P : Program) (w : World) (A : Around) (i l : Addr) (St : Nat -> Heap -> Prop) (g : Nat -> Option Value) : Prop where
 ext : ∀ k h h' b, St k h -> Heap.ExtBut b h h' -> i ≠ b -> l ≠ b -> St k h'
 more : ∀ k (s : Shared) v (Q : Value -> Shared -> Prop) (E : Value -> Shared -> Prop), St k s.heap -> g k = some v -> (∀ h', St (k + 1) h' -> Heap.SameBut i s.heap h' -> Q v { s with heap := h' }) -> wpAny (model P w) A (Builtin.SmallTypes.nextOf (.ref i)) Q E s
 over : ∀ k (s : Shared) (Q : Value -> Shared -> Prop) (E : Value -> Shared -> Prop), St k s.heap -> g k = none -> (∀ h' e, Heap.ExtBut i s.heap h' -> (∃ o, h'.get? e = some o /\ o.cls = .type "StopIteration") -> E (.ref e) { s with heap := h' }) -> wpAny (model P w) A (Builtin.SmallTypes.nextOf (.ref i)) Q E s
theorem qFu (hh : A.handled = none) (i src : Addr) (xs : Array Value) : Itx P w A i src (λ k h => h.IsTupleIter i src k /\ h.IsTuple src xs) (λ k => xs[k]?) where
 ext := λ k h h' b st e h1 h2 => ⟨st.1.extBut e h1, st.2.extBut e h2⟩
 more := λ k s v Q E st hv q => by
  obtain ⟨ob, g1, g2, g3⟩ := id st.1
  obtain ⟨ot, e1, e2, nn, e3⟩ := id st.2
  have hli : src ≠ i := λ z => by
   subst z
   rw [g1] at e1
   cases e1
   rw [g2] at e2
   exact absurd e2 (by decide)
  unfold Builtin.SmallTypes.nextOf
  refine wpAny_bind (wpAny_callSpecial?_slot (name := Str.ofString "__next__") st.1.typeIs F.slot_tuple_iterator_next (wpAny_call_entry F.slot_tuple_iterator_next st.1.typeIs F.entry_tuple_iterator_next ?_ (F.args_tuple_iterator_next_1 _)))
  show wpAny _ _ (field (.ref i) 0 >>= _) _ _ s
  refine wpAny_bind (wpAny_field g1 g3 (x := .ref src) rfl ?_)
  show wpAny _ _ (if (Value.ref src == Value.none) = true then _ else _) _ _ s
  rw [if_neg (show ¬ ((Value.ref src == Value.none) = true) from Bool.false_ne_true)]
  show wpAny _ _ (field (.ref i) 1 >>= _) _ _ s
  refine wpAny_bind (wpAny_field g1 g3 (x := .int k 0) rfl ?_)
  show wpAny _ _ (seqItems? (.ref src) >>= _) _ _ s
  refine wpAny_bind (wpAny_seqItems e1 e3 ?_)
  simp only [jCz, hv]
  refine wpAny_bind (wpAny_setField g1 g3 (by simp) (wpAny_pure ⟨v, rfl, wpAny_pure (q _ ⟨?_, st.2.extBut (Heap.SameBut.update ..).extBut hli⟩ (Heap.SameBut.update ..))⟩))
  exact ⟨_, jB5 _ g1 (Obj.isFreed_of_fields (Obj.data_mapFields g3 _)), (Obj.cls_mapFields ..).trans g2, by rw [Obj.data_mapFields g3]; simp [rawInt]⟩
 over := λ k s Q E st hv q => by
  obtain ⟨ob, g1, g2, g3⟩ := id st.1
  obtain ⟨ot, e1, e2, nn, e3⟩ := id st.2
  unfold Builtin.SmallTypes.nextOf
  refine wpAny_bind (wpAny_callSpecial?_slot (name := Str.ofString "__next__") st.1.typeIs F.slot_tuple_iterator_next (wpAny_call_entry F.slot_tuple_iterator_next st.1.typeIs F.entry_tuple_iterator_next ?_ (F.args_tuple_iterator_next_1 _)))
  show wpAny _ _ (field (.ref i) 0 >>= _) _ _ s
  refine wpAny_bind (wpAny_field g1 g3 (x := .ref src) rfl ?_)
  show wpAny _ _ (if (Value.ref src == Value.none) = true then _ else _) _ _ s
  rw [if_neg (show ¬ ((Value.ref src == Value.none) = true) from Bool.false_ne_true)]
  show wpAny _ _ (field (.ref i) 1 >>= _) _ _ s
  refine wpAny_bind (wpAny_field g1 g3 (x := .int k 0) rfl ?_)
  show wpAny _ _ (seqItems? (.ref src) >>= _) _ _ s
  refine wpAny_bind (wpAny_seqItems e1 e3 ?_)
  simp only [jCz, hv]
  refine wpAny_bind (wpAny_rule (wpAny_bind (wpAny_setField g1 g3 (by simp) ?_)))
  show wpAny _ _ (newExc (.type "StopIteration") [] >>= _) _ _ _
  refine wpAny_bind ?_
  simp only [newExc, newTuple]
  refine wpAny_bind (wpAny_newObj_type ?_ (by size_fits))
  refine wpAny_bind (m := firstArgMember _ _) (wpAny_of_eq (a := Value.none) (by first | rfl | (simp only [firstArgMember]; rfl)) ?_)
  refine wpAny_newObj_type ?_ (by size_fits)
  simp only [raiseNew]
  refine wpAny_bind (wpAny_handled ?_)
  first | rw [show A.in1.handled = none from hh] | rw [hh]
  refine wpAny_bind (wpAny_pure (wpAny_throw ?_))
  exact q _ _ (((Heap.SameBut.update ..).extBut.push _).push _) ⟨_, jAx _ rfl, rfl⟩
theorem qNk {zz ta tb ia ib la lb : Addr} {Sa Sb : Nat -> Heap -> Prop} {ga gb : Nat -> Option Value} {k1 k2 : Nat} {x y a b : Value} {s : Shared} {E : Value -> Shared -> Prop} {Q : Value -> Shared -> Prop} (D : ZipApart zz ta tb ia ib la lb) (Ia : Itx P w A ia la Sa ga) (Ib : Itx P w A ib lb Sb gb)
  (hz : IsZip s.heap zz ta tb .none) (h3 : IsPair s.heap ta (.ref ia) (.ref ib)) (h4 : IsPair s.heap tb a b) (h1 : Sa k1 s.heap) (h2 : Sb k2 s.heap) (hx : ga k1 = some x) (hy : gb k2 = some y)
  (hQ : ∀ h', IsZip h' zz ta tb (rawInt s.heap.objs.size) -> IsPair h' tb x y -> Sa (k1 + 1) h' -> Sb (k2 + 1) h' -> IsPair h' s.heap.objs.size x y ->
   (∀ c o, c ≠ zz -> c ≠ tb -> c ≠ ia -> c ≠ ib -> s.heap.get? c = some o -> h'.get? c = some o) -> Q (.ref s.heap.objs.size) { s with heap := h' }) :
  wpAny (model P w) A (Builtin.«zip.__next__» ⟨[.ref zz], []⟩) (λ fin s' => ∃ v, fin = .done (.ret v) /\ Q v s') E s := by
 show wpAny _ _ (field (.ref zz) 2 >>= _) _ _ _
 refine wpAny_bind (wpAny_field hz rfl (x := .bool false) rfl ?_)
 show wpAny _ _ (field (.ref zz) 3 >>= _) _ _ _
 refine wpAny_bind (wpAny_field hz rfl (x := .ref ta) rfl ?_)
 refine wpAny_bind (wpAny_seqItems h3 rfl ?_)
 show wpAny _ _ (Builtin.SmallTypes.ownedTupleIsFree (.ref zz) >>= _) _ _ _
 refine wpAny_bind ?_
 unfold Builtin.SmallTypes.ownedTupleIsFree
 refine wpAny_bind (wpAny_field hz rfl (x := .none) rfl (wpAny_pure ?_))
 simp only [if_true]
 refine wpAny_bind (wpAny_rule ?_)
 refine wpAny_bind (wpAny_field hz rfl (x := .ref tb) rfl ?_)
 refine wpAny_bind (wpAny_setField_rec hz (by simp) λ H1 z1 w1 => ?_)
 replace z1 : IsZip H1 zz ta tb .ellipsis := z1
 refine wpAny_bind ?_
 simp only [List.zipIdx_cons, List.zipIdx_nil, jCj, jCm]
 have a1 : Sa k1 H1 := Ia.ext _ _ _ _ h1 w1.extBut D.i1z D.l1z
 have b1 : Sb k2 H1 := Ib.ext _ _ _ _ h2 w1.extBut D.i2z D.l2z
 refine wpAny_bind (wpAny_bind (wpAny_onRaise ?_))
 show wpAny _ _ (Builtin.SmallTypes.nextOf (.ref ia) >>= _) _ _ _
 refine wpAny_bind (Ia.more k1 _ x _ _ a1 hx λ H2 a2 w2 => wpAny_pure ?_)
 have t2 : IsPair H2 tb a b := w2.extBut _ _ D.TOi1 (w1.extBut _ _ D.TOz h4)
 refine wpAny_bind (wpAny_seqItems t2 rfl ?_)
 refine wpAny_bind (wpAny_updateSeq_pair t2 λ H3 t3 w3 => ?_)
 replace t3 : IsPair H3 tb x b := t3
 refine wpAny_bind (wpAny_letGo (wpAny_pure ?_))
 have b3 : Sb k2 H3 := Ib.ext _ _ _ _ (Ib.ext _ _ _ _ b1 w2.extBut D.i12.symm D.l2i1) w3.extBut D.TOi2.symm D.l2TO
 refine wpAny_bind (wpAny_bind (wpAny_onRaise ?_))
 show wpAny _ _ (Builtin.SmallTypes.nextOf (.ref ib) >>= _) _ _ _
 refine wpAny_bind (Ib.more k2 _ y _ _ b3 hy λ H4 b4 w4 => wpAny_pure ?_)
 have t4 : IsPair H4 tb x b := w4.extBut _ _ D.TOi2 t3
 refine wpAny_bind (wpAny_seqItems t4 rfl ?_)
 refine wpAny_bind (wpAny_updateSeq_pair t4 λ H5 t5 w5 => ?_)
 replace t5 : IsPair H5 tb x y := t5
 refine wpAny_bind (wpAny_letGo (wpAny_pure (wpAny_pure ?_)))
 refine wpAny_bind (wpAny_seqItems t5 rfl ?_)
 refine wpAny_bind (wpAny_newTuple ?_)
 have ez : H5.objs.size = s.heap.objs.size := by rw [w5.1, w4.1, w3.1, w2.1, w1.1]
 have z5 : IsZip H5 zz ta tb .ellipsis := w5.extBut _ _ D.TOz.symm (w4.extBut _ _ D.i2z.symm (w3.extBut _ _ D.TOz.symm (w2.extBut _ _ D.i1z.symm z1)))
 have k5 : ∀ c o, c ≠ zz -> c ≠ tb -> c ≠ ia -> c ≠ ib -> s.heap.get? c = some o -> H5.get? c = some o := λ c o c1 c2 c3 c4 e => w5.extBut _ _ c2 (w4.extBut _ _ c4 (w3.extBut _ _ c2 (w2.extBut _ _ c3 (w1.extBut _ _ c1 e))))
 have a5 : Sa (k1 + 1) H5 := Ia.ext _ _ _ _ (Ia.ext _ _ _ _ (Ia.ext _ _ _ _ a2 w3.extBut D.TOi1.symm D.l1TO) w4.extBut D.i12 D.l1i2) w5.extBut D.TOi1.symm D.l1TO
 have b5 : Sb (k2 + 1) H5 := Ib.ext _ _ _ _ b4 w5.extBut D.TOi2.symm D.l2TO
 have lz : zz < H5.objs.size := jAc z5
 show wpAny _ _ (Builtin.SmallTypes.ownedTupleHandOut (.ref zz) (.ref H5.objs.size) >>= _) _ _ _
 refine wpAny_bind ?_
 unfold Builtin.SmallTypes.ownedTupleHandOut
 have z6 : IsZip (H5.push { cls := .type "tuple", data := .seq #[x, y] }) zz ta tb .ellipsis := jAv _ z5
 refine wpAny_bind (wpAny_setField_rec z6 (by simp) λ H7 z7 w7 => ?_)
 replace z7 : IsZip H7 zz ta tb (rawInt H5.objs.size) := z7
 refine wpAny_setField_rec z7 (by simp) λ H8 z8 w8 => ?_
 replace z8 : IsZip H8 zz ta tb (rawInt H5.objs.size) := z8
 have pu : Heap.ExtBut zz H5 H8 := λ c o c1 e => w8.extBut _ _ c1 (w7.extBut _ _ c1 (jAv _ e))
 have t8 : IsPair H8 H5.objs.size x y := w8.extBut _ _ (jAw lz) (w7.extBut _ _ (jAw lz) (jAx _ rfl))
 rw [ez] at z8 t8
 refine wpAny_pure ⟨_, rfl, ?_⟩
 show Q (.ref H5.objs.size) _
 rw [ez]
 exact hQ H8 z8 (pu _ _ D.TOz t5) (Ia.ext _ _ _ _ a5 pu D.i1z D.l1z) (Ib.ext _ _ _ _ b5 pu D.i2z D.l2z) t8 λ c o c1 c2 c3 c4 e => pu c o c1 (k5 c o c1 c2 c3 c4 e)
theorem qNj {zz ta tb ia ib la lb : Addr} {Sa Sb : Nat -> Heap -> Prop} {ga gb : Nat -> Option Value} {k1 k2 : Nat} {a b : Value} {s : Shared} {E : Value -> Shared -> Prop} {Q : Fin -> Shared -> Prop} (D : ZipApart zz ta tb ia ib la lb) (Ia : Itx P w A ia la Sa ga) (Ib : Itx P w A ib lb Sb gb)
  (hz : IsZip s.heap zz ta tb .none) (h3 : IsPair s.heap ta (.ref ia) (.ref ib)) (h4 : IsPair s.heap tb a b) (h1 : Sa k1 s.heap) (h2 : Sb k2 s.heap) (hend : ga k1 = none \/ gb k2 = none)
  (hE : ∀ h' e, (∀ c o, c ≠ zz -> c ≠ tb -> c ≠ ia -> c ≠ ib -> s.heap.get? c = some o -> h'.get? c = some o) -> (∃ o, h'.get? e = some o /\ o.cls = .type "StopIteration") -> E (.ref e) { s with heap := h' }) :
  wpAny (model P w) A (Builtin.«zip.__next__» ⟨[.ref zz], []⟩) Q E s := by
 show wpAny _ _ (field (.ref zz) 2 >>= _) _ _ _
 refine wpAny_bind (wpAny_field hz rfl (x := .bool false) rfl ?_)
 show wpAny _ _ (field (.ref zz) 3 >>= _) _ _ _
 refine wpAny_bind (wpAny_field hz rfl (x := .ref ta) rfl ?_)
 refine wpAny_bind (wpAny_seqItems h3 rfl ?_)
 show wpAny _ _ (Builtin.SmallTypes.ownedTupleIsFree (.ref zz) >>= _) _ _ _
 refine wpAny_bind ?_
 unfold Builtin.SmallTypes.ownedTupleIsFree
 refine wpAny_bind (wpAny_field hz rfl (x := .none) rfl (wpAny_pure ?_))
 simp only [if_true]
 refine wpAny_bind (wpAny_rule ?_)
 refine wpAny_bind (wpAny_field hz rfl (x := .ref tb) rfl ?_)
 refine wpAny_bind (wpAny_setField_rec hz (by simp) λ H1 z1 w1 => ?_)
 replace z1 : IsZip H1 zz ta tb .ellipsis := z1
 refine wpAny_bind ?_
 simp only [List.zipIdx_cons, List.zipIdx_nil, jCj, jCm]
 have a1 : Sa k1 H1 := Ia.ext _ _ _ _ h1 w1.extBut D.i1z D.l1z
 have b1 : Sb k2 H1 := Ib.ext _ _ _ _ h2 w1.extBut D.i2z D.l2z
 refine wpAny_bind (wpAny_bind (wpAny_onRaise ?_))
 show wpAny _ _ (Builtin.SmallTypes.nextOf (.ref ia) >>= _) _ _ _
 cases hx : ga k1 with
 | none =>
  refine wpAny_bind (Ia.over k1 _ _ _ a1 hx λ H2 e w2 he => ?_)
  obtain ⟨oe, he1, he2⟩ := he
  have z2 : IsZip H2 zz ta tb .ellipsis := w2 _ _ D.i1z.symm z1
  have nez : e ≠ zz := λ q => by
   subst q
   rw [z2] at he1
   cases he1
   simp at he2
  exact wpAny_setField_rec z2 (by simp) λ H3 _ w3 => hE H3 e (λ c o c1 _ c3 _ q => w3.extBut _ _ c1 (w2 _ _ c3 (w1.extBut _ _ c1 q))) ⟨oe, w3.extBut _ _ nez he1, he2⟩
 | some x =>
  have hy : gb k2 = none := by
   rcases hend with h | h
   ·rw [hx] at h; cases h
   ·exact h
  refine wpAny_bind (Ia.more k1 _ x _ _ a1 hx λ H2 a2 w2 => wpAny_pure ?_)
  have t2 : IsPair H2 tb a b := w2.extBut _ _ D.TOi1 (w1.extBut _ _ D.TOz h4)
  refine wpAny_bind (wpAny_seqItems t2 rfl ?_)
  refine wpAny_bind (wpAny_updateSeq_pair t2 λ H3 t3 w3 => ?_)
  refine wpAny_bind (wpAny_letGo (wpAny_pure ?_))
  have b3 : Sb k2 H3 := Ib.ext _ _ _ _ (Ib.ext _ _ _ _ b1 w2.extBut D.i12.symm D.l2i1) w3.extBut D.TOi2.symm D.l2TO
  refine wpAny_bind (wpAny_bind (wpAny_onRaise ?_))
  show wpAny _ _ (Builtin.SmallTypes.nextOf (.ref ib) >>= _) _ _ _
  refine wpAny_bind (Ib.over k2 _ _ _ b3 hy λ H4 e w4 he => ?_)
  obtain ⟨oe, he1, he2⟩ := he
  have z4 : IsZip H4 zz ta tb .ellipsis := w4 _ _ D.i2z.symm (w3.extBut _ _ D.TOz.symm (w2.extBut _ _ D.i1z.symm z1))
  have nez : e ≠ zz := λ q => by
   subst q
   rw [z4] at he1
   cases he1
   simp at he2
  exact wpAny_setField_rec z4 (by simp) λ H5 _ w5 => hE H5 e (λ c o c1 c2 c3 c4 q => w5.extBut _ _ c1 (w4 _ _ c4 (w3.extBut _ _ c2 (w2.extBut _ _ c3 (w1.extBut _ _ c1 q))))) ⟨oe, w5.extBut _ _ nez he1, he2⟩
theorem qL3 {zz ta tb ia ib la lb : Addr} {Sa Sb : Nat -> Heap -> Prop} {ga gb : Nat -> Option Value} {k1 k2 : Nat} {x y a b : Value} {s : Shared} {E : Value -> Shared -> Prop} {Q : Option Value -> Shared -> Prop} (D : ZipApart zz ta tb ia ib la lb)
  (Ia : ∀ A', A'.handled = none -> Itx P w A' ia la Sa ga) (Ib : ∀ A', A'.handled = none -> Itx P w A' ib lb Sb gb) (hh : A.handled = none)
  (hz : IsZip s.heap zz ta tb .none) (h3 : IsPair s.heap ta (.ref ia) (.ref ib)) (h4 : IsPair s.heap tb a b) (h1 : Sa k1 s.heap) (h2 : Sb k2 s.heap) (hx : ga k1 = some x) (hy : gb k2 = some y)
  (hQ : ∀ h', IsZip h' zz ta tb (rawInt s.heap.objs.size) -> IsPair h' tb x y -> Sa (k1 + 1) h' -> Sb (k2 + 1) h' -> IsPair h' s.heap.objs.size x y ->
   (∀ c o, c ≠ zz -> c ≠ tb -> c ≠ ia -> c ≠ ib -> s.heap.get? c = some o -> h'.get? c = some o) -> Q (some (.ref s.heap.objs.size)) { s with heap := h' }) : wpAny (model P w) A (pyNext (.ref zz)) Q E s := by
 have ty : s.TypeIs (.ref zz) "zip" := ⟨_, hz, rfl⟩
 unfold pyNext
 refine wpAny_bind (wpAny_attempt (wpAny_callSpecial?_slot (name := Str.ofString "__next__") ty F.slot_zip_next (wpAny_call_entry F.slot_zip_next ty F.entry_zip_next ?_ (F.args_zip_next_1 _))))
 exact qNk D (Ia _ hh) (Ib _ hh) hz h3 h4 h1 h2 hx hy λ h' q1 q2 q3 q4 q5 q6 => wpAny_pure (hQ h' q1 q2 q3 q4 q5 q6)
theorem qL2 {zz ta tb ia ib la lb : Addr} {Sa Sb : Nat -> Heap -> Prop} {ga gb : Nat -> Option Value} {k1 k2 : Nat} {a b : Value} {s : Shared} {E : Value -> Shared -> Prop} {Q : Option Value -> Shared -> Prop} (D : ZipApart zz ta tb ia ib la lb)
  (Ia : ∀ A', A'.handled = none -> Itx P w A' ia la Sa ga) (Ib : ∀ A', A'.handled = none -> Itx P w A' ib lb Sb gb) (hh : A.handled = none)
  (hz : IsZip s.heap zz ta tb .none) (h3 : IsPair s.heap ta (.ref ia) (.ref ib)) (h4 : IsPair s.heap tb a b) (h1 : Sa k1 s.heap) (h2 : Sb k2 s.heap) (hend : ga k1 = none \/ gb k2 = none)
  (hQ : ∀ h', (∀ c o, c ≠ zz -> c ≠ tb -> c ≠ ia -> c ≠ ib -> s.heap.get? c = some o -> h'.get? c = some o) -> Q none { s with heap := h' }) : wpAny (model P w) A (pyNext (.ref zz)) Q E s := by
 have ty : s.TypeIs (.ref zz) "zip" := ⟨_, hz, rfl⟩
 unfold pyNext
 refine wpAny_bind (wpAny_attempt (wpAny_callSpecial?_slot (name := Str.ofString "__next__") ty F.slot_zip_next (wpAny_call_entry F.slot_zip_next ty F.entry_zip_next ?_ (F.args_zip_next_1 _))))
 refine qNj D (Ia _ hh) (Ib _ hh) hz h3 h4 h1 h2 hend λ h' e hk he => ?_
 obtain ⟨o, ho, hc⟩ := he
 exact wpAny_bind (wpAny_isInstance (T := "StopIteration") (b := true) ⟨o, ho, hc⟩ isSubtype_stop (wpAny_pure (hQ _ hk)))
def zt1 (h : Heap) (la : Addr) : Heap := h.push { cls := .type "tuple_iterator", data := .fields #[.ref la, .int 0 0] }
def zt3 (h : Heap) (la lb : Addr) : Heap := (zt1 (zt1 h la) lb).push { cls := .type "tuple", data := .seq #[.ref h.objs.size, .ref (zt1 h la).objs.size] }
def zt4 (h : Heap) (la lb : Addr) : Heap := (zt3 h la lb).push { cls := .type "tuple", data := .seq #[.none, .none] }
def zt5 (h : Heap) (la lb : Addr) : Heap := (zt4 h la lb).push { cls := .type "zip", data := .fields #[.none, .bool false, .bool false, .ref (zt1 (zt1 h la) lb).objs.size, .ref (zt3 h la lb).objs.size] }
theorem qJk (la lb : Addr) (xs ys : Array Value) : Meets (Builtin.«zip.__new__» ⟨[.type "zip", .ref la, .ref lb], []⟩) (λ _ R s => s.heap.IsTuple la xs /\ s.heap.IsTuple lb ys /\ R (.ok (.ret (.ref (zt4 s.heap la lb).objs.size))) { s with heap := zt5 s.heap la lb }) :=
 .of_wp λ prog w A R s h => by
  obtain ⟨hp, g, d, tk, os⟩ := s; obtain ⟨p1, p2, h⟩ := h
  have hsub := sub_zip
  have u1 : Heap.IsTuple (Shared.heap ⟨hp, g, d, tk, os⟩) la xs := p1
  have u2 : Heap.IsTuple (Shared.heap ⟨hp.push { cls := .type "tuple_iterator", data := .fields #[.ref la, .int 0 0] }, g, d, tk, os⟩) lb ys := Heap.IsTuple.push p2 _
  wp_walk using wpAny_pyIter_tuple u1, wpAny_pyIter_tuple u2
  exact ⟨_, rfl, h⟩
theorem qMu {la lb : Addr} {xs ys : Array Value} {s : Shared} {E : Value -> Shared -> Prop} {Q : Value -> Shared -> Prop} (hl1 : s.heap.IsTuple la xs) (hl2 : s.heap.IsTuple lb ys)
  (h : ∀ h', IsZip h' (s.heap.objs.size + 4) (s.heap.objs.size + 2) (s.heap.objs.size + 3) .none -> IsPair h' (s.heap.objs.size + 2) (.ref s.heap.objs.size) (.ref (s.heap.objs.size + 1)) ->
   IsPair h' (s.heap.objs.size + 3) .none .none -> h'.IsTupleIter s.heap.objs.size la 0 -> h'.IsTupleIter (s.heap.objs.size + 1) lb 0 -> h'.objs.size = s.heap.objs.size + 5 ->
   (∀ c o, s.heap.get? c = some o -> h'.get? c = some o) -> Q (.ref (s.heap.objs.size + 4)) { s with heap := h' }) :
  wpAny (model P w) A (call (.type "zip") [.ref la, .ref lb]) Q E s := by
 refine callType_new F.called_zip (by decide) (F.typeCall_zip_2 _ _) (F.newCall_zip_2 _ _) (λ obj => F.args_object_init_3 obj _ _) F.entry_zip_new (qJk la lb xs ys) ⟨hl1, hl2, ?_⟩
 have z1 : (zt1 s.heap la).objs.size = s.heap.objs.size + 1 := jBi ..
 have z2 : (zt1 (zt1 s.heap la) lb).objs.size = s.heap.objs.size + 2 := by rw [zt1, jBi, z1]
 have z3 : (zt3 s.heap la lb).objs.size = s.heap.objs.size + 3 := by rw [zt3, jBi, z2]
 have z4 : (zt4 s.heap la lb).objs.size = s.heap.objs.size + 4 := by rw [zt4, jBi, z3]
 have z5 : (zt5 s.heap la lb).objs.size = s.heap.objs.size + 5 := by rw [zt5, jBi, z4]
 have g5 : (zt5 s.heap la lb).get? (zt4 s.heap la lb).objs.size = some _ := jAx _ rfl
 have g4 : (zt5 s.heap la lb).get? (zt3 s.heap la lb).objs.size = some _ := jAv _ (jAx _ rfl)
 have g3 : (zt5 s.heap la lb).get? (zt1 (zt1 s.heap la) lb).objs.size = some _ := jAv _ (jAv _ (jAx _ rfl))
 have g2 : (zt5 s.heap la lb).get? (zt1 s.heap la).objs.size = some _ := jAv _ (jAv _ (jAv _ (jAx _ rfl)))
 have g1 : (zt5 s.heap la lb).get? s.heap.objs.size = some _ := jAv _ (jAv _ (jAv _ (jAv _ (jAx _ rfl))))
 show _ /\ _
 rw [z2, z3, z4] at g5
 rw [z1, z2] at g3
 rw [z3] at g4
 rw [z1] at g2
 rw [z4]
 exact ⟨⟨_, g5, rfl⟩, h _ g5 g3 g4 ⟨_, g1, rfl, rfl⟩ ⟨_, g2, rfl, rfl⟩ z5 λ c o x =>
  jAv _ (jAv _ (jAv _ (jAv _ (jAv _ x))))⟩
end
def qYb (K : PySem.W.Frag) (a b : Addr) : It :=
  ⟨λ i H => ∃ xs ys x y, SqT K H a xs /\ SqT K H b ys /\ xs[i]? = some x /\ ys[i]? = some y,
   λ i H v H' => ∃ p x y, v = .ref p /\ H p = none /\ H' = upd H p (.tup [x, y]) /\ (∀ xs, SqT K H a xs -> xs[i]? = some x) /\ ∀ ys, SqT K H b ys -> ys[i]? = some y,
   λ i H => ∃ xs ys, SqT K H a xs /\ SqT K H b ys /\ (xs.length <= i \/ ys.length <= i)⟩
theorem qKt {P : Program} {w : World} {K : PySem.W.Frag} {elts : List Expr} {x1 : Nat} {tpos : Pos} {z TI TO i1 i2 l1 l2 : Addr} (D : ZipApart z TI TO i1 i2 l1 l2) :
  qWb P w K (.Tuple elts x1 tpos) (qYb K l1 l2) [z, TI, TO, i1, i2] z (λ i h => IsZip h z TI TO .none /\ IsPair h TI (.ref i1) (.ref i2) /\ (∃ a b, IsPair h TO a b) /\ h.IsTupleIter i1 l1 i /\ h.IsTupleIter i2 l2 i) where
 mem := by simp
 obj := λ i h st b hb => by
  obtain ⟨hz, hTI, ⟨u, v, hTO⟩, h1, h2⟩ := st
  simp only [jAp, jCq, or_false] at hb
  rcases hb with rfl | rfl | rfl | rfl | rfl
  ·exact ⟨_, hz, λ v q => by cases q⟩
  ·exact ⟨_, hTI, λ v q => by cases q⟩
  ·exact ⟨_, hTO, λ v q => by cases q⟩
  ·obtain ⟨o, e, c, d⟩ := h1
   exact ⟨o, e, λ v q => by rw [d] at q; cases q⟩
  ·obtain ⟨o, e, c, d⟩ := h2
   exact ⟨o, e, λ v q => by rw [d] at q; cases q⟩
 keep := λ i h h' st k => by
  obtain ⟨hz, hTI, ⟨u, v, hTO⟩, h1, h2⟩ := st
  exact ⟨k z (by simp) _ hz, k TI (by simp) _ hTI, ⟨u, v, k TO (by simp) _ hTO⟩, h1.at λ o e => k i1 (by simp) o e, h2.at λ o e => k i2 (by simp) o e⟩
 item := by
  intro X hP hw hK hc i pins s σ H E I hf st hg
  subst hP hw hK
  obtain ⟨hz, hTI, ⟨u, v, hTO⟩, h1, h2⟩ := st
  obtain ⟨xs, ys, x, y, hqx, hqy, hx, hy⟩ := hg
  obtain ⟨its, rx, px, zx⟩ := I.tuple hqx
  obtain ⟨jts, ry, py, zy⟩ := I.tuple hqy
  obtain ⟨ux, hux, rux⟩ := rx.get hx
  obtain ⟨uy, huy, ruy⟩ := ry.get hy
  refine qL3 D (λ A' hA => qFu hA i1 l1 its.toArray) (λ A' hA => qFu hA i2 l2 jts.toArray) (I.ok.hd hc) hz hTI hTO ⟨h1, px⟩ ⟨h2, py⟩ (x := ux) (y := uy) (by simpa using hux) (by simpa using huy) λ h' a1 a2 a3 a4 a5 hk => ?_
  replace a3 := a3.1
  replace a4 := a4.1
  refine ⟨_, rfl, wpAny_letOwnedTupleGo_zip a1 λ h'' hz' hs' => ?_⟩
  have hTn : s.heap.objs.size ≠ z := jAw (jAc hz)
  have kk : ∀ b o, b ∉ [z, TI, TO, i1, i2] -> s.heap.get? b = some o -> h''.get? b = some o := λ b o hb e => by
   simp only [jAp, jCq, or_false, not_or] at hb
   exact hs'.extBut _ _ hb.1 (hk b o hb.1 hb.2.2.1 hb.2.2.2.1 hb.2.2.2.2 e)
  have hp5 : IsPair h'' s.heap.objs.size ux uy := hs'.extBut _ _ hTn a5
  have new : qA9 X.prog X.w (upd H s.heap.objs.size (.tup [x, y])) h'' s.heap.objs.size (.tup [x, y]) := ⟨by show 2 <= sizeLine; decide, [ux, uy], .cons rux (.cons ruy .nil), ⟨_, hp5, rfl, _, rfl⟩⟩
  have I5 := Inv.moved (s := s) (h' := h'') (t' := s.toks) I hf kk (jAy _) new
  refine ⟨.ref s.heap.objs.size, upd H s.heap.objs.size (.tup [x, y]), I5, rfl, ⟨s.heap.objs.size, x, y, rfl, I.hok.fresh (jAy _), rfl, λ ws hws => by rw [I.tuple_inj hws hqx]; exact hx, λ ws hws => by rw [I.tuple_inj hws hqy]; exact hy⟩, ?_, λ b hb => ?_⟩
  ·exact ⟨hz', hs'.extBut _ _ D.TIz (hk _ _ D.TIz D.TITO D.TIi1 D.TIi2 hTI), ⟨_, _, hs'.extBut _ _ D.TOz a2⟩, a3.extBut hs'.extBut D.i1z, a4.extBut hs'.extBut D.i2z⟩
  ·have hlt : b < s.heap.objs.size := by
    simp only [jAp, jCq, or_false] at hb
    rcases hb with rfl | rfl | rfl | rfl | rfl
    ·exact jAc hz
    ·exact jAc hTI
    ·exact jAc hTO
    ·obtain ⟨o, e, _⟩ := h1; exact jAc e
    ·obtain ⟨o, e, _⟩ := h2; exact jAc e
   rw [zN (jAf hlt)]
   exact (hf b hb).1
 done := by
  intro X hP hw hK hc i pins s σ H E I hf st hg
  subst hP hw hK
  obtain ⟨hz, hTI, ⟨u, v, hTO⟩, h1, h2⟩ := st
  obtain ⟨xs, ys, hqx, hqy, hend⟩ := hg
  obtain ⟨its, rx, px, zx⟩ := I.tuple hqx
  obtain ⟨jts, ry, py, zy⟩ := I.tuple hqy
  have lx := rx.length
  have ly := ry.length
  refine qL2 D (λ A' hA => qFu hA i1 l1 its.toArray) (λ A' hA => qFu hA i2 l2 jts.toArray) (I.ok.hd hc) hz hTI hTO ⟨h1, px⟩ ⟨h2, py⟩ (by
   rcases hend with z | z
   ·exact .inl (by simp; omega)
   ·exact .inr (by simp; omega)) λ h' hk => ⟨rfl, ?_⟩
  have nch : ∀ b u, H b = some u -> b ∉ [z, TI, TO, i1, i2] := λ b u e zz => by rw [(hf b zz).1] at e; cases e
  have kk : ∀ b o, b ∉ [z, TI, TO, i1, i2] -> s.heap.get? b = some o -> h'.get? b = some o := λ b o hb e => by
   simp only [jAp, jCq, or_false, not_or] at hb
   exact hk b o hb.1 hb.2.2.1 hb.2.2.2.1 hb.2.2.2.2 e
  refine I.step (g' := s.gens) (d' := s.drawn) (t' := s.toks) (ch := [z, TI, TO, i1, i2]) (λ b hb => ⟨(hf b hb).2.2.2.1, (hf b hb).2.1, (hf b hb).2.2.2.2.1, (hf b hb).2.2.2.2.2⟩) (λ b u _ _ hc e _ => kk b u hc e) (λ b u _ _ hc e _ => ⟨u.slots, kk b u hc e⟩)
   (λ _ _ _ _ n => n) (λ b u hc e => ⟨u, kk b u hc e⟩) (λ _ _ q => q) (λ _ _ _ q => q) (λ b ps q => ⟨#[], by rw [q]; simp⟩) (λ m hm => ?_) (λ b u q => ?_) I.bare
  ·obtain ⟨ob, es, ep, ho, r⟩ := hm
   exact ⟨ob, es, ep, kk _ ob (λ z => (hf _ z).2.1 rfl) ho, r⟩
  ·refine (I.hok b u q).stay (λ c v hc zz => kk c v ?_ zz) (λ c zz => zz) λ c xs zz => zz
   rcases hc with rfl | hc
   ·exact nch _ _ q
   ·exact nch _ _ hc
 self := λ _ _ _ _ _ st h => wpAny_pyIter_zip st.1 h
section
variable {X : Cx} {E : XK}
def qX1 (K : PySem.W.Frag) (ta : TA) : TI := λ σ H R => ta σ H λ vs H1 => ∃ a b, vs = [.ref a, .ref b] /\ ((∃ xs, SqL K H1 a xs) /\ (∃ ys, SqL K H1 b ys) /\ R (Itz K a b) H1 \/ (∃ xs, SqT K H1 a xs) /\ (∃ ys, SqT K H1 b ys) /\ R (qYb K a b) H1)
theorem qQr {a b : Expr} {ta : TA} {p pos tpos : Pos} {elts : List Expr} {x1 : Nat} (hg : Gl X "zip") (hm : X.mg "zip" = none) (ha : PA X [a, b] ta) (hs : starEach [a, b] X.env = (false, eval a X.env) :: starEach [b] X.env) (hs2 : (backTo pos (starEach [b] X.env)).any (·.1) = false) :
  PI X (.Tuple elts x1 tpos) (.Call (.Name "zip" p) [a, b] [] pos) (qX1 X.K ta) := by
 intro pins s σ H R I h
 refine Call_ (qEp I hg hm qJf (PyProof.Rows.callWith_type1 (thn (ha pos pins s σ H _ I h) λ us s1 ⟨vs, H1, I1, r1, q1⟩ => ?_) hs hs2))
 obtain ⟨l1, l2, e, q1⟩ := q1
 subst e
 obtain ⟨u, v, rfl, ru, rv⟩ := qAn.two r1
 cases ru
 cases rv
 rcases q1 with ⟨⟨xs, hqx⟩, ⟨ys, hqy⟩, q⟩ | ⟨⟨xs, hqx⟩, ⟨ys, hqy⟩, q⟩
 ·obtain ⟨its, rx, px, zx⟩ := I1.list hqx
  obtain ⟨jts, ry, py, zy⟩ := I1.list hqy
  refine call_zip_2 px.isList py.isList λ h' a1 a2 a3 a4 a5 a6 hk => wpAny_pyIter_zip a1 ?_
  have I2 : Inv X pins σ H1 { s1 with heap := h' } := I1.kept (t' := s1.toks) hk
  have lt1 : l1 < s1.heap.objs.size := by obtain ⟨o, e, _⟩ := px.isList; exact jAc e
  have lt2 : l2 < s1.heap.objs.size := by obtain ⟨o, e, _⟩ := py.isList; exact jAc e
  generalize hn : s1.heap.objs.size = n at *
  have w1 : ∀ m : Nat, n <= m -> l1 ≠ m := λ m h => jAf (jAd lt1 h)
  have w2 : ∀ m : Nat, n <= m -> l2 ≠ m := λ m h => jAf (jAd lt2 h)
  have D : ZipApart (n + 4) (n + 2) (n + 3) n (n + 1) l1 l2 := by
   constructor <;> first
    | exact w1 _ (by show (_ : Nat) <= _; omega)
    | exact w2 _ (by show (_ : Nat) <= _; omega)
    | (show (_ : Nat) ≠ _; omega)
  refine ⟨n + 4, [n + 4, n + 2, n + 3, n, n + 1], _, _, H1, rfl, I2, qIn D, ⟨a1, a2, ⟨_, _, a3⟩, a4, a5⟩, λ b hb => ?_, q⟩
  have hb' : n <= b := by
   simp only [jAp, jCq, or_false] at hb
   rcases hb with rfl | rfl | rfl | rfl | rfl <;> (show (_ : Nat) <= _; omega)
  exact I1.fpOk (by rw [hn]; exact hb') (I1.hok.fresh (by rw [hn]; exact hb'))
 ·obtain ⟨its, rx, px, zx⟩ := I1.tuple hqx
  obtain ⟨jts, ry, py, zy⟩ := I1.tuple hqy
  refine qMu (show s1.heap.IsTuple l1 its.toArray from px) (show s1.heap.IsTuple l2 jts.toArray from py) λ h' a1 a2 a3 a4 a5 a6 hk => wpAny_pyIter_zip a1 ?_
  have I2 : Inv X pins σ H1 { s1 with heap := h' } := I1.kept (t' := s1.toks) hk
  have lt1 : l1 < s1.heap.objs.size := by obtain ⟨o, e, _⟩ := px; exact jAc e
  have lt2 : l2 < s1.heap.objs.size := by obtain ⟨o, e, _⟩ := py; exact jAc e
  generalize hn : s1.heap.objs.size = n at *
  have w1 : ∀ m : Nat, n <= m -> l1 ≠ m := λ m h => jAf (jAd lt1 h)
  have w2 : ∀ m : Nat, n <= m -> l2 ≠ m := λ m h => jAf (jAd lt2 h)
  have D : ZipApart (n + 4) (n + 2) (n + 3) n (n + 1) l1 l2 := by
   constructor <;> first
    | exact w1 _ (by show (_ : Nat) <= _; omega)
    | exact w2 _ (by show (_ : Nat) <= _; omega)
    | (show (_ : Nat) ≠ _; omega)
  refine ⟨n + 4, [n + 4, n + 2, n + 3, n, n + 1], _, _, H1, rfl, I2, qKt D, ⟨a1, a2, ⟨_, _, a3⟩, a4, a5⟩, λ b hb => ?_, q⟩
  have hb' : n <= b := by
   simp only [jAp, jCq, or_false] at hb
   rcases hb with rfl | rfl | rfl | rfl | rfl <;> (show (_ : Nat) <= _; omega)
  exact I1.fpOk (by rw [hn]; exact hb') (I1.hok.fresh (by rw [hn]; exact hb'))
theorem qEe : ∀ {xs ys : List D} {i : Nat}, (qA3 xs ys)[i]? = none -> xs.length <= i \/ ys.length <= i
 | [], _, _, _ => .inl (jBk _)
 | _ :: _, [], _, _ => .inr (jBk _)
 | _ :: _, _ :: _, 0, h => by simp [qA3] at h
 | _ :: xs, _ :: ys, i + 1, h => by
  have h : (qA3 xs ys)[i]? = none := by rwa [qA3, jCg] at h
  rcases qEe h with h | h
  ·exact .inl (jB9 h)
  ·exact .inr (jB9 h)
theorem qEd : ∀ {xs ys : List D} {i : Nat} {d : D}, (qA3 xs ys)[i]? = some d -> ∃ u v, xs[i]? = some u /\ ys[i]? = some v /\ d = .tup [u, v]
 | [], _, _, _, h => by simp [qA3] at h
 | _ :: _, [], _, _, h => by simp [qA3] at h
 | x :: _, y :: _, 0, d, h => ⟨x, y, rfl, rfl, by rw [qA3, jC0] at h; exact (Option.some.inj h).symm⟩
 | _ :: xs, _ :: ys, i + 1, d, h => by
  have h : (qA3 xs ys)[i]? = some d := by rwa [qA3, jCg] at h
  obtain ⟨u, v, e1, e2, e3⟩ := qEd h
  exact ⟨u, v, by rw [jCg]; exact e1, by rw [jCg]; exact e2, e3⟩
theorem qJm {G : Gx} {H : Hp} {W : Wd} {a b : Addr} {ds es : List D} {xs ys : List V} (hS : qB0 G H W) (qa : SqT G.K H a xs) (qb : SqT G.K H b ys) (ra : qAl G H W ds xs) (rb : qAl G H W es ys) : Walks G (qYb G.K a b) H W (.fix (qA3 ds es)) := λ i H1 W1 s1 => by
 have q1 := (s1.mv hS).sqT qa
 have q2 := (s1.mv hS).sqT qb
 have rx := ra.mv (s1.mv hS)
 have ry := rb.mv (s1.mv hS)
 refine ⟨λ h => ?_, λ d hd => ?_⟩
 ·have h : (qA3 ds es)[i]? = none := Option.some.inj h
  refine ⟨xs, ys, q1, q2, ?_⟩
  rcases qEe h with h | h
  ·exact .inl (by rw [<- rx.length]; exact h)
  ·exact .inr (by rw [<- ry.length]; exact h)
 ·have hd : (qA3 ds es)[i]? = some d := Option.some.inj hd
  obtain ⟨u, v, hu, hv, rfl⟩ := qEd hd
  obtain ⟨vx, ex, rvx⟩ := rx.get hu
  obtain ⟨vy, ey, rvy⟩ := ry.get hv
  refine ⟨⟨xs, ys, vx, vy, q1, q2, ex, ey⟩, λ z H3 hz => ?_⟩
  obtain ⟨p, x', y', rfl, hp, rfl, k1, k2⟩ := hz
  have e1 := k1 xs q1
  have e2 := k2 ys q2
  rw [ex] at e1
  rw [ey] at e2
  cases e1
  cases e2
  have sn := Nxt.heap s1.ok hp (HO.tup [vx, vy])
  exact ⟨W1, rfl, sn, p, _, rfl, SqT.of zT, ⟨vx, _, rfl, rvx.mv (sn.mv s1.ok), ⟨vy, _, rfl, rvy.mv (sn.mv s1.ok), rfl⟩⟩⟩
theorem qN5 {a b : Expr} {ga gb : DE} {p pos tpos : Pos} {elts : List Expr} {x1 : Nat} (hg : Gl X "zip") (hm : X.mg "zip" = none) (ha : PDE X E a ga) (hb : PDE X E b gb) (hs : starEach [a, b] X.env = (false, eval a X.env) :: starEach [b] X.env := by rfl) (hs2 : (backTo pos (starEach [b] X.env)).any (·.1) = false := by rfl)
  (hst2 : starEach (b :: []) X.env = (false, eval b X.env) :: starEach [] X.env := by rfl) : PDI X E (.Tuple elts x1 tpos) (.Call (.Name "zip" p) [a, b] [] pos) (itA qJl (zZ ga (zZ gb aNil))) := by
 try unfold PDE
 try unfold PDI at *
 intro pins s σ H R I ⟨W, δ, rr, hS, hδ, hg', hA⟩
 refine qQr hg hm (zB ha (zB hb zE hst2) hs).o hs hs2 pins s σ H R I (Go.thn hS hδ hg' hA λ ds H1 W1 s1 hδ1 hg1 hA1 vs rv => ?_)
 unfold qJl at hg1
 split at hg1
 ·rename_i xs ys
  obtain rfl : Rs.ok (Src.fix (qA3 xs ys)) W1.S = rr := Option.some.inj hg1
  obtain ⟨v, r, e, rx, t⟩ := rv
  obtain ⟨v2, r2, e2, ry, t2⟩ := t
  have t2 : r2 = [] := t2
  obtain ⟨a, us, ea, qa, ra⟩ := rx
  obtain ⟨b, ws, eb, qb, rb⟩ := ry
  subst e e2 ea eb t2
  exact ⟨a, b, rfl, .inr ⟨⟨us, qa⟩, ⟨ws, qb⟩, hA1.now s1.ok _ (qJm s1.ok qa qb ra rb)⟩⟩
 ·unfold qGd at hg1
  split at hg1
  ·rename_i a b _
   split at hg1
   ·rename_i xs ys ea eb
    obtain rfl : Rs.ok (Src.two a b) W1.S = rr := Option.some.inj hg1
    obtain ⟨v, r, e, rx, t⟩ := rv
    obtain ⟨v2, r2, e2, ry, t2⟩ := t
    have t2 : r2 = [] := t2
    obtain ⟨us, eu, qu, _⟩ := s1.ok.lst rx ea
    obtain ⟨ws, ew, qw, _⟩ := s1.ok.lst ry eb
    subst e e2 eu ew t2
    exact ⟨_, _, rfl, .inl ⟨⟨us, .inl (.inl qu)⟩, ⟨ws, .inl (.inl qw)⟩, hA1.now s1.ok _ (qGf rx.1 ry.1)⟩⟩
   ·cases hg1
  ·cases hg1
end
end Np
end
section
namespace Np
open PySem PySem.Spec PyProof.Rows L2
section
variable (P : Program) (w : World) (K : PySem.W.Frag) (mg : Str -> Option Value) (base : Heap)
structure Fk (k : Nat) (x : Str) (F : List D -> Sto -> R D) : Prop where
 ex : ∃ (ps : List Str) (f : Addr) (d : FuncData), qCf P w K mg base CX0 k f d ps (spF ⟨K, mg⟩ F) /\ zS K d ps [] /\ jBg K (.ref f) = true /\ mg x = some (.ref f)
structure Ff (c f : Str) : Prop where
 ex : ∃ C : Addr, mg c = some (.ref C) /\ Cls K C /\ qDc K C f
structure Fme (k : Nat) (c m : Str) (ds : List Value) (F : List D -> Sto -> R D) : Prop where
 ex : ∃ (C : Addr) (ps : List Str) (f : Addr) (d : FuncData), mg c = some (.ref C) /\ Cls K C /\ qP2 K C m f /\ qCf P w K mg base CX0 k f d ps (spF ⟨K, mg⟩ F) /\ zS K d ps ds
structure Fn (k : Nat) (c : Str) (F : List D -> Sto -> R D) : Prop where
 ex : ∃ (C : Addr) (ps : List Str) (f : Addr) (d : FuncData), mg c = some (.ref C) /\ Mk K C f /\ qCf P w K mg base CX0 k f d ps (spF ⟨K, mg⟩ F) /\ zS K d ps []
end
section
variable {X : Cx} {E : XK} {e e2 ek o value : Expr} {es : List Expr} {go ge gv g1 g2 gk : DE} {gs : DA} {pos pos' apos p kpos : Pos} {j k : Nat} {x c m fl kw : Str} {f : List D -> Sto -> R D}
theorem qXm (B : Fk X.prog X.w X.K X.mg X.base j x f) (hr : qBd k X.A) (hg : Gl X x) (hx : qAv CX0 X E) (ha : PDA X E (e :: es) gs) (hj : j <= k := by first | decide | omega) (hdb : (x == ("__debug__" : Str)) = false := by decide +kernel) (he : starEach (e :: es) X.env = (false, eval e X.env) :: starEach es X.env := by rfl)
  (hpl : (backTo pos (starEach es X.env)).any (·.1) = false := by rfl) : PDE X E (.Call (.Name x p) (e :: es) [] pos) (fnE f gs) := by
 obtain ⟨ps, fa, fd, O, hb, hk, hm⟩ := B.ex
 exact qXj (O.mono hj) hr hg hm hk hb hx ha hdb he hpl
theorem qXl (B : Ff X.K X.mg c fl) (he : PDE X E e ge) (hb : attributeBase e fl X.env (eval e X.env) = eval e X.env := by rfl) : PDE X E (.Attribute e fl pos) (op1 (qAt c fl) ge) := by
 obtain ⟨C, hm, hc, hn⟩ := B.ex
 exact qUn hc hn hm he hb
theorem qXi (B : Ff X.K X.mg c fl) (ho : PDE X E o go) (hv : PDE X E value gv) (hs : swapsWith value (some (.Attribute o fl pos')) pos.line X.env = pure false := by rfl) : PDS X E (.Assign [.Attribute o fl pos'] value pos) (qDv c fl go gv) := by
 obtain ⟨C, hm, hc, hn⟩ := B.ex
 exact qQ5 hc hn hm ho hv hs
theorem qXk {pl : Sem Bool} (B : Fme X.prog X.w X.K X.mg X.base j c m [] f) (hr : qBd k X.A) (hx : qAv CX0 X E) (ho : PDE X E o go) (ha : PDA X E (e :: es) gs) (hj : j <= k := by decide)
  (hst : starEach (e :: es) X.env = (false, eval e X.env) :: starEach es X.env := by rfl) (hpl : (backTo pos (starEach es X.env)).any (·.1) = false := by rfl)
  (ht : eval (.Call (.Attribute o m apos) (e :: es) [] pos) X.env = (do
   let ov <- eval o X.env
   standAt apos.atName
   let (f, first) <- holding [ov] (getMethod ov m pl)
   callWith pos f first (backTo pos (starEach (e :: es) X.env)) (backToKw pos (keywordEach [] X.env))) := by rfl) : PDE X E (.Call (.Attribute o m apos) (e :: es) [] pos) (qAg c m f go gs) := by
 obtain ⟨C, ps, fa, fd, hm, hc, hM, O, hb⟩ := B.ex
 exact qLt hc hM hm (O.mono hj) hr hb hx ho ha hst hpl ht
theorem qUl {pl : Sem Bool} (B : Fme X.prog X.w X.K X.mg X.base j c m [.none] f) (hr : qBd k X.A) (hx : qAv CX0 X E) (ho : PDE X E o go) (ha : PDA X E (e :: es) gs) (hj : j <= k := by decide)
  (hst : starEach (e :: es) X.env = (false, eval e X.env) :: starEach es X.env := by rfl) (hpl : (backTo pos (starEach es X.env)).any (·.1) = false := by rfl)
  (ht : eval (.Call (.Attribute o m apos) (e :: es) [] pos) X.env = (do
   let ov <- eval o X.env
   standAt apos.atName
   let (f, first) <- holding [ov] (getMethod ov m pl)
   callWith pos f first (backTo pos (starEach (e :: es) X.env)) (backToKw pos (keywordEach [] X.env))) := by rfl) : PDE X E (.Call (.Attribute o m apos) (e :: es) [] pos) (qAg c m (fnD f [.non]) go gs) := by
 obtain ⟨C, ps, fa, fd, hm, hc, hM, O, hb⟩ := B.ex
 exact qOd hc hM hm (O.mono hj) hr hb hx ho ha hst hpl ht
theorem qUm {pl : Sem Bool} (B : Fme X.prog X.w X.K X.mg X.base j c m [] f) (hr : qBd k X.A) (hx : qAv CX0 X E) (ho : PDE X E o go) (hj : j <= k := by decide)
  (ht : eval (.Call (.Attribute o m apos) [] [] pos) X.env = (do
   let ov <- eval o X.env
   standAt apos.atName
   let (f, first) <- holding [ov] (getMethod ov m pl)
   callWith pos f first (backTo pos (starEach [] X.env)) (backToKw pos (keywordEach [] X.env))) := by rfl) : PDE X E (.Call (.Attribute o m apos) [] [] pos) (qAg c m f go aNil) := by
 obtain ⟨C, ps, fa, fd, hm, hc, hM, O, hb⟩ := B.ex
 exact qIx hc hM hm (O.mono hj) hr hb hx ho ht
theorem qUj (B : Fn X.prog X.w X.K X.mg X.base j c f) (hr : qBd k X.A) (hg : Gl X c) (hx : qAv CX0 X E) (ha : PDA X E (e :: es) gs) (hj : j + 1 <= k := by decide)
  (hdb : (c == ("__debug__" : Str)) = false := by decide +kernel) (he : starEach (e :: es) X.env = (false, eval e X.env) :: starEach es X.env := by rfl) (hpl : (backTo pos (starEach es X.env)).any (·.1) = false := by rfl) :
  PDE X E (.Call (.Name c p) (e :: es) [] pos) (mkE c f gs) := by
 obtain ⟨C, ps, fa, fd, hm, hM, O, hb⟩ := B.ex
 obtain ⟨i, rfl⟩ : ∃ i, k = i + 1 := ⟨k - 1, by omega⟩
 exact qLu hM hm (O.mono (jC1 hj)) hr hg hb hx ha hdb he hpl
end
def qHp : Expr -> List Str
 | .Name x _ => [x]
 | .Tuple es _ _ => es.filterMap λ e => match e with
  | .Name x _ => some x
  | _ => none
 | _ => []
def qSu (N : List Str) (fsc : Scope) (N' : List Str) (scope : Scope) : Prop :=
 (∀ x ∈ scope.names, x.2 = .local -> scope.names.lookup x.1 = some .local) /\ (∀ x ∈ scope.names, x.2 = .cell -> scope.names.lookup x.1 = some .cell) /\
 (∀ x ∈ scope.names, x.2 = .free -> scope.names.lookup x.1 = some .free /\ (fsc.names.lookup x.1 = some .cell \/ fsc.names.lookup x.1 = some .free)) /\
 ((jAg N.length).all λ i => match N'[i]? with
  | some x => (match scope.names.lookup x with
   | some .local => false
   | some .cell => false
   | some .free => N[i]? == some x
   | _ => true)
  | none => true) = true /\ N'.Nodup
instance {N N' : List Str} {fsc scope : Scope} : Decidable (qSu N fsc N' scope) := by unfold qSu; infer_instance
theorem cok {N own : List Str} {fsc scope : Scope} (hk : scope.kind = .function) (h : decide (qSu N fsc (N ++ own) scope) = true) : qCl N fsc (N ++ own) scope := by
 obtain ⟨a, b, c, d, e⟩ := of_decide_eq_true h
 exact ⟨hk, a, b, c, d, by rw [jB0]; exact Nat.le_add_right .., e⟩
section
variable {X : Cx} {E : XK} {elt iter tg ce : Expr} {scope : Scope} {pos spos py : Pos} {y : Str} {gi : DI} {g : DG} {gc : DT} {ge : DE} {k : Nat}
theorem qXn (hcal : X.calm = true) (hi : PDI X E tg iter gi) (hg : (X.N ++ qHp tg).Nodup -> ∀ C s₃ H₃ ex pn, PDG (qAa X (X.N ++ qHp tg) scope C s₃ H₃ ex pn) E0 tg g) (he : ∀ C s₃ H₃ ex pn, PDE (qAa X (X.N ++ qHp tg) scope C s₃ H₃ ex pn) E0 elt ge)
  (hk : scope.kind = .function := by rfl) (h : decide (qSu X.N X.env.scope (X.N ++ qHp tg) scope) = true := by kernel_rfl) (hlen : X.N.length + k = (X.N ++ qHp tg).length := by rfl) (hs : ∀ x, foldedSetIterable iter X.env x = pure x := by intro _; rfl) : PDE X E (.ListComp elt [⟨tg, iter, [], 0⟩] scope pos) (qA1 gi k g ge) :=
 qRi k (cok hk h) hcal hi (hg (cok hk h).nd) he hlen hs
theorem qXe {j : Nat} (hcal : X.calm = true) (hi : PDI X E tg iter gi) (hg : (X.N ++ qHp tg).Nodup -> ∀ C s₃ H₃ ex pn, PDG (qAa X (X.N ++ qHp tg) scope C s₃ H₃ ex pn) E0 tg g) (he : ∀ C s₃ H₃ ex pn, PDE (qAa X (X.N ++ qHp tg) scope C s₃ H₃ ex pn) E0 elt ge)
  (hN : X.N.Nodup) (hk : scope.kind = .function := by rfl) (h : decide (qSu X.N X.env.scope (X.N ++ qHp tg) scope) = true := by kernel_rfl) (hj : X.N[j]? = some y := by rfl) (hy : X.env.scope.names.lookup y = some .local := by rfl) (hsw : swapsWith (.ListComp elt [⟨tg, iter, [], 0⟩] scope pos) (some (.Name y py)) spos.line X.env = pure true := by rfl)
  (hlen : X.N.length + k = (X.N ++ qHp tg).length := by rfl) (hs : ∀ x, foldedSetIterable iter X.env x = pure x := by intro _; rfl) : PDS X E (.Assign [.Name y py] (.ListComp elt [⟨tg, iter, [], 0⟩] scope pos) spos) (setS j (qA1 gi k g ge)) :=
 qJy j k (cok hk h) hcal hi (hg (cok hk h).nd) he hN hj hy hsw hlen hs
theorem qXd {j : Nat} (hcal : X.calm = true) (hi : PDI X E tg iter gi) (hg : (X.N ++ qHp tg).Nodup -> ∀ C s₃ H₃ ex pn, PDG (qAa X (X.N ++ qHp tg) scope C s₃ H₃ ex pn) E0 tg g) (hc : ∀ C s₃ H₃ ex pn, PDT (qAa X (X.N ++ qHp tg) scope C s₃ H₃ ex pn) E0 ce gc) (he : ∀ C s₃ H₃ ex pn, PDE (qAa X (X.N ++ qHp tg) scope C s₃ H₃ ex pn) E0 elt ge)
  (hN : X.N.Nodup) (hk : scope.kind = .function := by rfl) (h : decide (qSu X.N X.env.scope (X.N ++ qHp tg) scope) = true := by kernel_rfl) (hj : X.N[j]? = some y := by rfl) (hy : X.env.scope.names.lookup y = some .local := by rfl) (hsw : swapsWith (.ListComp elt [⟨tg, iter, [ce], 0⟩] scope pos) (some (.Name y py)) spos.line X.env = pure true := by rfl)
  (hlen : X.N.length + k = (X.N ++ qHp tg).length := by rfl) (hs : ∀ x, foldedSetIterable iter X.env x = pure x := by intro _; rfl) : PDS X E (.Assign [.Name y py] (.ListComp elt [⟨tg, iter, [ce], 0⟩] scope pos) spos) (setS j (qDw gi k g gc ge)) :=
 qHy j k (cok hk h) hcal hi (hg (cok hk h).nd) hc he hN hj hy hsw hlen hs
end
def Fd (K : PySem.W.Frag) (x q : Str) (st : Stmt) (f : Addr) (dV : Value) : Prop := ∃ (oc : Value) (od : Option Addr) (kV dc pm : Value) (an : Option Addr) (cd ct : Value) (sl : Array (Option Value)), K.lookup f = some ⟨oc, od, .func (jB2 x q (zI st) (zG st) (zC st) dV kV dc pm an cd ct), sl⟩ /\ jB3 K cd q = true /\ jBg K (.ref f) = true
def Ga (K : PySem.W.Frag) (x : Str) (st : Stmt) : Prop := ∃ f, jC2 K mainGlobals x = some (some (.ref f)) /\ Fd K x x st f .none
def Ge (K : PySem.W.Frag) (x : Str) (st : Stmt) : Prop := ∃ (f T : Addr) (dT : Option Addr) (nT : Nat) (sT : Array (Option Value)), jC2 K mainGlobals x = some (some (.ref f)) /\ Fd K x x st f (.ref T) /\ K.lookup T = some ⟨.type "tuple", dT, .seq #[.none] nT, sT⟩
def Gc (K : PySem.W.Frag) (c : Str) : Prop := ∃ C : Addr, jC2 K mainGlobals c = some (some (.ref C)) /\ jA3 K C Str.empty = true /\ jA4 K C = true /\ jA8 K C = true /\ jA5 K (.ref C) "__setattr__" = some (some (.builtin "object.__setattr__"))
def Gn (K : PySem.W.Frag) (c : Str) : Prop := ∃ C : Addr, jC2 K mainGlobals c = some (some (.ref C)) /\ jBb K C = true /\ jBg K (.ref C) = true
def Gf (K : PySem.W.Frag) (c f : Str) : Prop := ∃ C : Addr, jC2 K mainGlobals c = some (some (.ref C)) /\ jA5 K (.ref C) f = some none
def Gm (K : PySem.W.Frag) (c m q : Str) (st : Stmt) : Prop := ∃ C f : Addr, jC2 K mainGlobals c = some (some (.ref C)) /\ jA5 K (.ref C) m = some (some (.ref f)) /\ jA7 K (.ref f) = true /\ Fd K m q st f .none
def Gd (K : PySem.W.Frag) (c m q : Str) (st : Stmt) : Prop := ∃ (C f T : Addr) (dT : Option Addr) (nT : Nat) (sT : Array (Option Value)), jC2 K mainGlobals c = some (some (.ref C)) /\ jA5 K (.ref C) m = some (some (.ref f)) /\ jA7 K (.ref f) = true /\ Fd K m q st f (.ref T) /\ K.lookup T = some ⟨.type "tuple", dT, .seq #[.none] nT, sT⟩
def qKj : Nat -> (List Value -> Prop) -> Prop
 | 0, p => p []
 | n + 1, p => ∀ v, qKj n λ us => p (v :: us)
theorem qCa : ∀ {n : Nat} {p : List Value -> Prop}, qKj n p -> ∀ us, us.length = n -> p us
 | 0, p, h, [], _ => h
 | n + 1, p, h, v :: us, e => qCa (h v) us (Nat.succ.inj e)
section
variable {P : Program} {w : World} {K : PySem.W.Frag} {mg : Str -> Option Value} {base h : Heap} {x c m q : Str} {st : Stmt} {k : Nat} {F : List D -> Sto -> R D} {g : DSt} {f : Addr}
def Bo (P : Program) (w : World) (K : PySem.W.Frag) (mg : Str -> Option Value) (base : Heap) (q : Str) (st : Stmt) (N : List Str) (k : Nat) (g : DSt) : Prop := ∀ (f : Addr) (cdv : Value) (A : Around) (outer : List Env) (s : Shared) (H : Hp), qBd k (A.deeper (envOfC q (zC st) s.heap.objs.size f cdv)) -> N.Nodup -> qDl (qFe CX0 P w K mg base N q (zC st) f cdv A outer s H E0).nox E0 (zG st) g
theorem Bo.ok {N : List Str} {i : Nat} {fd : FuncData} (B : Bo P w K mg base q st N k g) (G : qJj K x q st f fd) (S : zM N (N.take i) (zC st)) (hi : (N.take i).length = i) (hF : F = fnF N.length i g) : qCf P w K mg base CX0 (k + 1) f fd (N.take i) (spF ⟨K, mg⟩ F) := by
 cases qJj.ex G with
 | intro dV r => 
  have hq : ∀ (cdv : Value) (A : Around) (outer : List Env) (s : Shared) (H : Hp), qBd k (A.deeper (envOfC q (zC st) s.heap.objs.size f cdv)) -> qDl (qFe CX0 P w K mg base N q (zC st) f cdv A outer s H E0).nox E0 (zG st) g := λ cdv A outer s H hr => B f cdv A outer s H hr S.nd
  exact qZl N.length i g hF G S rfl hi hq
theorem Ga.fk {N : List Str} {i : Nat} (P : Program) (w : World) (base : Heap) (G : Ga K x st) (hX : K.In h) (hG : h.Ns mainGlobals mg) (B : Bo P w K mg base x st N k g) (hF : F = fnF N.length i g := by rfl) (S : zM N (N.take i) (zC st) := by exact ⟨rfl, rfl, rfl, by decide +kernel, rfl, by decide +kernel, by decide +kernel⟩) (hi : (N.take i).length = i := by rfl)
  (hb : ∀ (kV doc pm : Value) (an : Option Addr) (cdv ct : Value), qKj i λ us => bindArgs (jB2 x x (zI st) (zG st) (zC st) .none kV doc pm an cdv ct) ⟨us, []⟩ = pure ((N.take i).zip us) := by intros; (repeat intro _); rfl) : Fk P w K mg base (k + 1) x F := by
 obtain ⟨f, a, oc, od, kV, dc, pm, an, cd, ct, sl, l, c, kp⟩ := G
 have R := zY (st := st) l c kp
 exact ⟨⟨_, f, _, B.ok R.g S hi hF, R.binds λ kV doc pm an cdv ct us hl => qCa (hb kV doc pm an cdv ct) us (hl.trans hi), kp, jC3 hX hG a⟩⟩
theorem Ga.fk0 {N : List Str} {i : Nat} (P : Program) (w : World) (base : Heap) (G : Ga K x st) (hX : K.In h) (hG : h.Ns mainGlobals mg) (S : zM N (N.take i) (zC st) := by exact ⟨rfl, rfl, rfl, by decide +kernel, rfl, by decide +kernel, by decide +kernel⟩) (hi : (N.take i).length = i := by rfl)
  (hb : ∀ (kV doc pm : Value) (an : Option Addr) (cdv ct : Value), qKj i λ us => bindArgs (jB2 x x (zI st) (zG st) (zC st) .none kV doc pm an cdv ct) ⟨us, []⟩ = pure ((N.take i).zip us) := by intros; (repeat intro _); rfl) (hF : F = λ _ _ => none := by rfl) : Fk P w K mg base (k + 1) x F := by
 subst hF
 obtain ⟨f, a, oc, od, kV, dc, pm, an, cd, ct, sl, l, c, kp⟩ := G
 have R := zY (st := st) l c kp
 have B : Bo P w K mg base x st N k qL4 := λ _ _ _ _ _ _ _ _ => qLr
 exact ⟨⟨_, f, _, (B.ok (F := fnF N.length i qL4) R.g S hi rfl).imp λ vs H Q E h => (by obtain ⟨W, ds, rr, _, _, e, _⟩ := h; cases e), R.binds λ kV doc pm an cdv ct us hl => qCa (hb kV doc pm an cdv ct) us (hl.trans hi), kp, jC3 hX hG a⟩⟩
theorem Gm.fm {N : List Str} {i : Nat} (P : Program) (w : World) (base : Heap) (G : Gm K c m q st) (hc : Gc K c) (hX : K.In h) (hG : h.Ns mainGlobals mg) (B : Bo P w K mg base q st N k g) (hF : F = fnF N.length i g := by rfl) (S : zM N (N.take i) (zC st) := by exact ⟨rfl, rfl, rfl, by decide +kernel, rfl, by decide +kernel, by decide +kernel⟩) (hi : (N.take i).length = i := by rfl)
  (hb : ∀ (kV doc pm : Value) (an : Option Addr) (cdv ct : Value), qKj i λ us => bindArgs (jB2 m q (zI st) (zG st) (zC st) .none kV doc pm an cdv ct) ⟨us, []⟩ = pure ((N.take i).zip us) := by intros; (repeat intro _); rfl) : Fme P w K mg base (k + 1) c m [] F := by
 obtain ⟨C, f, aC, a, fn, oc, od, kV, dc, pm, an, cd, ct, sl, l, c', kp⟩ := G
 obtain ⟨C', aC', pg, hd, po, sa⟩ := hc
 rw [aC] at aC'
 cases aC'
 have R := zY (st := st) l c' kp
 exact ⟨⟨C, _, f, _, jC3 hX hG aC, ⟨pg, hd, po, sa⟩, ⟨a, fn, kp⟩, B.ok R.g S hi hF, R.binds λ kV doc pm an cdv ct us hl => qCa (hb kV doc pm an cdv ct) us (hl.trans hi)⟩⟩
theorem Gm.fn {N : List Str} {i : Nat} (P : Program) (w : World) (base : Heap) (G : Gm K c "__init__" q st) (hn : Gn K c) (hX : K.In h) (hG : h.Ns mainGlobals mg) (B : Bo P w K mg base q st N k g) (hF : F = fnF N.length i g := by rfl) (S : zM N (N.take i) (zC st) := by exact ⟨rfl, rfl, rfl, by decide +kernel, rfl, by decide +kernel, by decide +kernel⟩) (hi : (N.take i).length = i := by rfl)
  (hb : ∀ (kV doc pm : Value) (an : Option Addr) (cdv ct : Value), qKj i λ us => bindArgs (jB2 "__init__" q (zI st) (zG st) (zC st) .none kV doc pm an cdv ct) ⟨us, []⟩ = pure ((N.take i).zip us) := by intros; (repeat intro _); rfl) : Fn P w K mg base (k + 1) c F := by
 obtain ⟨C, f, aC, a, fn, oc, od, kV, dc, pm, an, cd, ct, sl, l, c', kp⟩ := G
 obtain ⟨C', aC', mk, kC⟩ := hn
 rw [aC] at aC'
 cases aC'
 have R := zY (st := st) l c' kp
 exact ⟨⟨C, _, f, _, jC3 hX hG aC, ⟨mk, a, fn, kC⟩, B.ok R.g S hi hF, R.binds λ kV doc pm an cdv ct us hl => qCa (hb kV doc pm an cdv ct) us (hl.trans hi)⟩⟩
theorem Gf.ff {fl : Str} (G : Gf K c fl) (hc : Gc K c) (hX : K.In h) (hG : h.Ns mainGlobals mg) : Ff K mg c fl := by
 obtain ⟨C, aC, n⟩ := G
 obtain ⟨C', aC', pg, hd, po, sa⟩ := hc
 rw [aC] at aC'
 cases aC'
 exact ⟨⟨C, jC3 hX hG aC, ⟨pg, hd, po, sa⟩, n⟩⟩
theorem qSi.b0 {ps : List Str} {fd : FuncData} {T : Addr} {items : Array Value} {i : Nat} {ds : List Value} (R : qSi K x q st f fd T items) (hi : ps.length = i + ds.length)
  (hb : ∀ (kV doc pm : Value) (an : Option Addr) (cdv ct : Value), qKj i λ us => ∃ k' : Option (Array Value) -> Sem (List (Str × Value)), bindArgs (jB2 x q (zI st) (zG st) (zC st) (.ref T) kV doc pm an cdv ct) ⟨us, []⟩ = seqItems? (.ref T) >>= k' /\ k' (some items) = pure (ps.zip (us ++ ds))) : zS K fd ps ds := λ s us KX hl =>
 R.bindsTo KX λ kV doc pm an cdv ct => qCa (hb kV doc pm an cdv ct) us (by rw [jB0, hi] at hl; exact Nat.add_right_cancel hl)
theorem Gd.fm {N : List Str} {i : Nat} {ds : List Value} (P : Program) (w : World) (base : Heap) (j : Nat) (G : Gd K c m q st) (hc : Gc K c) (hX : K.In h) (hG : h.Ns mainGlobals mg) (B : Bo P w K mg base q st N k g) (hF : F = fnF N.length i g := by rfl) (S : zM N (N.take i) (zC st) := by exact ⟨rfl, rfl, rfl, by decide +kernel, rfl, by decide +kernel, by decide +kernel⟩) (hi : (N.take i).length = i := by rfl) (hj : (N.take i).length = j + ds.length := by rfl)
  (hb : ∀ (T : Addr) (kV doc pm : Value) (an : Option Addr) (cdv ct : Value), qKj j λ us => ∃ k' : Option (Array Value) -> Sem (List (Str × Value)), bindArgs (jB2 m q (zI st) (zG st) (zC st) (.ref T) kV doc pm an cdv ct) ⟨us, []⟩ = seqItems? (.ref T) >>= k' /\ k' (some #[.none]) = pure ((N.take i).zip (us ++ ds)) := by intros; (repeat intro _); exact ⟨_, rfl, rfl⟩) : Fme P w K mg base (k + 1) c m ds F := by
 obtain ⟨C, f, T, dT, nT, sT, aC, a, fn, ⟨oc, od, kV, dc, pm, an, cd, ct, sl, l, c', kp⟩, lT⟩ := G
 obtain ⟨C', aC', pg, hd, po, sa⟩ := hc
 rw [aC] at aC'
 cases aC'
 have R := qMm (st := st) l c' lT rfl
 exact ⟨⟨C, _, f, _, jC3 hX hG aC, ⟨pg, hd, po, sa⟩, ⟨a, fn, kp⟩, B.ok R.g S hi hF, R.b0 hj (hb T)⟩⟩
end
section
variable {K : PySem.W.Frag} {x c m q fl : Str} {st : Stmt} {f C T : Addr} {dV oc : Value} {od : Option Addr} {kV dc pm : Value} {an : Option Addr} {cd ct : Value} {sl : Array (Option Value)} {dT : Option Addr} {nT : Nat} {sT : Array (Option Value)}
theorem Ga.of (a : jC2 K mainGlobals x = some (some (.ref f))) (l : K.lookup f = some ⟨oc, od, .func (jB2 x x (zI st) (zG st) (zC st) .none kV dc pm an cd ct), sl⟩) (c : jB3 K cd x = true) (k : jBg K (.ref f) = true) : Ga K x st := ⟨f, a, oc, od, kV, dc, pm, an, cd, ct, sl, l, c, k⟩
theorem Ge.of (a : jC2 K mainGlobals x = some (some (.ref f))) (l : K.lookup f = some ⟨oc, od, .func (jB2 x x (zI st) (zG st) (zC st) (.ref T) kV dc pm an cd ct), sl⟩) (c : jB3 K cd x = true) (k : jBg K (.ref f) = true) (t : K.lookup T = some ⟨.type "tuple", dT, .seq #[.none] nT, sT⟩) : Ge K x st := ⟨f, T, dT, nT, sT, a, ⟨oc, od, kV, dc, pm, an, cd, ct, sl, l, c, k⟩, t⟩
theorem Gm.of (a : jC2 K mainGlobals c = some (some (.ref C))) (b : jA5 K (.ref C) m = some (some (.ref f))) (i : jA7 K (.ref f) = true) (l : K.lookup f = some ⟨oc, od, .func (jB2 m q (zI st) (zG st) (zC st) .none kV dc pm an cd ct), sl⟩) (c' : jB3 K cd q = true) (k : jBg K (.ref f) = true) : Gm K c m q st := ⟨C, f, a, b, i, oc, od, kV, dc, pm, an, cd, ct, sl, l, c', k⟩
theorem Gd.of (a : jC2 K mainGlobals c = some (some (.ref C))) (b : jA5 K (.ref C) m = some (some (.ref f))) (i : jA7 K (.ref f) = true) (l : K.lookup f = some ⟨oc, od, .func (jB2 m q (zI st) (zG st) (zC st) (.ref T) kV dc pm an cd ct), sl⟩) (c' : jB3 K cd q = true) (k : jBg K (.ref f) = true) (t : K.lookup T = some ⟨.type "tuple", dT, .seq #[.none] nT, sT⟩) : Gd K c m q st := ⟨C, f, T, dT, nT, sT, a, b, i, ⟨oc, od, kV, dc, pm, an, cd, ct, sl, l, c', k⟩, t⟩
theorem Gc.of (a : jC2 K mainGlobals c = some (some (.ref C))) (b : jA3 K C Str.empty = true) (d : jA4 K C = true) (e : jA8 K C = true) (g : jA5 K (.ref C) "__setattr__" = some (some (.builtin "object.__setattr__"))) : Gc K c := ⟨C, a, b, d, e, g⟩
theorem Gn.of (a : jC2 K mainGlobals c = some (some (.ref C))) (b : jBb K C = true) (d : jBg K (.ref C) = true) : Gn K c := ⟨C, a, b, d⟩
theorem Gf.of (a : jC2 K mainGlobals c = some (some (.ref C))) (b : jA5 K (.ref C) fl = some none) : Gf K c fl := ⟨C, a, b⟩
end
abbrev kh (P : Params) (x : Str) (n : Nat) (v : Value) : DictEntry := ⟨PySem.PyData.keyHash P x, .str x n, v⟩
abbrev cb (x q : Str) (n l i r1 r2 : Nat) (v3 v4 : Value) (r5 u : Nat) : Obj :=
 ⟨.type "code", none, .fields [.str x n, .str q (n + 1), .str "/claim/cut.py" (n + 2), .int l 0, .int i 0, .int 0 0, .int 0 0, .int 3 0, .ref r1, .bool true, .int 181 0, .ref r2, .none, v3, v4, .ref r5, .int u 0, .int l 0, .str "/claim/cut.py" (u + 1)].toArray, [].toArray⟩
abbrev fo (x q : Str) (st : Stmt) (dV pm : Value) (a : Nat) : Obj := ⟨.type "function", none, .func (jB2 x q (zI st) (zG st) (zC st) dV .none .none pm none (.ref a) .none), [].toArray⟩
end Np
end
section
namespace Np
open PySem PySem.Spec PyProof.Rows L2
section
variable {X : Cx} {E : XK} {pos : Pos}
def qZj (K : PySem.W.Frag) (n : Nat) (t : TGs) : TG := λ v σ H Q => ∃ a xs, v = .ref a /\ SqL K H a xs /\ xs.length = n /\ t xs σ H Q
theorem qTw {es : List Expr} {k : Nat} {t : TGs} {n : Nat} (hc : X.calm = true) (h : PGs X es t)
  (hn : (assignEach es X.env).length = n := by rfl) (hst : (assignEach es X.env).findIdx? (·.1) = none := by rfl) : PG X (.Tuple es k pos) (qZj X.K n t) := by
 intro pins s σ H v u Q I r hw
 obtain ⟨a, xs, e1, hq, hl, hw⟩ := hw
 subst e1
 cases r
 obtain ⟨its, rv, ht, hz⟩ := I.list hq
 have hi : s.heap.IsList a its.toArray := by
  obtain ⟨o, n, e, c, _, d⟩ := ht
  exact ⟨o, e, c, n, d⟩
 have hsz : (assignEach es X.env).length = its.toArray.size := by simp [hn, <- hl, rv.length]
 rw [assign_Tuple]
 refine wpAny_bind (wpAny_standAt ?_)
 unfold unpack
 rw [hsz, hst]
 refine wpAny_bind (wpAny_holding (PySem.W.kun_itemsOf (I.ok.hd hc) hi λ h' hx => ?_))
 have I1 : Inv X pins σ H { s with heap := h' } := I.kept (t' := s.toks) λ b o e => hx b o (jAf (jAc e)) e
 exact h pins _ σ H xs _ Q I1 (by simpa using rv) hw
theorem qQ3 {ts : List Expr} {k : Nat} {gs : List DG} (hc : X.calm = true) (h : qNi X E ts gs) (hn : (assignEach ts X.env).length = gs.length := by rfl) (hst : (assignEach ts X.env).findIdx? (·.1) = none := by rfl) : PDG X E (.Tuple ts k pos) (qSn gs) := by
 unfold qNi at *
 unfold PDG at *
 intro pins s σ H v u Q I rv h'
 obtain ⟨W, δ, d, rr, hS, hδ, hd, hg, hA⟩ := h'
 unfold qSn at hg
 split at hg
 ·rename_i i
  split at hg
  ·rename_i ds hi
   split at hg
   ·rename_i l
    obtain ⟨xs, e, q, r⟩ := hS.lst hd hi
    exact qTw (n := gs.length) hc h hn hst pins s σ H v u Q I rv ⟨_, xs, e, .inl (.inl q), by rw [<- r.length]; exact l, W, δ, ds, rr, hS, hδ, r, hg, hA⟩
   ·cases hg
  ·cases hg
 ·cases hg
end
end Np
end
section
namespace Np
open PySem PySem.Spec PyProof.Rows L2
section
variable (P : Program) (w : World) (K : PySem.W.Frag) (mg : Str -> Option Value) (base : Heap)
structure Fmx (k : Nat) (c m : Str) (F : List D -> Sto -> R D) : Prop where
 ex : ∃ (C : Addr) (ps : List Str) (f : Addr) (d : FuncData), mg c = some (.ref C) /\ Cls K C /\ qP2 K C m f /\ qCf P w K mg base (CX1 P w) k f d ps (spF ⟨K, mg⟩ F) /\ zS K d ps []
structure Fxc (c : Str) : Prop where
 ex : ∃ C : Addr, mg c = some (.ref C) /\ jCt K C bmV "ValueError.__new__" = true
structure Xm (c d : Str) : Prop where
 ex : ∃ C D : Addr, mg c = some (.ref C) /\ mg d = some (.ref D) /\ jC4 K (.ref C) (.ref D) = some true
structure Kb (b : Bool) (c d : Str) : Prop where
 ex : ∃ C D : Addr, mg c = some (.ref C) /\ mg d = some (.ref D) /\ qCi K C = true /\ jCv K (.ref C) (.ref D) = some b
abbrev Ky (c d : Str) : Prop := Kb K mg true c d
abbrev Kn (c d : Str) : Prop := Kb K mg false c d
end
structure Kc (mg : Str -> Option Value) (c d : Str) : Prop where
 ex : ∃ D : Addr, mg d = some (.ref D)
def Gxc (K : PySem.W.Frag) (c : Str) : Prop := ∃ C : Addr, jC2 K mainGlobals c = some (some (.ref C)) /\ jCt K C bmV "ValueError.__new__" = true
def GXm (K : PySem.W.Frag) (c d : Str) : Prop := ∃ C D : Addr, jC2 K mainGlobals c = some (some (.ref C)) /\ jC2 K mainGlobals d = some (some (.ref D)) /\ jC4 K (.ref C) (.ref D) = some true
def GKb (K : PySem.W.Frag) (b : Bool) (c d : Str) : Prop := ∃ C D : Addr, jC2 K mainGlobals c = some (some (.ref C)) /\ jC2 K mainGlobals d = some (some (.ref D)) /\ qCi K C = true /\ jCv K (.ref C) (.ref D) = some b
abbrev GKy (K : PySem.W.Frag) (c d : Str) : Prop := GKb K true c d
abbrev GKn (K : PySem.W.Frag) (c d : Str) : Prop := GKb K false c d
def GKc (K : PySem.W.Frag) (c d : Str) : Prop := ∃ D : Addr, jC2 K mainGlobals d = some (some (.ref D))
section
variable {P : Program} {w : World} {K : PySem.W.Frag} {mg : Str -> Option Value} {base h : Heap} {x c d m q : Str} {st : Stmt} {k : Nat} {F : List D -> Sto -> R D} {g : DSt} {f : Addr}
theorem Gxc.of {C : Addr} (a : jC2 K mainGlobals c = some (some (.ref C))) (b : jCt K C bmV "ValueError.__new__" = true) : Gxc K c := ⟨C, a, b⟩
theorem GXm.of {C D : Addr} (a : jC2 K mainGlobals c = some (some (.ref C))) (b : jC2 K mainGlobals d = some (some (.ref D))) (e : jC4 K (.ref C) (.ref D) = some true) : GXm K c d := ⟨C, D, a, b, e⟩
theorem GKb.of {b : Bool} {C D : Addr} (a : jC2 K mainGlobals c = some (some (.ref C))) (a' : jC2 K mainGlobals d = some (some (.ref D))) (z : qCi K C = true) (e : jCv K (.ref C) (.ref D) = some b) : GKb K b c d := ⟨C, D, a, a', z, e⟩
theorem GKc.of {D : Addr} (a : jC2 K mainGlobals d = some (some (.ref D))) : GKc K c d := ⟨D, a⟩
theorem Gxc.ff (G : Gxc K c) (hX : K.In h) (hG : h.Ns mainGlobals mg) : Fxc K mg c := by
 obtain ⟨C, a, b⟩ := G
 exact ⟨⟨C, jC3 hX hG a, b⟩⟩
theorem GXm.ff (G : GXm K c d) (hX : K.In h) (hG : h.Ns mainGlobals mg) : Xm K mg c d := by
 obtain ⟨C, D, a, b, e⟩ := G
 exact ⟨⟨C, D, jC3 hX hG a, jC3 hX hG b, e⟩⟩
theorem GKb.ff {b : Bool} (G : GKb K b c d) (hX : K.In h) (hG : h.Ns mainGlobals mg) : Kb K mg b c d := by
 obtain ⟨C, D, a, a', z, e⟩ := G
 exact ⟨⟨C, D, jC3 hX hG a, jC3 hX hG a', z, e⟩⟩
theorem GKc.ff (G : GKc K c d) (hX : K.In h) (hG : h.Ns mainGlobals mg) : Kc mg c d := by
 obtain ⟨D, a⟩ := G
 exact ⟨⟨D, jC3 hX hG a⟩⟩
def BoX (P : Program) (w : World) (K : PySem.W.Frag) (mg : Str -> Option Value) (base : Heap) (q : Str) (st : Stmt) (N : List Str) (k : Nat) (g : DSt) : Prop := ∀ (f : Addr) (cdv : Value) (A : Around) (outer : List Env) (s : Shared) (H : Hp) (E : XK), qBd k (A.deeper (envOfC q (zC st) s.heap.objs.size f cdv)) -> N.Nodup -> qDl (qFe (CX1 P w) P w K mg base N q (zC st) f cdv A outer s H E) E (zG st) g
theorem BoX.ok {N : List Str} {i : Nat} {fd : FuncData} (B : BoX P w K mg base q st N k g) (G : qJj K x q st f fd) (S : zM N (N.take i) (zC st)) (hi : (N.take i).length = i) (hF : F = fnX N.length i g) : qCf P w K mg base (CX1 P w) (k + 1) f fd (N.take i) (spF ⟨K, mg⟩ F) :=
 qZk N.length i g hF G S rfl hi λ cdv A outer s H E hr => B f cdv A outer s H E hr S.nd
theorem Gm.fmx {N : List Str} {i : Nat} (P : Program) (w : World) (base : Heap) (G : Gm K c m q st) (hc : Gc K c) (hX : K.In h) (hG : h.Ns mainGlobals mg) (B : BoX P w K mg base q st N k g) (hF : F = fnX N.length i g := by rfl) (S : zM N (N.take i) (zC st) := by exact ⟨rfl, rfl, rfl, by decide +kernel, rfl, by decide +kernel, by decide +kernel⟩) (hi : (N.take i).length = i := by rfl)
  (hb : ∀ (kV doc pm : Value) (an : Option Addr) (cdv ct : Value), qKj i λ us => bindArgs (jB2 m q (zI st) (zG st) (zC st) .none kV doc pm an cdv ct) ⟨us, []⟩ = pure ((N.take i).zip us) := by intros; (repeat intro _); rfl) : Fmx P w K mg base (k + 1) c m F := by
 obtain ⟨C, f, aC, a, fn, oc, od, kV, dc, pm, an, cd, ct, sl, l, c', kp⟩ := G
 obtain ⟨C', aC', pg, hd, po, sa⟩ := hc
 rw [aC] at aC'
 cases aC'
 have R := zY (st := st) l c' kp
 exact ⟨⟨C, _, f, _, jC3 hX hG aC, ⟨pg, hd, po, sa⟩, ⟨a, fn, kp⟩, B.ok R.g S hi hF, R.binds λ kV doc pm an cdv ct us hl => qCa (hb kV doc pm an cdv ct) us (hl.trans hi)⟩⟩
end
section
variable {X : Cx} {E : XK}
theorem qLs {x t : Str} {np cpos pos p' : Pos} {j : Nat} (hR : qIj X E) (hg : Gl X x) (B : Fxc X.K X.mg x) (hc : X.calm = true := by rfl) (hdb : (x == ("__debug__" : Str)) = false := by decide +kernel)
  (he : starEach [.Constant (.str t) j p'] X.env = (false, eval (.Constant (.str t) j p') X.env) :: starEach [] X.env := by rfl) (hpl : (backTo cpos (starEach [] X.env)).any (·.1) = false := by rfl) :
  PDS X E (.Raise (some (.Call (.Name x np) [.Constant (.str t) j p'] [] cpos)) none pos) (qAy x) := by
 obtain ⟨C, hm, hq⟩ := B.ex
 exact qOa hR hg hm hq hc hdb he hpl
def qTi (G : Gx) (Dn : Addr) : List V -> Hp -> VK -> Prop := λ vs H Q => ∃ ea C b, vs = [.ref ea, .ref Dn] /\ H ea = some (.ext (qC6 ea C)) /\ qCk G.K C /\ jCv G.K (.ref C) (.ref Dn) = some b /\ Q (.bl b) H
theorem qMy {Dn : Addr} : qBm X (.builtin "isinstance") (qTi (gx X) Dn) := by
 intro pins s σ H vs us Q I r h
 obtain ⟨ea, C, b, rfl, ho, Z, ek, q⟩ := h
 obtain ⟨u, w, rfl, rx, rw'⟩ := qAn.two r
 cases rx; cases rw'
 have hx : qC6 ea C s.heap := (show qA9 X.prog X.w H s.heap ea (.ext (qC6 ea C)) from I.hok ea _ ho).1
 exact PySem.W.kia_one (qI2 Z) I.kIn hx ek (λ z => nomatch z) λ tk => ⟨.bl b, H, I.tok tk, rfl, q⟩
theorem qQ9 {yes no : List Str} {e : Expr} {ge : DE} {p p2 pos : Pos} {T : Str} (hg : Gl X "isinstance") (hm : X.mg "isinstance" = none) (hgT : Gl X T) (hT : Kc X.mg T T) (hy : ∀ c ∈ yes, Ky X.K X.mg c T) (hn : ∀ c ∈ no, Kn X.K X.mg c T) (he : PDE X E e ge)
  (hv : bootBuiltins "isinstance" = some (.builtin "isinstance") := by decide +kernel) (hdT : (T == ("__debug__" : Str)) = false := by decide +kernel)
  (hst : starEach (e :: [.Name T p2]) X.env = (false, eval e X.env) :: starEach [.Name T p2] X.env := by rfl) (hst2 : starEach (.Name T p2 :: []) X.env = (false, eval (.Name T p2) X.env) :: starEach [] X.env := by rfl)
  (hpl : (backTo pos (starEach [.Name T p2] X.env)).any (·.1) = false := by rfl) :
  PDE X E (.Call (.Name "isinstance" p) [e, .Name T p2] [] pos) (op1 (qG5 yes no) ge) := by
 unfold PDE at *
 obtain ⟨Dn, hmT⟩ := hT.ex
 refine PE.imp (qCm (qMy (Dn := Dn)) hg hm hv (qAr he (qAr (qB4 (v := .ref Dn) hgT hmT rfl hdT) qEf hst2) hst) (by decide +kernel) (by decide +kernel) hst hpl) λ σ H Q ⟨W, δ, rr, hS, hδ, hg', hA⟩ => ?_
 refine Go.thn hS hδ hg' hA λ d H1 W1 s1 hδ1 hg1 hA1 v rv => ?_
 have key : ∀ {b : Bool} {c : Str}, Kb X.K X.mg b c T -> d = .exc c -> ok (D.bl b) W1.S = some rr -> qTi (gx X) Dn [v, .ref Dn] H1 Q := fun {b c} hK hd hb => by
  subst hd
  obtain rfl : Rs.ok (D.bl b) W1.S = rr := Option.some.inj hb
  obtain ⟨ea, C, rfl, hmc, ho⟩ := rv
  obtain ⟨C', D', hm', hmD, eg, ek⟩ := hK.ex
  have hmc : X.mg c = some (.ref C) := hmc
  rw [hm'] at hmc
  cases hmc
  rw [hmT] at hmD
  cases hmD
  exact ⟨ea, _, b, rfl, ho, .of eg, ek, hA1.now s1.ok _ rfl⟩
 cases d with
 | exc c =>
  have hg1 : (if yes.contains c = true then ok (.bl true) W1.S else if no.contains c = true then ok (.bl false) W1.S else none) = some rr := hg1
  by_cases hc : yes.contains c = true
  ·rw [if_pos hc] at hg1
   exact key (hy c (by simpa using hc)) rfl hg1
  ·rw [if_neg hc] at hg1
   by_cases hc' : no.contains c = true
   ·rw [if_pos hc'] at hg1
    exact key (hn c (by simpa using hc')) rfl hg1
   ·rw [if_neg hc'] at hg1
    cases hg1
 | _ => cases hg1
end
end Np
end
section
namespace Np
open PySem PySem.Spec PyProof.Rows L2
section
variable (P : Program) (w : World) (K : PySem.W.Frag) (mg : Str -> Option Value) (base : Heap)
structure Fkx (k : Nat) (x : Str) (F : List D -> Sto -> R D) : Prop where
 ex : ∃ (ps : List Str) (f : Addr) (d : FuncData), qCf P w K mg base (CX1 P w) k f d ps (spF ⟨K, mg⟩ F) /\ zS K d ps [] /\ jBg K (.ref f) = true /\ mg x = some (.ref f)
structure Fnx (k : Nat) (c : Str) (F : List D -> Sto -> R D) : Prop where
 ex : ∃ (C : Addr) (ps : List Str) (f : Addr) (d : FuncData), mg c = some (.ref C) /\ Mk K C f /\ qCf P w K mg base (CX1 P w) k f d ps (spF ⟨K, mg⟩ F) /\ zS K d ps []
structure Kv (c d : Str) : Prop where
 ex : ∃ C : Addr, mg c = some (.ref C) /\ jCv K (.ref C) (.type "ValueError") = some true
structure Kt (no ts : List Str) : Prop where
 ex : ∃ c1 c2 c3 c4 c5 c6 : Addr, ts.map mg = [some (.ref c1), some (.ref c2), some (.ref c3), some (.ref c4), some (.ref c5), some (.ref c6)] /\ ∀ c ∈ no, ∃ C, mg c = some (.ref C) /\ qCi K C = true /\ jCy K (.ref C) [.ref c1, .ref c2, .ref c3, .ref c4, .ref c5, .ref c6] = some false
end
def GKv (K : PySem.W.Frag) (c d : Str) : Prop := ∃ C : Addr, jC2 K mainGlobals c = some (some (.ref C)) /\ jCv K (.ref C) (.type "ValueError") = some true
def GKt (K : PySem.W.Frag) (no ts : List Str) : Prop := ∃ c1 c2 c3 c4 c5 c6 : Addr, ts.map (jC2 K mainGlobals) = [some (some (.ref c1)), some (some (.ref c2)), some (some (.ref c3)), some (some (.ref c4)), some (some (.ref c5)), some (some (.ref c6))] /\ ∀ c ∈ no, ∃ C, jC2 K mainGlobals c = some (some (.ref C)) /\ qCi K C = true /\ jCy K (.ref C) [.ref c1, .ref c2, .ref c3, .ref c4, .ref c5, .ref c6] = some false
section
variable {P : Program} {w : World} {K : PySem.W.Frag} {mg : Str -> Option Value} {base h : Heap} {x c d m q : Str} {st : Stmt} {k : Nat} {F : List D -> Sto -> R D} {g : DSt} {f : Addr}
theorem GKv.of {C : Addr} (a : jC2 K mainGlobals c = some (some (.ref C))) (e : jCv K (.ref C) (.type "ValueError") = some true) : GKv K c d := ⟨C, a, e⟩
theorem GKv.ff (G : GKv K c d) (hX : K.In h) (hG : h.Ns mainGlobals mg) : Kv K mg c d := by
 obtain ⟨C, a, e⟩ := G
 exact ⟨⟨C, jC3 hX hG a, e⟩⟩
theorem GKt.of {n1 n2 n3 t1 t2 t3 t4 t5 t6 : Str} {C1 C2 C3 c1 c2 c3 c4 c5 c6 : Addr} (a1 : jC2 K mainGlobals t1 = some (some (.ref c1))) (a2 : jC2 K mainGlobals t2 = some (some (.ref c2))) (a3 : jC2 K mainGlobals t3 = some (some (.ref c3))) (a4 : jC2 K mainGlobals t4 = some (some (.ref c4))) (a5 : jC2 K mainGlobals t5 = some (some (.ref c5))) (a6 : jC2 K mainGlobals t6 = some (some (.ref c6)))
  (b1 : jC2 K mainGlobals n1 = some (some (.ref C1))) (b2 : jC2 K mainGlobals n2 = some (some (.ref C2))) (b3 : jC2 K mainGlobals n3 = some (some (.ref C3)))
  (z : (qCi K C1 && qCi K C2 && qCi K C3) = true) (e1 : jCy K (.ref C1) [.ref c1, .ref c2, .ref c3, .ref c4, .ref c5, .ref c6] = some false) (e2 : jCy K (.ref C2) [.ref c1, .ref c2, .ref c3, .ref c4, .ref c5, .ref c6] = some false) (e3 : jCy K (.ref C3) [.ref c1, .ref c2, .ref c3, .ref c4, .ref c5, .ref c6] = some false) : GKt K [n1, n2, n3] [t1, t2, t3, t4, t5, t6] := by
 simp only [Bool.and_eq_true] at z
 refine ⟨c1, c2, c3, c4, c5, c6, by simp only [jBf, jCc, a1, a2, a3, a4, a5, a6], λ c hc => ?_⟩
 simp only [jAp, jCq, or_false] at hc
 rcases hc with rfl | rfl | rfl
 ·exact ⟨C1, b1, z.1.1, e1⟩
 ·exact ⟨C2, b2, z.1.2, e2⟩
 ·exact ⟨C3, b3, z.2, e3⟩
theorem GKt.ff {no : List Str} {t1 t2 t3 t4 t5 t6 : Str} (G : GKt K no [t1, t2, t3, t4, t5, t6]) (hX : K.In h) (hG : h.Ns mainGlobals mg) : Kt K mg no [t1, t2, t3, t4, t5, t6] := by
 obtain ⟨c1, c2, c3, c4, c5, c6, a, n⟩ := G
 simp only [jBf, jCc, List.cons.injEq, and_true] at a
 obtain ⟨a1, a2, a3, a4, a5, a6⟩ := a
 refine ⟨⟨c1, c2, c3, c4, c5, c6, by simp only [jBf, jCc, jC3 hX hG a1, jC3 hX hG a2, jC3 hX hG a3, jC3 hX hG a4, jC3 hX hG a5, jC3 hX hG a6], λ c hc => ?_⟩⟩
 obtain ⟨C, b, z, e⟩ := n c hc
 exact ⟨C, jC3 hX hG b, z, e⟩
theorem Ga.fkx {N : List Str} {i : Nat} (P : Program) (w : World) (base : Heap) (G : Ga K x st) (hX : K.In h) (hG : h.Ns mainGlobals mg) (B : BoX P w K mg base x st N k g) (hF : F = fnX N.length i g := by rfl) (S : zM N (N.take i) (zC st) := by exact ⟨rfl, rfl, rfl, by decide +kernel, rfl, by decide +kernel, by decide +kernel⟩) (hi : (N.take i).length = i := by rfl)
  (hb : ∀ (kV doc pm : Value) (an : Option Addr) (cdv ct : Value), qKj i λ us => bindArgs (jB2 x x (zI st) (zG st) (zC st) .none kV doc pm an cdv ct) ⟨us, []⟩ = pure ((N.take i).zip us) := by intros; (repeat intro _); rfl) : Fkx P w K mg base (k + 1) x F := by
 obtain ⟨f, a, oc, od, kV, dc, pm, an, cd, ct, sl, l, c, kp⟩ := G
 have R := zY (st := st) l c kp
 exact ⟨⟨_, f, _, B.ok R.g S hi hF, R.binds λ kV doc pm an cdv ct us hl => qCa (hb kV doc pm an cdv ct) us (hl.trans hi), kp, jC3 hX hG a⟩⟩
theorem Gm.fnx {N : List Str} {i : Nat} (P : Program) (w : World) (base : Heap) (G : Gm K c "__init__" q st) (hn : Gn K c) (hX : K.In h) (hG : h.Ns mainGlobals mg) (B : BoX P w K mg base q st N k g) (hF : F = fnX N.length i g := by rfl) (S : zM N (N.take i) (zC st) := by exact ⟨rfl, rfl, rfl, by decide +kernel, rfl, by decide +kernel, by decide +kernel⟩) (hi : (N.take i).length = i := by rfl)
  (hb : ∀ (kV doc pm : Value) (an : Option Addr) (cdv ct : Value), qKj i λ us => bindArgs (jB2 "__init__" q (zI st) (zG st) (zC st) .none kV doc pm an cdv ct) ⟨us, []⟩ = pure ((N.take i).zip us) := by intros; (repeat intro _); rfl) : Fnx P w K mg base (k + 1) c F := by
 obtain ⟨C, f, aC, a, fn, oc, od, kV, dc, pm, an, cd, ct, sl, l, c', kp⟩ := G
 obtain ⟨C', aC', mk, kC⟩ := hn
 rw [aC] at aC'
 cases aC'
 have R := zY (st := st) l c' kp
 exact ⟨⟨C, _, f, _, jC3 hX hG aC, ⟨mk, a, fn, kC⟩, B.ok R.g S hi hF, R.binds λ kV doc pm an cdv ct us hl => qCa (hb kV doc pm an cdv ct) us (hl.trans hi)⟩⟩
theorem Gd.fmx {N : List Str} {i : Nat} (P : Program) (w : World) (base : Heap) (G : Gd K c m q st) (hc : Gc K c) (hX : K.In h) (hG : h.Ns mainGlobals mg) (B : BoX P w K mg base q st N k g) (hF : F = fnX N.length i g := by rfl) (S : zM N (N.take i) (zC st) := by exact ⟨rfl, rfl, rfl, by decide +kernel, rfl, by decide +kernel, by decide +kernel⟩) (hi : (N.take i).length = i := by rfl)
  (hb : ∀ (T : Addr) (kV doc pm : Value) (an : Option Addr) (cdv ct : Value), qKj i λ us => ∃ k' : Option (Array Value) -> Sem (List (Str × Value)), bindArgs (jB2 m q (zI st) (zG st) (zC st) (.ref T) kV doc pm an cdv ct) ⟨us, []⟩ = seqItems? (.ref T) >>= k' /\ k' (some #[.none]) = pure ((N.take i).zip (us ++ [])) := by intros; (repeat intro _); exact ⟨_, rfl, rfl⟩) : Fmx P w K mg base (k + 1) c m F := by
 obtain ⟨C, f, T, dT, nT, sT, aC, a, fn, ⟨oc, od, kV, dc, pm, an, cd, ct, sl, l, c', kp⟩, lT⟩ := G
 obtain ⟨C', aC', pg, hd, po, sa⟩ := hc
 rw [aC] at aC'
 cases aC'
 have R := qMm (st := st) l c' lT rfl
 exact ⟨⟨C, _, f, _, jC3 hX hG aC, ⟨pg, hd, po, sa⟩, ⟨a, fn, kp⟩, B.ok R.g S hi hF, R.b0 (i := i) hi (hb T)⟩⟩
end
section
variable {X : Cx} {E : XK} {e o : Expr} {es : List Expr} {go ge : DE} {gs : DA} {pos apos p : Pos} {j k : Nat} {c m : Str} {f : List D -> Sto -> R D}
theorem qUk {pl : Sem Bool} (B : Fmx X.prog X.w X.K X.mg X.base j c m f) (hr : qBd k X.A) (hx : qAv (CX1 X.prog X.w) X E) (ho : PDE X E o go) (ha : PDA X E (e :: es) gs) (hj : j <= k := by decide)
  (hst : starEach (e :: es) X.env = (false, eval e X.env) :: starEach es X.env := by rfl) (hpl : (backTo pos (starEach es X.env)).any (·.1) = false := by rfl)
  (ht : eval (.Call (.Attribute o m apos) (e :: es) [] pos) X.env = (do
   let ov <- eval o X.env
   standAt apos.atName
   let (f, first) <- holding [ov] (getMethod ov m pl)
   callWith pos f first (backTo pos (starEach (e :: es) X.env)) (backToKw pos (keywordEach [] X.env))) := by rfl) : PDE X E (.Call (.Attribute o m apos) (e :: es) [] pos) (qAg c m f go gs) := by
 obtain ⟨C, ps, fa, fd, hm, hc, hM, O, hb⟩ := B.ex
 exact qLt hc hM hm (O.mono hj) hr hb hx ho ha hst hpl ht
theorem qRf {pl : Sem Bool} (B : Fmx X.prog X.w X.K X.mg X.base j c m f) (hr : qBd k X.A) (hx : qAv (CX1 X.prog X.w) X E) (ho : PDE X E o go) (hj : j <= k := by decide)
  (ht : eval (.Call (.Attribute o m apos) [] [] pos) X.env = (do
   let ov <- eval o X.env
   standAt apos.atName
   let (f, first) <- holding [ov] (getMethod ov m pl)
   callWith pos f first (backTo pos (starEach [] X.env)) (backToKw pos (keywordEach [] X.env))) := by rfl) : PDE X E (.Call (.Attribute o m apos) [] [] pos) (qAg c m f go aNil) := by
 obtain ⟨C, ps, fa, fd, hm, hc, hM, O, hb⟩ := B.ex
 exact qIx hc hM hm (O.mono hj) hr hb hx ho ht
theorem qUi (B : Fnx X.prog X.w X.K X.mg X.base j c f) (hr : qBd k X.A) (hg : Gl X c) (hx : qAv (CX1 X.prog X.w) X E) (ha : PDA X E (e :: es) gs) (hj : j + 1 <= k := by decide)
  (hdb : (c == ("__debug__" : Str)) = false := by decide +kernel) (he : starEach (e :: es) X.env = (false, eval e X.env) :: starEach es X.env := by rfl) (hpl : (backTo pos (starEach es X.env)).any (·.1) = false := by rfl) :
  PDE X E (.Call (.Name c p) (e :: es) [] pos) (mkE c f gs) := by
 obtain ⟨C, ps, fa, fd, hm, hM, O, hb⟩ := B.ex
 obtain ⟨i, rfl⟩ : ∃ i, k = i + 1 := ⟨k - 1, by omega⟩
 exact qLu hM hm (O.mono (jC1 hj)) hr hg hb hx ha hdb he hpl
theorem qRa {yes : List Str} {p2 : Pos} (hg : Gl X "isinstance") (hm : X.mg "isinstance" = none) (hgT : Gl X "ValueError") (hmT : X.mg "ValueError" = none) (hy : ∀ c ∈ yes, Kv X.K X.mg c "ValueError") (he : PDE X E e ge)
  (hst : starEach (e :: [.Name "ValueError" p2]) X.env = (false, eval e X.env) :: starEach [.Name "ValueError" p2] X.env := by rfl) (hpl : (backTo pos (starEach [.Name "ValueError" p2] X.env)).any (·.1) = false := by rfl) :
  PDE X E (.Call (.Name "isinstance" p) [e, .Name "ValueError" p2] [] pos) (op1 (qSp yes) ge) :=
 qRd (B := "ValueError") (T := "ValueError") (by decide +kernel) hg hm hgT hmT (λ c hc => (hy c hc).ex) he (hst := hst) (hpl := hpl)
theorem qRb {no : List Str} {t1 t2 t3 t4 t5 t6 : Str} {p1 p2 p3 p4 p5 p6 pt : Pos} {x1} (hg : Gl X "isinstance") (hm : X.mg "isinstance" = none) (h1 : Gl X t1) (h2 : Gl X t2) (h3 : Gl X t3) (h4 : Gl X t4) (h5 : Gl X t5) (h6 : Gl X t6) (hk : Kt X.K X.mg no [t1, t2, t3, t4, t5, t6]) (he : PDE X E e ge)
  (d1 : (t1 == ("__debug__" : Str)) = false := by decide +kernel) (d2 : (t2 == ("__debug__" : Str)) = false := by decide +kernel) (d3 : (t3 == ("__debug__" : Str)) = false := by decide +kernel) (d4 : (t4 == ("__debug__" : Str)) = false := by decide +kernel) (d5 : (t5 == ("__debug__" : Str)) = false := by decide +kernel) (d6 : (t6 == ("__debug__" : Str)) = false := by decide +kernel)
  (hst : starEach (e :: [.Tuple [.Name t1 p1, .Name t2 p2, .Name t3 p3, .Name t4 p4, .Name t5 p5, .Name t6 p6] x1 pt]) X.env = (false, eval e X.env) :: starEach [.Tuple [.Name t1 p1, .Name t2 p2, .Name t3 p3, .Name t4 p4, .Name t5 p5, .Name t6 p6] x1 pt] X.env := by rfl)
  (hpl : (backTo pos (starEach [.Tuple [.Name t1 p1, .Name t2 p2, .Name t3 p3, .Name t4 p4, .Name t5 p5, .Name t6 p6] x1 pt] X.env)).any (·.1) = false := by rfl) :
  PDE X E (.Call (.Name "isinstance" p) [e, .Tuple [.Name t1 p1, .Name t2 p2, .Name t3 p3, .Name t4 p4, .Name t5 p5, .Name t6 p6] x1 pt] [] pos) (op1 (qMe no) ge) := by
 obtain ⟨c1, c2, c3, c4, c5, c6, a, n⟩ := hk.ex
 simp only [jBf, jCc, List.cons.injEq, and_true] at a
 obtain ⟨a1, a2, a3, a4, a5, a6⟩ := a
 exact qRc (cs := [c1, c2, c3, c4, c5, c6]) hg hm (qAr (qB4 (v := .ref c1) h1 a1 rfl d1) (qAr (qB4 (v := .ref c2) h2 a2 rfl d2) (qAr (qB4 (v := .ref c3) h3 a3 rfl d3) (qAr (qB4 (v := .ref c4) h4 a4 rfl d4) (qAr (qB4 (v := .ref c5) h5 a5 rfl d5) (qAr (qB4 (v := .ref c6) h6 a6 rfl d6) qEf)))))) (λ _ _ _ q => q) (Nat.le_of_ble_eq_true rfl) n he (hst := hst) (hpl := hpl)
end
section
variable {X : Cx} {E : XK}
theorem qMf {ds : List D} {vs : List V} (h : ds.length = vs.length) : (!ds.isEmpty) = !vs.isEmpty := by
 cases ds <;> cases vs <;> first | rfl | cases h
theorem qKy {G : Gx} {H : Hp} {W : Wd} {d : D} {v : V} {b : Bool} (hS : qB0 G H W) (rv : Rep G H W d v) (h : qWi d W.S = some b) : qX9 G.K v H b := by
 cases d with
 | non =>
  obtain rfl : v = .non := rv
  exact (Option.some.inj h).symm
 | bl k =>
  obtain rfl : v = .bl k := rv
  exact (Option.some.inj h).symm
 | int i =>
  obtain rfl : v = .int i := rv
  exact (Option.some.inj h).symm
 | str x =>
  obtain rfl : v = .str x := rv
  have h : (if x.length <= 1000000 then some ((x.length : Int) != 0) else none) = some b := h
  split at h
  ·rename_i hl
   exact ⟨sz hl, (Option.some.inj h).symm⟩
  ·cases h
 | tup ds =>
  obtain ⟨a, xs, rfl, hs, rl⟩ := rv
  have h : (if ds.length <= 1000000 then some (!ds.isEmpty) else none) = some b := h
  split at h
  ·refine .inr (.inl ⟨xs, hs, ?_⟩)
   rw [<- qMf rl.length]
   exact (Option.some.inj h).symm
  ·cases h
 | ref a =>
  have h : (match zH W.S a with | some xs => some (!xs.isEmpty) | none => none) = some b := h
  split at h
  ·rename_i xs hx
   obtain ⟨us, ea, qa, ra⟩ := hS.lst rv hx
   subst ea
   refine .inl ⟨us, .inl (.inl qa), ?_⟩
   rw [<- qMf ra.length]
   exact (Option.some.inj h).symm
  ·cases h
 | _ => cases h
theorem qTy {a b : Expr} {rest : List Expr} {pos : Pos} {ta tb : TE} (ha : PE X a ta) (hb : PE X (.BoolOp .Or (b :: rest) pos) tb) : PE X (.BoolOp .Or (a :: b :: rest) pos) (λ σ H Q => ta σ H λ x H1 => ∃ c, qX9 X.K x H1 c /\ if c = true then Q x H1 else tb σ H1 Q) := by
 intro pins s σ H Q I h
 refine BoolOp_or (thn (ha pins s σ H _ I h) λ v s1 ⟨x, H1, I1, r1, q1⟩ => ?_)
 obtain ⟨c, tr, q1⟩ := q1
 refine wpAny_mono (qS1 pins s1 σ H1 x v (λ c' H' => if c' = true then Q x H' else tb σ H' Q) I1 r1 ⟨c, tr, q1⟩) (λ c' s2 ⟨H2, I2, q2⟩ => ?_) λ _ _ z => z
 cases c' with
 | false => exact hb pins s2 σ H2 Q I2 q2
 | true => exact ⟨x, H2, I2, r1, q2⟩
theorem qUb {a b : Expr} {pos : Pos} {ga gb : DE} (ha : PDE X E a ga) (hb : PDE X E b gb) : PDE X E (.BoolOp .Or [a, b] pos) (orA ga gb) := by
 unfold PDE at *
 refine PE.imp (qTy ha (qLm hb)) λ σ H Q ⟨W, δ, rr, hS, hδ, hg, hA⟩ => ?_
 refine Go.thn hS hδ hg hA λ d H1 W1 s1 hδ1 hg1 hA1 v rv => ?_
 unfold qUr at hg1
 split at hg1
 ·rename_i ht
  obtain rfl : Rs.ok d W1.S = rr := Option.some.inj hg1
  exact ⟨true, qKy s1.ok rv ht, hA1.now s1.ok _ rv⟩
 ·rename_i ht
  exact ⟨false, qKy s1.ok rv ht, ⟨W1, δ, rr, s1.ok, hδ1, hg1, hA1⟩⟩
 ·cases hg1
theorem qQ4 {k kj : Nat} {x n cn : Str} {p pos pos' cp hpos tpos : Pos} {f : List D -> Sto -> R D} {e : Expr} {es : List Expr} {ga : DA} {hits : List Str} {b₀ : Stmt} {suite : List Stmt} {gs : DSt} (j : Nat)
  (B : Fkx X.prog X.w X.K X.mg X.base kj x f) (hr : qBd k X.A) (hg : Gl X x) (hN : X.N.Nodup) (hcg : Gl X cn) (hh : ∀ c ∈ hits, Xm X.K X.mg c cn) (ha : PDA X E0 (e :: es) ga) (hs : ∀ ea, qDl (qG0 X ea) E0 (b₀ :: suite) gs) (hkj : kj <= k := by decide)
  (hj : X.N[j]? = some n := by rfl) (hnl : X.env.scope.names.lookup n = some .local := by rfl) (hx : X.xe = λ _ _ => False := by rfl) (hstk : X.stack = X.env :: X.outer := by rfl) (hfr : X.env.frame = some X.env.locals := by rfl) (hex : X.ex = [] := by rfl)
  (hsw : swapsWith (.Call (.Name x p) (e :: es) [] pos) none pos'.line X.env = pure false := by rfl) (hdb : (x == ("__debug__" : Str)) = false := by decide +kernel) (hdc : (cn == ("__debug__" : Str)) = false := by decide +kernel) (he : starEach (e :: es) X.env = (false, eval e X.env) :: starEach es X.env := by rfl)
  (hpl : (backTo pos (starEach es X.env)).any (·.1) = false := by rfl) :
  PDS X E0 (.Try [.Expr (.Call (.Name x p) (e :: es) [] pos) pos'] [.ExceptHandler (some (.Name cn cp)) (some n) (b₀ :: suite) hpos] [] [] tpos) (qWh f ga j hits gs) := by
 have ha := ha.o
 unfold PDS
 intro pins s σ H D I ⟨W, δ, rr, hS, hδ, hg', hA⟩
 obtain ⟨ps, fa, fd, F, hb, hk, hm⟩ := B.ex
 have F := F.mono hkj
 have noE : ∀ e s', ¬ X.xe e s' := λ e s' z => by rw [hx] at z; exact z
 refine wpAny_Try_except (wpAny_execs_cons (wpAny_Expr_any ?_ I.quiet hsw))
 refine wpAny_Call_Name_kw (qDf I hg hm ?_ hdb)
 have rd : tFA (gx X) E0 ga σ H λ vs H1 => ∃ W1 ds, qB0 (gx X) H1 W1 /\ qCr (gx X) H1 W1 δ σ /\ qAl (gx X) H1 W1 ds vs /\ qS0 j hits gs δ (f ds W1.S) = some rr /\ qBn (gx X) E0 H1 W1 rr (SV (gx X) D) :=
  Go.thn hS hδ hg' hA λ ds H1 W1 s1 hδ1 hg1 hA1 vs rvs => ⟨W1, ds, s1.ok, hδ1, rvs, hg1, hA1⟩
 refine jBm (h₀ := X.base) I.ok.mod.kin hk (wpAny_mono (ha pos pins s σ H _ I rd) (λ us s1 ⟨vs, H1, I1, r1, q1⟩ => ⟨I1.kIn, ?_⟩) λ e s' z => (noE e s' z).elim) he hpl
 obtain ⟨W1, ds, hS1, hδ1, rl1, hg1, hA1⟩ := q1
 cases hf : f ds W1.S with
 | none => rw [hf] at hg1; cases hg1
 | some fr =>
  rw [hf] at hg1
  cases fr with
  | ok d S2 =>
   obtain rfl : Rs.ok (Fl.nx δ) S2 = rr := Option.some.inj hg1
   have sp : spF (gx X) f (vs ++ []) H1 (λ v H' => ∃ W2, W2.S = S2 /\ Nxt (gx X) H1 W1 H' W2 /\ Rep (gx X) H' W2 d v) E0 := ⟨W1, ds, _, hS1, by rw [jBl]; exact rl1, hf, λ H' W' e nx v rv => ⟨W', e, nx, rv⟩⟩
   have hl : (us ++ []).length = ps.length := by rw [jBl, <- r1.length]; have := F.len _ _ _ _ sp; rw [jBl] at this; exact this
   refine wpAny_call (codeAny_mono (F.run X.A X.stack s1 H1 ⟨us, []⟩ (us ++ []) (vs ++ []) _ E0 hr I1.env0 (hb s1 us I1.kIn hl) (by rw [jBl, jBl]; exact r1) sp) λ r s' hq => ?_)
   cases r with
   | error e =>
    obtain ⟨_, _, _, _, _, _, _, _, _, _, z⟩ := hq
    exact z.elim
   | ok fl =>
    cases fl with
    | next => exact False.elim hq
    | brk => exact False.elim hq
    | cont => exact False.elim hq
    | ret u =>
     obtain ⟨v, H2, I2, r2, W2, eS, nx, rv⟩ := I1.after hq
     refine wpAny_execs_nil (wpAny_execs_nil ?_)
     exact ⟨_, H2, I2, hA1 H2 W2 eS nx _ (hδ1.mv (nx.mv hS1))⟩
  | er c S2 =>
   have hg1 : (if hits.contains c = true then bnd (gs (δ.set j (some (.exc c))) S2) (qKx j) else none) = some rr := hg1
   by_cases hc : hits.contains c = true
   ·rw [if_pos hc] at hg1
    obtain ⟨C, Cn, hmc, hcm, hxm⟩ := (hh c (by simpa using hc)).ex
    have sp : spF (gx X) f (vs ++ []) H1 (λ _ _ => False) (λ v _ H' => v = .ref C /\ ∃ W2, W2.S = S2 /\ Nxt (gx X) H1 W1 H' W2) := ⟨W1, ds, _, hS1, by rw [jBl]; exact rl1, hf, C, hmc, λ H' W' e nx => ⟨rfl, W', e, nx⟩⟩
    have hl : (us ++ []).length = ps.length := by rw [jBl, <- r1.length]; have := F.len _ _ _ _ sp; rw [jBl] at this; exact this
    refine wpAny_call (codeAny_mono (F.run X.A X.stack s1 H1 ⟨us, []⟩ (us ++ []) (vs ++ []) _ _ hr I1.env0 (hb s1 us I1.kIn hl) (by rw [jBl, jBl]; exact r1) sp) λ r s' hq => ?_)
    cases r with
    | ok fl =>
     cases fl with
     | next => exact False.elim hq
     | brk => exact False.elim hq
     | cont => exact False.elim hq
     | ret u =>
      obtain ⟨_, _, _, _, _, _, _, z⟩ := hq
      exact z.elim
    | error ev =>
     obtain ⟨ea, C', H', B, a0, rfl, os, bare, FL, fl, eC, W2, eS, nx⟩ := hq
     cases eC
     rw [hstk] at FL fl
     have frm : X.A.frames = some (X.env :: X.outer) := by rw [I.ok.frames, hstk]
     refine wpAny_looks_onW frm hfr fl λ h4 held k4 => wpAny_landsW held λ h5 fl5 k5 => ?_
     have F5 := (FL.step k4 held.1).step k5 fl5.1
     have I5 : Inv X pins σ H' { s' with heap := h5 } := I1.call' (s' := { s' with heap := h5 }) os (ch := []) (by rw [hstk]; exact F5.un) F5.hok bare λ b z => absurd z (by simp)
     obtain ⟨oe, ws, hoe, hoec, hoed, _⟩ := fl5.first
     refine wpAny_handleBy_cons (codeAny_handlers_test (qDf (X := qG0 X ea) (Inv.mark I5 ea) hcg hcm ?_ hdc)) (by intro q; cases q)
     have LT : PySem.W.Looks (model X.prog X.w) h5 (typeOf (.ref ea)) (.ref C) := by
      have := (PySem.W.Looks.ld (M := model X.prog X.w) (part := none) hoe).andThen (f := λ o => (pure o.cls : Sem Value)) .now
      rw [hoec] at this
      exact this
     refine (PySem.W.exm_one (M := model X.prog X.w) I5.kIn LT hxm) _ _ _ _ (λ _ _ q => q) ?_
     show codeAny (model X.prog X.w) (X.A.mark (some (.ref ea))) (.handlers (.ref ea) [.ExceptHandler none (some n) (b₀ :: suite) hpos] X.env) _ _
     refine codeAny_handlers_suite_as (lands_againW fl5 λ h6 fl6 k6 => ?_)
     have F6 := F5.step k6 fl6.1
     have I6 : Inv X pins σ H' { s' with heap := h6 } := I1.call' (s' := { s' with heap := h6 }) os (ch := []) (by rw [hstk]; exact F6.un) F6.hok bare λ b z => absurd z (by simp)
     obtain ⟨oe, ws, hoe, hoec, hoed, _⟩ := fl6.first
     have new0 : ∀ b o, X.s₀.heap.get? b = some o -> b ≠ ea := λ b o q z => by
      obtain ⟨o', q'⟩ := I1.base.there b o q (by rw [hex]; simp)
      rw [z, F6.newe] at q'
      cases q'
     have newp : ∀ p ∈ X.pn ++ pins, p.1 ≠ ea := λ p hp z => by
      have := (I1.pin p hp).1
      rw [z, F6.newe] at this
      cases this
     have I7 : Inv X pins σ (upd H' ea (.ext (qC6 ea C))) { s' with heap := h6 } := Inv.trackE I6 F6.free new0 hoe (λ v z => by rw [hoed] at z; cases z) (λ es n z => by rw [hoed] at z; cases z) newp ⟨oe, hoe, hoec⟩ λ h1 h2 ⟨o, a1, a2⟩ k => ⟨o, k o a1, a2⟩
     refine qC0 (X := qG0 X ea) (v := .ref ea) (Inv.mark I7 ea) hN hj (.inl hnl) rfl (λ s8 I8 => ?_) (.inr hnl)
     have nx2 : Nxt (gx X) H1 W1 (upd H' ea (.ext (qC6 ea C))) W2 := nx.trans (Nxt.heap nx.ok F6.free _)
     have rx : Rep (gx X) (upd H' ea (.ext (qC6 ea C))) W2 (.exc c) (.ref ea) := ⟨ea, C, rfl, hmc, zT⟩
     have hsu := hs ea
     unfold qDl at hsu
     subst eS
     have rd2 : tFS (gx X) E0 gs { nx := λ σ3 H3 => D.nx (σ3.set j none) H3, rt := λ _ _ => False, bk := λ _ _ => False, ct := λ _ _ => False } (σ.set j (some (.ref ea))) (upd H' ea (.ext (qC6 ea C))) := by
      refine Go.thn nx2.ok ((hδ1.mv (nx2.mv hS1)).set j rx) hg1 (hA1.nxt nx2) λ a H3 W3 s3 hδ3 hg3 hA3 => ?_
      cases a with
      | nx δ3 =>
       obtain rfl : Rs.ok (Fl.nx (δ3.set j none)) W3.S = rr := Option.some.inj hg3
       exact λ σ3 r3 => (hA3.now s3.ok) _ (qCr.unset j r3)
      | rt d => cases hg3
      | bk δ => cases hg3
      | ct δ => cases hg3
     refine wpAny_mono (hsu pins s8 _ _ _ I8 rd2) (λ fl s9 q9 => ?_) λ e s' z => z.elim
     cases fl with
     | next =>
      obtain ⟨σ3, H3, I9, q9⟩ := q9
      exact qL6 (Inv.unmark I9 I.ok) hN hj hnl λ s10 I10 => ⟨_, H3, I10, q9⟩
     | ret v => obtain ⟨_, _, _, _, _, z⟩ := q9; exact z.elim
     | brk => obtain ⟨_, _, _, z⟩ := q9; exact z.elim
     | cont => obtain ⟨_, _, _, z⟩ := q9; exact z.elim
   ·rw [if_neg hc] at hg1
    cases hg1
end
end Np
end
section
namespace Np
open PySem
@[irreducible] def W {α : Type} (m : R α) (Q : α -> Sto -> Prop) : Prop := match m with
 | some (.ok a S) => Q a S
 | some (.er _ _) => False
 | none => False
theorem W_ok {α : Type} (a : α) (S : Sto) (Q : α -> Sto -> Prop) : W (some (.ok a S)) Q = Q a S := by with_unfolding_all exact rfl
theorem W.out {α : Type} {m : R α} {Q : α -> Sto -> Prop} (h : W m Q) : ∃ a S, m = some (.ok a S) /\ Q a S := by
 unfold W at h
 cases m with
 | none => exact h.elim
 | some r =>
  cases r with
  | ok a S => exact ⟨a, S, rfl, h⟩
  | er c S => exact h.elim
theorem W_bnd {α β : Type} (m : R α) (k : α -> Sto -> R β) (Q : β -> Sto -> Prop) : W (bnd m k) Q = W m (λ a S => W (k a S) Q) := by
 unfold W
 cases m with
 | none => rfl
 | some r => cases r <;> rfl
theorem W.mono {α : Type} {m : R α} {Q Q' : α -> Sto -> Prop} (h : W m Q) (hi : ∀ a S, Q a S -> Q' a S) : W m Q' := by
 unfold W at h ⊢
 cases m with
 | none => exact h
 | some r =>
  cases r with
  | ok a S => exact hi a S h
  | er c S => exact h
theorem W.intro {α : Type} {m : R α} {Q : α -> Sto -> Prop} {a : α} {S : Sto} (e : m = some (.ok a S)) (q : Q a S) : W m Q := by
 subst e
 rw [W_ok]
 exact q
theorem ifEK_t (a b : DE) (δ : DS) (S : Sto) : qVl a b δ true S = a δ S := rfl
theorem ifEK_f (a b : DE) (δ : DS) (S : Sto) : qVl a b δ false S = b δ S := rfl
theorem andTK_t (b : DT) (δ : DS) (S : Sto) : qPb b δ true S = b δ S := rfl
theorem andTK_f (b : DT) (δ : DS) (S : Sto) : qPb b δ false S = ok false S := rfl
theorem orTK_t (b : DT) (δ : DS) (S : Sto) : qOf b δ true S = ok true S := rfl
theorem orTK_f (b : DT) (δ : DS) (S : Sto) : qOf b δ false S = b δ S := rfl
theorem andVB_t (b : DE) (δ : DS) (S : Sto) : qPa b δ true S = b δ S := rfl
theorem andVB_f (b : DE) (δ : DS) (S : Sto) : qPa b δ false S = ok (.bl false) S := rfl
theorem orVB_t (b : DE) (δ : DS) (S : Sto) : qWj b δ true S = ok (.bl true) S := rfl
theorem orVB_f (b : DE) (δ : DS) (S : Sto) : qWj b δ false S = b δ S := rfl
theorem chnB_t (g : D -> D -> Sto -> R D) (b : DE) (δ : DS) (y : D) (S : Sto) : qSr g b δ y true S = bnd (b δ S) (g y) := rfl
theorem chnB_f (g : D -> D -> Sto -> R D) (b : DE) (δ : DS) (y : D) (S : Sto) : qSr g b δ y false S = ok (.bl false) S := rfl
def outQ (Q : D -> Sto -> Prop) : Fl -> Sto -> Prop
 | .nx _, S => Q .non S
 | .rt d, S => Q d S
 | .bk _, _ => False
 | .ct _, _ => False
theorem W_outF (m : R Fl) (Q : D -> Sto -> Prop) : W (qRm m) Q = W m (outQ Q) := by
 unfold W
 cases m with
 | none => rfl
 | some r =>
  cases r with
  | er c S => rfl
  | ok f S => cases f <;> rfl
theorem W_ifK (a b : DSt) (δ : DS) (c : Bool) (S : Sto) (Q : Fl -> Sto -> Prop) : W (ifK a b δ c S) Q = if c = true then W (a δ S) Q else W (b δ S) Q := by cases c <;> rfl
theorem W_ifEK (a b : DE) (δ : DS) (c : Bool) (S : Sto) (Q : D -> Sto -> Prop) : W (qVl a b δ c S) Q = if c = true then W (a δ S) Q else W (b δ S) Q := by cases c <;> rfl
theorem W_andTK (b : DT) (δ : DS) (c : Bool) (S : Sto) (Q : Bool -> Sto -> Prop) : W (qPb b δ c S) Q = if c = true then W (b δ S) Q else Q false S := by cases c <;> first | rfl | exact W_ok ..
theorem W_orTK (b : DT) (δ : DS) (c : Bool) (S : Sto) (Q : Bool -> Sto -> Prop) : W (qOf b δ c S) Q = if c = true then Q true S else W (b δ S) Q := by cases c <;> first | rfl | exact W_ok ..
theorem W_andVB (b : DE) (δ : DS) (c : Bool) (S : Sto) (Q : D -> Sto -> Prop) : W (qPa b δ c S) Q = if c = true then W (b δ S) Q else Q (.bl false) S := by cases c <;> first | rfl | exact W_ok ..
theorem W_orVB (b : DE) (δ : DS) (c : Bool) (S : Sto) (Q : D -> Sto -> Prop) : W (qWj b δ c S) Q = if c = true then Q (.bl true) S else W (b δ S) Q := by cases c <;> first | rfl | exact W_ok ..
theorem W_chnB (g : D -> D -> Sto -> R D) (b : DE) (δ : DS) (y : D) (c : Bool) (S : Sto) (Q : D -> Sto -> Prop) : W (qSr g b δ y c S) Q = if c = true then W (bnd (b δ S) (g y)) Q else Q (.bl false) S := by cases c <;> first | rfl | exact W_ok ..
def SLe (S S' : Sto) : Prop := ∃ X, S' = S ++ X
theorem SLe.rfl {S : Sto} : SLe S S := ⟨[], by simp⟩
theorem SLe.trans {S S' S'' : Sto} (h : SLe S S') (k : SLe S' S'') : SLe S S'' := by
 obtain ⟨X, rfl⟩ := h
 obtain ⟨Y, rfl⟩ := k
 exact ⟨X ++ Y, by simp⟩
theorem SLe.push {S S' : Sto} (o : O) (h : SLe S S') : SLe S (S' ++ [o]) := h.trans ⟨[o], by rfl⟩
theorem SLe.app {S : Sto} (X : Sto) : SLe S (S ++ X) := ⟨X, by rfl⟩
theorem SLe.len {S S' : Sto} (h : SLe S S') : S.length <= S'.length := by
 obtain ⟨X, rfl⟩ := h
 simp
theorem SLe.get {S S' : Sto} (h : SLe S S') {a : Nat} (ha : a < S.length) : S'[a]? = S[a]? := by
 obtain ⟨X, rfl⟩ := h
 exact jBx ha
theorem SLe.set {S S' : Sto} (h : SLe S S') {a : Nat} (ha : S.length <= a) (o : O) : SLe S (S'.set a o) := by
 obtain ⟨X, rfl⟩ := h
 exact ⟨X.set (a - S.length) o, by rw [jC5 _ _ ha]⟩
theorem qAp {S : Sto} {a : Nat} {xs : List D} (h : zH S a = some xs) : a < S.length := by
 unfold zH at h
 split at h
 ·rename_i e
  exact (jAs.mp e).1
 ·cases h
theorem qD1 {S S' : Sto} {a : Nat} (h : S'[a]? = S[a]?) : zH S' a = zH S a := by unfold zH; rw [h]
theorem SLe.lst {S S' : Sto} (h : SLe S S') {a : Nat} {xs : List D} (e : zH S a = some xs) : zH S' a = some xs := by
 rw [qD1 (h.get (qAp e))]
 exact e
@[simp] theorem qAb (S : Sto) (xs : List D) : zH (S ++ [.lst xs]) S.length = some xs := by simp [zH]
theorem qBy {S : Sto} {a : Nat} {xs ys : List D} (h : zH S a = some xs) : zH (S.set a (.lst ys)) a = some ys := by
 unfold zH
 rw [jAt (qAp h)]
theorem qDp {S : Sto} {a b : Nat} {o : O} (h : a ≠ b) : zH (S.set a o) b = zH S b := qD1 (jAu h)
def qH5 (Q : Fl -> Sto -> Prop) (J : DS -> Sto -> Prop) : Fl -> Sto -> Prop
 | .nx δ, S => J δ S
 | .ct δ, S => J δ S
 | .bk δ, S => Q (.nx δ) S
 | .rt d, S => Q (.rt d) S
theorem qSe {src : Src} {g : DG} {b : DSt} {Q : Fl -> Sto -> Prop} (xs : List D) (I : Nat -> DS -> Sto -> Prop)
  (hs : ∀ i δ S, I i δ S -> src.get S i = some xs[i]?)
  (step : ∀ i x δ S, xs[i]? = some x -> I i δ S -> W (g x δ S) λ δ' S' => W (b δ' S') (qH5 Q (I (i + 1))))
  (fin : ∀ δ S, I xs.length δ S -> Q (.nx δ) S) : ∀ n i δ S, i <= xs.length -> xs.length <= i + n -> I i δ S -> W (qKi src g b n i δ S) Q
 | 0, i, δ, S, hi, hn, h => by
  have e : i = xs.length := by omega
  have hg := hs i δ S h
  rw [jC6 (by omega)] at hg
  unfold qKi
  rw [hg, W_ok]
  subst e
  exact fin δ S h
 | n + 1, i, δ, S, hi, hn, h => by
  have hg := hs i δ S h
  unfold qKi
  rw [hg]
  cases q : xs[i]? with
  | none =>
   have e : i = xs.length := by have := jCf.mp q; omega
   subst e
   show W (some (.ok (Fl.nx δ) S)) Q
   rw [W_ok]
   exact fin δ S h
  | some x =>
   have hlt : i < xs.length := (jAs.mp q).1
   show W (bnd (g x δ S) (qKv b (qKi src g b n (i + 1)))) Q
   rw [W_bnd]
   refine (step i x δ S q h).mono λ δ' S' h' => ?_
   unfold qKv
   rw [W_bnd]
   refine h'.mono λ f S'' h'' => ?_
   cases f with
   | nx δ2 => exact qSe xs I hs step fin n (i + 1) δ2 S'' hlt (by omega) h''
   | ct δ2 => exact qSe xs I hs step fin n (i + 1) δ2 S'' hlt (by omega) h''
   | bk δ2 => exact W.intro rfl h''
   | rt d => exact W.intro rfl h''
theorem qJi {src : Src} {g : DG} {b : DSt} {Q : Fl -> Sto -> Prop} {δ : DS} {S : Sto} (xs : List D) (I : Nat -> DS -> Sto -> Prop) (hl : xs.length <= src.len S) (h0 : I 0 δ S)
  (hs : ∀ i δ S, I i δ S -> src.get S i = some xs[i]?)
  (step : ∀ i x δ S, xs[i]? = some x -> I i δ S -> W (g x δ S) λ δ' S' => W (b δ' S') (qH5 Q (I (i + 1))))
  (fin : ∀ δ S, I xs.length δ S -> Q (.nx δ) S) : W (qYo g b δ src S) Q :=
 qSe xs I hs step fin _ 0 δ S (jBk _) (by omega) h0
theorem qIi {t : DT} {b : DSt} {Q : Fl -> Sto -> Prop} (I : DS -> Sto -> Prop) (μ : DS -> Sto -> Nat)
  (step : ∀ δ S, I δ S -> W (t δ S) λ c S' => if c = true then W (b δ S') (qH5 Q λ δ2 S2 => I δ2 S2 /\ μ δ2 S2 < μ δ S) else Q (.nx δ) S') : ∀ n δ S, μ δ S < n -> I δ S -> W (qA2 t b n δ S) Q
 | 0, _, _, h, _ => by omega
 | n + 1, δ, S, h, hI => by
  unfold qA2
  rw [W_bnd]
  refine (step δ S hI).mono λ c S' h' => ?_
  cases c with
  | false => exact W.intro rfl (by simpa using h')
  | true =>
   rw [if_pos rfl] at h'
   show W (bnd (b δ S') (qOs (qA2 t b n))) Q
   rw [W_bnd]
   refine h'.mono λ f S2 h2 => ?_
   cases f with
   | nx δ2 => exact qIi I μ step n δ2 S2 (jAd h2.2 (by omega)) h2.1
   | ct δ2 => exact qIi I μ step n δ2 S2 (jAd h2.2 (by omega)) h2.1
   | bk δ2 => exact W.intro rfl h2
   | rt d => exact W.intro rfl h2
theorem qJh {t : DT} {b : DSt} {Q : Fl -> Sto -> Prop} {δ : DS} {S : Sto} (I : DS -> Sto -> Prop) (μ : DS -> Sto -> Nat) (h0 : I δ S)
  (step : ∀ δ S, I δ S -> W (t δ S) λ c S' => if c = true then W (b δ S') (qH5 Q λ δ2 S2 => I δ2 S2 /\ μ δ2 S2 < μ δ S) else Q (.nx δ) S') : W (qCy t b δ S) Q := by
 obtain ⟨f, S', e, q⟩ := (qIi I μ step (μ δ S + 1) δ S (jBj _) h0).out
 exact W.intro (qKo e) q
def Tg (g : DG) (k : Nat) (vals : D -> List (Option D)) (base : DS) (P : D -> Prop) : Prop := ∀ x os S, os.length = k -> P x -> g x (base ++ os) S = ok (base ++ vals x) S /\ (vals x).length = k
theorem qNc {src : Src} {g : DG} {e : DE} {base : DS} {k : Nat} {vals : D -> List (Option D)} {Q : List D -> Sto -> Prop} (xs : List D) (I : Nat -> List D -> Sto -> Prop) (P : D -> Prop) (hP : ∀ x ∈ xs, P x) (hg : Tg g k vals base P)
  (hs : ∀ i acc S, I i acc S -> src.get S i = some xs[i]?)
  (step : ∀ i x acc S, xs[i]? = some x -> acc.length = i -> I i acc S -> W (e (base ++ vals x) S) λ d S' => I (i + 1) (acc ++ [d]) S')
  (fin : ∀ acc S, I xs.length acc S -> acc.length = xs.length -> Q acc S) : ∀ n i acc os S, os.length = k -> acc.length = i -> i <= xs.length -> xs.length <= i + n -> I i acc S -> W (qDa src g e n i (base ++ os) S) λ ds S' => Q (acc ++ ds) S'
 | 0, i, acc, os, S, ho, ha, hi, hn, h => by
  have e : i = xs.length := by omega
  have hg := hs i acc S h
  rw [jC6 (by omega)] at hg
  unfold qDa
  rw [hg, W_ok, jBl]
  subst e
  exact fin acc S h ha
 | n + 1, i, acc, os, S, ho, ha, hi, hn, h => by
  have hgt := hs i acc S h
  unfold qDa
  rw [hgt]
  cases q : xs[i]? with
  | none =>
   have e : i = xs.length := by have := jCf.mp q; omega
   subst e
   show W (some (.ok [] S)) _
   rw [W_ok, jBl]
   exact fin acc S h ha
  | some x =>
   have hlt : i < xs.length := (jAs.mp q).1
   show W (bnd (g x (base ++ os) S) (qO4 e (qDa src g e n (i + 1)))) _
   obtain ⟨e1, e2⟩ := hg x os S ho (hP x (jBz q))
   rw [e1, bnd_ok]
   unfold qO4
   rw [W_bnd]
   refine (step i x acc S q ha h).mono λ d S' h' => ?_
   unfold qC9
   rw [W_bnd]
   refine (qNc xs I P hP hg hs step fin n (i + 1) (acc ++ [d]) (vals x) S' e2 (by simp [ha]) hlt (by omega) h').mono λ ds S2 h2 => ?_
   unfold consK
   rw [W_ok]
   simpa using h2
theorem qM9 {α : Type} (m : R α) (Q : α -> Sto -> Prop) : W (qGa m) Q = W m Q := by
 unfold W
 cases m with
 | none => rfl
 | some r => cases r <;> rfl
theorem qF9 {it : DI} {g : DG} {e : DE} {base : DS} {k : Nat} {S : Sto} {Q : D -> Sto -> Prop} (vals : D -> List (Option D)) (xs : List D) (I : Nat -> List D -> Sto -> Prop) (P : D -> Prop) (hP : ∀ x ∈ xs, P x) (hg : Tg g k vals base P)
  (hit : W (it base S) λ src S' => xs.length <= src.len S' /\ src.len S' <= 1000000 /\ I 0 [] S' /\ ∀ i acc S, I i acc S -> src.get S i = some xs[i]?)
  (step : ∀ i x acc S, xs[i]? = some x -> acc.length = i -> I i acc S -> W (e (base ++ vals x) S) λ d S' => I (i + 1) (acc ++ [d]) S')
  (fin : ∀ acc S, I xs.length acc S -> acc.length = xs.length -> Q (.ref S.length) (S ++ [.lst acc])) : W (qA1 it k g e base S) Q := by
 unfold qA1
 rw [W_bnd]
 refine hit.mono λ src S' ⟨h1, h2, h3, h4⟩ => ?_
 unfold qVq
 rw [if_pos h2, W_bnd, qM9]
 refine (qNc (Q := λ ds S => Q (.ref S.length) (S ++ [.lst ds])) xs I P hP hg h4 step fin _ 0 [] (jBq k none) S' (by simp) rfl (jBk _) (by omega) h3).mono λ ds S2 h => ?_
 exact W.intro rfl (by simpa using h)
theorem qDm (base : DS) : Tg (setG base.length) 1 (λ x => [some x]) base λ _ => True := λ x os S ho _ => by
 match os, ho with
 | [o], _ => exact ⟨by show ok ((base ++ [o]).set base.length (some x)) S = _; simp, rfl⟩
def pr1 : D -> Option D
 | .tup (x :: _) => some x
 | _ => none
def pr2 : D -> Option D
 | .tup (_ :: y :: _) => some y
 | _ => none
theorem qK0 (base : DS) : Tg (qHo [setG base.length, setG (base.length + 1)]) 2 (λ x => [pr1 x, pr2 x]) base λ x => ∃ p q, x = .tup [p, q] := λ x os S ho hp => by
 obtain ⟨p, q, rfl⟩ := hp
 match os, ho with
 | [o, o'], _ => exact ⟨by simp [qHo, tupGs, setG, pr1, pr2, jC5], rfl⟩
end Np
end
section
open Np PySem
noncomputable section
def Den.greatest_common : DSt :=
 (seqS (setS 2 (vr 0)) (seqS (setS 3 (vr 1)) (seqS (qCy (tv (op2 neD (vr 3) (cst (.int 0)))) (seqS (setS 4 (op2 qCd (vr 2) (vr 3))) (seqS (setS 2 (vr 3)) (setS 3 (vr 4))))) (retS (vr 2)))))
def F.greatest_common : List D -> Sto -> R D := fnF 5 2 Den.greatest_common
def Den.k02_whole : DSt :=
 (retS (andV (op1 (qCh .int) (vr 0)) (notV (op1 (qCh .bool) (vr 0)))))
def F.k02_whole : List D -> Sto -> R D := fnF 1 1 Den.k02_whole
end
end
section
open Np PySem
noncomputable section
def Den.k11_cell_at : DSt :=
 (seqS (ifS (tv (op2 ltD (vr 1) (fnE qDq (zZ (vr 0) aNil)))) (retS (op2 ixD (vr 0) (vr 1))) nxS) (retS (cst (.int 0))))
def F.k11_cell_at : List D -> Sto -> R D := fnF 2 2 Den.k11_cell_at
end
end
section
open Np PySem
noncomputable section
def Den.is_ratio : DSt :=
 (seqS (ifS (orT (notT (tv (op1 (qCh .tup) (vr 0)))) (tv (op2 neD (fnE qDq (zZ (vr 0) aNil)) (cst (.int 2))))) (retS (cst (.bl false))) nxS) (seqS (ifS (orT (notT (tv (fnE F.k02_whole (zZ (op2 ixD (vr 0) (cst (.int 0))) aNil)))) (notT (tv (fnE F.k02_whole (zZ (op2 ixD (vr 0) (cst (.int 1))) aNil))))) (retS (cst (.bl false))) nxS) (retS (andV (op2 geD (op2 ixD (vr 0) (cst (.int 1))) (cst (.int 1))) (op2 eqD (fnE F.greatest_common (zZ (fnE qSt (zZ (op2 ixD (vr 0) (cst (.int 0))) aNil)) (zZ (op2 ixD (vr 0) (cst (.int 1))) aNil))) (cst (.int 1)))))))
def F.is_ratio : List D -> Sto -> R D := fnF 1 1 Den.is_ratio
end
end
section
open Np PySem
noncomputable section
def Den.less : DSt :=
 (retS (op2 ltD (op2 qGx (op2 ixD (vr 0) (cst (.int 0))) (op2 ixD (vr 1) (cst (.int 1)))) (op2 qGx (op2 ixD (vr 1) (cst (.int 0))) (op2 ixD (vr 0) (cst (.int 1))))))
def F.less : List D -> Sto -> R D := fnF 2 2 Den.less
end
end
section
open Np PySem
noncomputable section
def Den.is_row : DSt :=
 (seqS (ifS (orT (notT (tv (op1 (qCh .lst) (vr 0)))) (tv (op2 neD (fnE qDq (zZ (vr 0) aNil)) (vr 1)))) (retS (cst (.bl false))) nxS) (retS (fnE qSs (zZ (qA1 (itE itL (vr 0)) 1 (setG 2) (fnE F.is_ratio (zZ (vr 2) aNil))) aNil))))
def F.is_row : List D -> Sto -> R D := fnF 2 2 Den.is_row
end
end
section
open Np PySem
noncomputable section
def Den.is_wide : DSt :=
 (retS (andV (fnE F.k02_whole (zZ (vr 0) aNil)) (chn leD leD (cst (.int 0)) (vr 0) (cst (.int 12)))))
def F.is_wide : List D -> Sto -> R D := fnF 1 1 Den.is_wide
def Den.is_weight : DSt :=
 (retS (andV (fnE F.is_ratio (zZ (vr 0) aNil)) (fnE F.less (zZ (cst (.tup [(.int 0), (.int 1)])) (zZ (vr 0) aNil)))))
def F.is_weight : List D -> Sto -> R D := fnF 1 1 Den.is_weight
def Den.is_point : DSt :=
 (seqS (ifS (orT (notT (tv (op1 (qCh .tup) (vr 0)))) (tv (op2 neD (fnE qDq (zZ (vr 0) aNil)) (cst (.int 3))))) (retS (cst (.bl false))) nxS) (retS (andV (fnE F.is_row (zZ (op2 ixD (vr 0) (cst (.int 0))) (zZ (vr 1) aNil))) (andV (fnE F.is_ratio (zZ (op2 ixD (vr 0) (cst (.int 1))) aNil)) (fnE F.is_weight (zZ (op2 ixD (vr 0) (cst (.int 2))) aNil))))))
def F.is_point : List D -> Sto -> R D := fnF 2 2 Den.is_point
def Den.State___init__ : DSt :=
 (seqS (qDv "State" "wide" (vr 0) (vr 1)) (seqS (qDv "State" "laid" (vr 0) (vr 2)) (qDv "State" "kept" (vr 0) (vr 3))))
def F.State___init__ : List D -> Sto -> R D := fnF 4 4 Den.State___init__
def Den.Plane___init__ : DSt :=
 (seqS (ifS (notT (tv (fnE F.is_wide (zZ (vr 1) aNil)))) qL4 nxS) (qDv "Plane" "states" (vr 0) (fnE qA5 (zZ (mkE "State" F.State___init__ (zZ (vr 1) (zZ (cst (.int 0)) (zZ (fnE qA5 aNil) aNil)))) aNil))))
def F.Plane___init__ : List D -> Sto -> R D := fnF 2 2 Den.Plane___init__
def Den.Plane_lay : DSt :=
 (seqS (setS 4 (op2 ixD (op1 (qAt "Plane" "states") (vr 0)) (op1 qDd (cst (.int 1))))) (seqS (setS 5 (op1 (qAt "State" "laid") (vr 4))) (seqS (setS 6 (ifE (tv (op2 qOx (vr 3) (cst .non))) (cst (.tup [(.int 1), (.int 1)])) (vr 3))) (seqS (ifS (notT (tv (fnE F.is_point (zZ (fnE qBp (zZ (vr 1) (zZ (vr 2) (zZ (vr 6) aNil)))) (zZ (op1 (qAt "State" "wide") (vr 4)) aNil))))) qL4 nxS) (seqS (setS 7 (fnE qBp (zZ (vr 5) (zZ (fnE qOt (zZ (vr 1) aNil)) (zZ (vr 2) (zZ (vr 6) aNil)))))) (seqS (dropS (opM qFg (op1 (qAt "Plane" "states") (vr 0)) (mkE "State" F.State___init__ (zZ (op1 (qAt "State" "wide") (vr 4)) (zZ (op2 qCb (vr 5) (cst (.int 1))) (zZ (op2 qCb (op1 (qAt "State" "kept") (vr 4)) (fnE qA5 (zZ (vr 7) aNil))) aNil)))))) (retS (vr 5))))))))
def F.Plane_lay : List D -> Sto -> R D := fnF 8 4 Den.Plane_lay
def Den.Plane_take : DSt :=
 (seqS (setS 2 (op2 ixD (op1 (qAt "Plane" "states") (vr 0)) (op1 qDd (cst (.int 1))))) (seqS (ifS (orT (notT (tv (fnE F.k02_whole (zZ (vr 1) aNil)))) (tv (op2 qCc (vr 1) (qA1 (itE itL (op1 (qAt "State" "kept") (vr 2))) 1 (setG 4) (op2 ixD (vr 4) (cst (.int 0))))))) qL4 nxS) (seqS (setS 3 (qDw (itE itL (op1 (qAt "State" "kept") (vr 2))) 1 (setG 4) (tv (op2 neD (op2 ixD (vr 4) (cst (.int 0))) (vr 1))) (vr 4))) (dropS (opM qFg (op1 (qAt "Plane" "states") (vr 0)) (mkE "State" F.State___init__ (zZ (op1 (qAt "State" "wide") (vr 2)) (zZ (op1 (qAt "State" "laid") (vr 2)) (zZ (vr 3) aNil)))))))))
def F.Plane_take : List D -> Sto -> R D := fnF 4 2 Den.Plane_take
def Den.with_row : DSt :=
 (retS (fnE qBp (zZ (op2 ixD (vr 0) (cst (.int 0))) (zZ (vr 1) (zZ (op2 ixD (vr 0) (cst (.int 2))) (zZ (op2 ixD (vr 0) (cst (.int 3))) aNil))))))
def F.with_row : List D -> Sto -> R D := fnF 2 2 Den.with_row
def Den.Plane_widen : DSt :=
 (seqS (setS 2 (op2 ixD (op1 (qAt "Plane" "states") (vr 0)) (op1 qDd (cst (.int 1))))) (seqS (ifS (notT (tv (fnE F.is_wide (zZ (op2 qCb (op1 (qAt "State" "wide") (vr 2)) (cst (.int 1))) aNil)))) qL4 nxS) (seqS (ifS (notT (tv (fnE F.is_row (zZ (vr 1) (zZ (fnE qDq (zZ (op1 (qAt "State" "kept") (vr 2)) aNil)) aNil))))) qL4 nxS) (seqS (setS 3 (qA1 (itA qGd (zZ (op1 (qAt "State" "kept") (vr 2)) (zZ (vr 1) aNil))) 2 (qHo [(setG 4), (setG 5)]) (fnE F.with_row (zZ (vr 4) (zZ (op2 qCb (op2 ixD (vr 4) (cst (.int 1))) (fnE qA5 (zZ (vr 5) aNil))) aNil))))) (dropS (opM qFg (op1 (qAt "Plane" "states") (vr 0)) (mkE "State" F.State___init__ (zZ (op2 qCb (op1 (qAt "State" "wide") (vr 2)) (cst (.int 1))) (zZ (op1 (qAt "State" "laid") (vr 2)) (zZ (vr 3) aNil))))))))))
def F.Plane_widen : List D -> Sto -> R D := fnF 4 2 Den.Plane_widen
def Den.Plane_narrow : DSt :=
 (seqS (setS 1 (op2 ixD (op1 (qAt "Plane" "states") (vr 0)) (op1 qDd (cst (.int 1))))) (seqS (ifS (tv (op2 eqD (op1 (qAt "State" "wide") (vr 1)) (cst (.int 0)))) qL4 nxS) (seqS (setS 2 (qA1 (itE itL (op1 (qAt "State" "kept") (vr 1))) 1 (setG 3) (fnE F.with_row (zZ (vr 3) (zZ (slE (op2 ixD (vr 3) (cst (.int 1))) noP (atP (op1 qDd (cst (.int 1))))) aNil))))) (dropS (opM qFg (op1 (qAt "Plane" "states") (vr 0)) (mkE "State" F.State___init__ (zZ (op2 qGj (op1 (qAt "State" "wide") (vr 1)) (cst (.int 1))) (zZ (op1 (qAt "State" "laid") (vr 1)) (zZ (vr 2) aNil)))))))))
def F.Plane_narrow : List D -> Sto -> R D := fnF 3 1 Den.Plane_narrow
def Den.Plane_points : DSt :=
 (retS (qA1 (itE itL (op1 (qAt "State" "kept") (op2 ixD (op1 (qAt "Plane" "states") (vr 0)) (op1 qDd (cst (.int 1)))))) 1 (setG 1) (fnE F.with_row (zZ (vr 1) (zZ (fnE qOt (zZ (op2 ixD (vr 1) (cst (.int 1))) aNil)) aNil)))))
def F.Plane_points : List D -> Sto -> R D := fnF 1 1 Den.Plane_points
def Den.Plane_width : DSt :=
 (retS (op1 (qAt "State" "wide") (op2 ixD (op1 (qAt "Plane" "states") (vr 0)) (op1 qDd (cst (.int 1))))))
def F.Plane_width : List D -> Sto -> R D := fnF 1 1 Den.Plane_width
def Den.k52_mixed : DSt :=
 (seqS (setS 2 (op2 qCd (op2 qGx (op2 qCb (op2 qCb (op2 qCd (vr 0) (cst (.int 2147483629))) (op2 qGx (cst (.int 7)) (vr 1))) (cst (.int 3))) (cst (.int 48271))) (cst (.int 2147483647)))) (seqS (setS 3 (cst (.int 0))) (seqS (forS (itA qEa (zZ (cst (.int 6)) aNil)) (setG 4) (seqS (setS 2 (op2 qCd (op2 qCb (op2 qCb (op2 qGx (vr 2) (cst (.int 69621))) (op2 qGx (cst (.int 11)) (vr 4))) (cst (.int 5))) (cst (.int 2147483647)))) (setS 3 (op2 qCb (op2 qGx (vr 3) (cst (.int 2147483647))) (vr 2))))) (retS (vr 3)))))
def F.k52_mixed : List D -> Sto -> R D := fnF 5 2 Den.k52_mixed
def Den.k52_lowest : DSt :=
 (seqS (setS 2 (fnE qSt (zZ (vr 0) aNil))) (seqS (setS 3 (vr 1)) (seqS (qCy (tv (op2 neD (vr 3) (cst (.int 0)))) (parS 2 3 (vr 3) (op2 qCd (vr 2) (vr 3)))) (retS (fnE qBp (zZ (op2 qBz (vr 0) (vr 2)) (zZ (op2 qBz (vr 1) (vr 2)) aNil)))))))
def F.k52_lowest : List D -> Sto -> R D := fnF 4 2 Den.k52_lowest
def Den.k52_plus : DSt :=
 (retS (fnE F.k52_lowest (zZ (op2 qCb (op2 qGx (op2 ixD (vr 0) (cst (.int 0))) (op2 ixD (vr 1) (cst (.int 1)))) (op2 qGx (op2 ixD (vr 1) (cst (.int 0))) (op2 ixD (vr 0) (cst (.int 1))))) (zZ (op2 qGx (op2 ixD (vr 0) (cst (.int 1))) (op2 ixD (vr 1) (cst (.int 1)))) aNil))))
def F.k52_plus : List D -> Sto -> R D := fnF 2 2 Den.k52_plus
def Den.k52_ratio : DSt :=
 (seqS (asgS (fnE qNg (zZ (vr 0) (zZ (cst (.int 16)) aNil))) (qHo [(setG 0), (setG 1)])) (seqS (asgS (fnE qNg (zZ (vr 0) (zZ (cst (.int 8)) aNil))) (qHo [(setG 0), (setG 2)])) (seqS (ifS (tv (op2 eqD (vr 1) (cst (.int 3)))) (retS (fnE qBp (zZ (op2 qGj (op2 qGx (vr 0) (op2 qGs (cst (.int 10)) (cst (.int 15)))) (op2 qGs (cst (.int 10)) (cst (.int 20)))) (zZ (cst (.int 1)) aNil)))) nxS) (retS (fnE F.k52_lowest (zZ (op2 qGj (op2 qCd (vr 0) (cst (.int 19))) (cst (.int 9))) (zZ (op2 ixD (fnE qA5 (zZ (cst (.int 1)) (zZ (cst (.int 1)) (zZ (cst (.int 1)) (zZ (cst (.int 2)) (zZ (cst (.int 3)) (zZ (cst (.int 4)) (zZ (cst (.int 6)) (zZ (cst (.int 12)) aNil))))))))) (vr 2)) aNil)))))))
def F.k52_ratio : List D -> Sto -> R D := fnF 3 1 Den.k52_ratio
def Den.k52_row : DSt :=
 (seqS (setS 2 (fnE qA5 aNil)) (seqS (forS (itA qEa (zZ (vr 1) aNil)) (setG 3) (dropS (opM qFg (vr 2) (fnE F.k52_ratio (zZ (op2 qCd (fnE F.k52_mixed (zZ (vr 0) (zZ (op2 qCb (cst (.int 31)) (vr 3)) aNil))) (cst (.int 100003))) aNil))))) (retS (vr 2))))
def F.k52_row : List D -> Sto -> R D := fnF 4 2 Den.k52_row
def Den.k52_point : DSt :=
 (seqS (asgS (fnE qNg (zZ (vr 0) (zZ (cst (.int 100003)) aNil))) (qHo [(setG 0), (setG 3)])) (seqS (asgS (fnE qNg (zZ (vr 0) (zZ (cst (.int 6)) aNil))) (qHo [(setG 0), (setG 4)])) (seqS (setS 5 (fnE F.k52_row (zZ (vr 0) (zZ (vr 1) aNil)))) (seqS (ifS (andT (tv (vr 2)) (tv (op2 gtD (vr 1) (cst (.int 1))))) (asgS (fnE F.k52_plus (zZ (op2 ixD (vr 5) (cst (.int 0))) (zZ (op2 ixD (vr 5) (op2 qGj (vr 1) (cst (.int 2)))) aNil))) (qGl (vr 5) (op2 qGj (vr 1) (cst (.int 1))))) nxS) (retS (fnE qBp (zZ (vr 5) (zZ (fnE F.k52_ratio (zZ (vr 3) aNil)) (zZ (op2 ixD (fnE qA5 (zZ (fnE qBp (zZ (cst (.int 1)) (zZ (cst (.int 1)) aNil))) (zZ (fnE qBp (zZ (cst (.int 1)) (zZ (cst (.int 1)) aNil))) (zZ (fnE qBp (zZ (cst (.int 1)) (zZ (cst (.int 2)) aNil))) (zZ (fnE qBp (zZ (cst (.int 2)) (zZ (cst (.int 1)) aNil))) (zZ (fnE qBp (zZ (cst (.int 3)) (zZ (cst (.int 1)) aNil))) (zZ (fnE qBp (zZ (cst (.int 5)) (zZ (cst (.int 7)) aNil))) aNil))))))) (vr 4)) aNil)))))))))
def F.k52_point : List D -> Sto -> R D := fnF 6 3 Den.k52_point
def Den.k52_fresh : DSt :=
 (retS (fnE qA5 (zZ (vr 0) (zZ (fnE qA5 aNil) (zZ (cst (.int 0)) aNil)))))
def F.k52_fresh : List D -> Sto -> R D := fnF 1 1 Den.k52_fresh
def Den.k52_alike (self : List D -> Sto -> R D) : DSt :=
 (seqS (ifS (orT (tv (op1 (qCh .lst) (vr 1))) (tv (op1 (qCh .tup) (vr 1)))) (seqS (ifS (orT (tv (op2 neD (op1 (qCh .lst) (vr 1)) (op1 (qCh .lst) (vr 0)))) (tv (op2 neD (op1 (qCh .tup) (vr 1)) (op1 (qCh .tup) (vr 0))))) (retS (cst (.bl false))) nxS) (retS (andV (op2 eqD (fnE qDq (zZ (vr 0) aNil)) (fnE qDq (zZ (vr 1) aNil))) (fnE qSs (zZ (qA1 (itA qJl (zZ (vr 0) (zZ (vr 1) aNil))) 2 (qHo [(setG 2), (setG 3)]) (fnE self (zZ (vr 2) (zZ (vr 3) aNil)))) aNil))))) nxS) (retS (andV (op1 (qCh .int) (vr 0)) (andV (notV (op1 (qCh .bool) (vr 0))) (op2 eqD (vr 0) (vr 1))))))
def F.k52_alike : Nat -> List D -> Sto -> R D
 | 0, _, _ => none
 | n + 1, ds, S => fnF 2 2 (Den.k52_alike (F.k52_alike n)) ds S
def Den.k52_stands : DSt :=
 (seqS (ifS (notT (tv (fnE (F.k52_alike 7) (zZ (qAg "Plane" "width" F.Plane_width (vr 0) aNil) (zZ (op2 ixD (vr 1) (cst (.int 0))) aNil))))) (retS (cst (.bl false))) nxS) (retS (fnE (F.k52_alike 7) (zZ (qAg "Plane" "points" F.Plane_points (vr 0) aNil) (zZ (op2 ixD (vr 1) (cst (.int 1))) aNil)))))
def F.k52_stands : List D -> Sto -> R D := fnF 2 2 Den.k52_stands
def Den.k52_laid : DSt :=
 (seqS (asgS (fnE F.k52_point (zZ (vr 2) (zZ (op2 ixD (vr 1) (cst (.int 0))) (zZ (vr 3) aNil)))) (qHo [(setG 4), (setG 5), (setG 6)])) (seqS (ifS (andT (tv (op2 gtD (fnE qDq (zZ (op2 ixD (vr 1) (cst (.int 1))) aNil)) (cst (.int 0)))) (tv (op2 eqD (op2 qCd (vr 2) (cst (.int 5))) (cst (.int 1))))) (setS 4 (fnE qOt (zZ (op2 ixD (op2 ixD (op2 ixD (vr 1) (cst (.int 1))) (op2 qCd (op2 qBz (vr 2) (cst (.int 5))) (fnE qDq (zZ (op2 ixD (vr 1) (cst (.int 1))) aNil)))) (cst (.int 1))) aNil))) nxS) (seqS (setS 7 (fnE qOt (zZ (vr 4) aNil))) (seqS (ifS (tv (op2 eqD (vr 6) (fnE qBp (zZ (cst (.int 1)) (zZ (cst (.int 1)) aNil))))) (setS 8 (qAg "Plane" "lay" (fnD F.Plane_lay [.non]) (vr 0) (zZ (vr 7) (zZ (vr 5) aNil)))) (setS 8 (qAg "Plane" "lay" F.Plane_lay (vr 0) (zZ (vr 7) (zZ (vr 5) (zZ (vr 6) aNil)))))) (seqS (ifS (tv (op2 neD (vr 7) (vr 4))) (retS (cst (.bl false))) nxS) (seqS (dropS (opM qFg (vr 7) (fnE qBp (zZ (cst (.int 7)) (zZ (cst (.int 1)) aNil))))) (seqS (dropS (opM qFg (op2 ixD (vr 1) (cst (.int 1))) (fnE qBp (zZ (op2 ixD (vr 1) (cst (.int 2))) (zZ (vr 4) (zZ (vr 5) (zZ (vr 6) aNil))))))) (seqS (asgS (op2 qCb (op2 ixD (vr 1) (cst (.int 2))) (cst (.int 1))) (qGl (vr 1) (cst (.int 2)))) (retS (fnE (F.k52_alike 7) (zZ (vr 8) (zZ (op2 qGj (op2 ixD (vr 1) (cst (.int 2))) (cst (.int 1))) aNil))))))))))))
def F.k52_laid : List D -> Sto -> R D := fnF 9 4 Den.k52_laid
def Den.k52_taken : DSt :=
 (seqS (setS 3 (op2 qCd (vr 2) (fnE qDq (zZ (op2 ixD (vr 1) (cst (.int 1))) aNil)))) (seqS (dropS (qAg "Plane" "take" F.Plane_take (vr 0) (zZ (op2 ixD (op2 ixD (op2 ixD (vr 1) (cst (.int 1))) (vr 3)) (cst (.int 0))) aNil))) (dropS (opM qDo (op2 ixD (vr 1) (cst (.int 1))) (vr 3)))))
def F.k52_taken : List D -> Sto -> R D := fnF 4 3 Den.k52_taken
end
end
section
open Np PySem
noncomputable section
def Den.Plane_mark : DSt :=
 (retS (op2 qGj (fnE qDq (zZ (op1 (qAt "Plane" "states") (vr 0)) aNil)) (cst (.int 1))))
def F.Plane_mark : List D -> Sto -> R D := fnF 1 1 Den.Plane_mark
def Den.Plane_back : DSt :=
 (seqS (ifS (orT (notT (tv (fnE F.k02_whole (zZ (vr 1) aNil)))) (notT (tv (chn leD leD (cst (.int 0)) (vr 1) (qAg "Plane" "mark" F.Plane_mark (vr 0) aNil))))) qL4 nxS) (qDv "Plane" "states" (vr 0) (slE (op1 (qAt "Plane" "states") (vr 0)) noP (atP (op2 qCb (vr 1) (cst (.int 1)))))))
def F.Plane_back : List D -> Sto -> R D := fnF 2 2 Den.Plane_back
end
end
section
open Np PySem
noncomputable section
def Den.k56_kinds : DSt :=
 (seqS (setS 1 (fnE qA5 (zZ (op1 (qG5 ["NoPoint"] ["NoColumn", "NoMark"]) (vr 0)) (zZ (op1 (qG5 ["NoColumn"] ["NoMark", "NoPoint"]) (vr 0)) (zZ (op1 (qG5 ["NoMark"] ["NoColumn", "NoPoint"]) (vr 0)) aNil))))) (seqS (dropS (opM qFg (vr 1) (op1 (qSp ["NoColumn", "NoMark", "NoPoint"]) (vr 0)))) (retS (op2 qCb (vr 1) (fnE qA5 (zZ (op1 (qMe ["NoColumn", "NoMark", "NoPoint"]) (vr 0)) aNil))))))
def F.k56_kinds : List D -> Sto -> R D := fnF 2 1 Den.k56_kinds
def Den.k56_done : DSt :=
 (ifS (tv (op2 eqD (vr 1) (cst (.str "lay")))) (dropS (qAg "Plane" "lay" F.Plane_lay (vr 0) (zZ (op2 ixD (vr 2) (cst (.int 0))) (zZ (op2 ixD (vr 2) (cst (.int 1))) (zZ (op2 ixD (vr 2) (cst (.int 2))) aNil))))) (ifS (tv (op2 eqD (vr 1) (cst (.str "take")))) (dropS (qAg "Plane" "take" F.Plane_take (vr 0) (zZ (op2 ixD (vr 2) (cst (.int 0))) aNil))) (ifS (tv (op2 eqD (vr 1) (cst (.str "widen")))) (dropS (qAg "Plane" "widen" F.Plane_widen (vr 0) (zZ (op2 ixD (vr 2) (cst (.int 0))) aNil))) (ifS (tv (op2 eqD (vr 1) (cst (.str "narrow")))) (dropS (qAg "Plane" "narrow" F.Plane_narrow (vr 0) aNil)) (ifS (tv (op2 eqD (vr 1) (cst (.str "back")))) (dropS (qAg "Plane" "back" F.Plane_back (vr 0) (zZ (op2 ixD (vr 2) (cst (.int 0))) aNil))) (dropS (mkE "Plane" F.Plane___init__ (zZ (op2 ixD (vr 2) (cst (.int 0))) aNil))))))))
def F.k56_done : List D -> Sto -> R D := fnF 3 3 Den.k56_done
def DenX.Plane_lay : DSt :=
 (seqS (qA4 (setS 4 (op2 ixD (op1 (qAt "Plane" "states") (vr 0)) (op1 qDd (cst (.int 1)))))) (seqS (qA4 (setS 5 (op1 (qAt "State" "laid") (vr 4)))) (seqS (qA4 (setS 6 (ifE (tv (op2 qOx (vr 3) (cst .non))) (cst (.tup [(.int 1), (.int 1)])) (vr 3)))) (seqS (ifS (notT (tv (fnE F.is_point (zZ (fnE qBp (zZ (vr 1) (zZ (vr 2) (zZ (vr 6) aNil)))) (zZ (op1 (qAt "State" "wide") (vr 4)) aNil))))) (qAy "NoPoint") nxS) (seqS (qA4 (setS 7 (fnE qBp (zZ (vr 5) (zZ (fnE qOt (zZ (vr 1) aNil)) (zZ (vr 2) (zZ (vr 6) aNil))))))) (seqS (qA4 (dropS (opM qFg (op1 (qAt "Plane" "states") (vr 0)) (mkE "State" F.State___init__ (zZ (op1 (qAt "State" "wide") (vr 4)) (zZ (op2 qCb (vr 5) (cst (.int 1))) (zZ (op2 qCb (op1 (qAt "State" "kept") (vr 4)) (fnE qA5 (zZ (vr 7) aNil))) aNil))))))) (qA4 (retS (vr 5)))))))))
def X.Plane_lay : List D -> Sto -> R D := fnX 8 4 DenX.Plane_lay
def DenX.Plane_take : DSt :=
 (seqS (qA4 (setS 2 (op2 ixD (op1 (qAt "Plane" "states") (vr 0)) (op1 qDd (cst (.int 1)))))) (seqS (ifS (orT (notT (tv (fnE F.k02_whole (zZ (vr 1) aNil)))) (tv (op2 qCc (vr 1) (qA1 (itE itL (op1 (qAt "State" "kept") (vr 2))) 1 (setG 4) (op2 ixD (vr 4) (cst (.int 0))))))) (qAy "NoPoint") nxS) (seqS (qA4 (setS 3 (qDw (itE itL (op1 (qAt "State" "kept") (vr 2))) 1 (setG 4) (tv (op2 neD (op2 ixD (vr 4) (cst (.int 0))) (vr 1))) (vr 4)))) (qA4 (dropS (opM qFg (op1 (qAt "Plane" "states") (vr 0)) (mkE "State" F.State___init__ (zZ (op1 (qAt "State" "wide") (vr 2)) (zZ (op1 (qAt "State" "laid") (vr 2)) (zZ (vr 3) aNil))))))))))
def X.Plane_take : List D -> Sto -> R D := fnX 4 2 DenX.Plane_take
def DenX.Plane_widen : DSt :=
 (seqS (qA4 (setS 2 (op2 ixD (op1 (qAt "Plane" "states") (vr 0)) (op1 qDd (cst (.int 1)))))) (seqS (ifS (notT (tv (fnE F.is_wide (zZ (op2 qCb (op1 (qAt "State" "wide") (vr 2)) (cst (.int 1))) aNil)))) (qAy "NoColumn") nxS) (seqS (ifS (notT (tv (fnE F.is_row (zZ (vr 1) (zZ (fnE qDq (zZ (op1 (qAt "State" "kept") (vr 2)) aNil)) aNil))))) (qAy "NoColumn") nxS) (seqS (qA4 (setS 3 (qA1 (itA qGd (zZ (op1 (qAt "State" "kept") (vr 2)) (zZ (vr 1) aNil))) 2 (qHo [(setG 4), (setG 5)]) (fnE F.with_row (zZ (vr 4) (zZ (op2 qCb (op2 ixD (vr 4) (cst (.int 1))) (fnE qA5 (zZ (vr 5) aNil))) aNil)))))) (qA4 (dropS (opM qFg (op1 (qAt "Plane" "states") (vr 0)) (mkE "State" F.State___init__ (zZ (op2 qCb (op1 (qAt "State" "wide") (vr 2)) (cst (.int 1))) (zZ (op1 (qAt "State" "laid") (vr 2)) (zZ (vr 3) aNil)))))))))))
def X.Plane_widen : List D -> Sto -> R D := fnX 4 2 DenX.Plane_widen
def DenX.Plane_narrow : DSt :=
 (seqS (qA4 (setS 1 (op2 ixD (op1 (qAt "Plane" "states") (vr 0)) (op1 qDd (cst (.int 1)))))) (seqS (ifS (tv (op2 eqD (op1 (qAt "State" "wide") (vr 1)) (cst (.int 0)))) (qAy "NoColumn") nxS) (seqS (qA4 (setS 2 (qA1 (itE itL (op1 (qAt "State" "kept") (vr 1))) 1 (setG 3) (fnE F.with_row (zZ (vr 3) (zZ (slE (op2 ixD (vr 3) (cst (.int 1))) noP (atP (op1 qDd (cst (.int 1))))) aNil)))))) (qA4 (dropS (opM qFg (op1 (qAt "Plane" "states") (vr 0)) (mkE "State" F.State___init__ (zZ (op2 qGj (op1 (qAt "State" "wide") (vr 1)) (cst (.int 1))) (zZ (op1 (qAt "State" "laid") (vr 1)) (zZ (vr 2) aNil))))))))))
def X.Plane_narrow : List D -> Sto -> R D := fnX 3 1 DenX.Plane_narrow
def DenX.Plane_back : DSt :=
 (seqS (ifS (orT (notT (tv (fnE F.k02_whole (zZ (vr 1) aNil)))) (notT (tv (chn leD leD (cst (.int 0)) (vr 1) (qAg "Plane" "mark" F.Plane_mark (vr 0) aNil))))) (qAy "NoMark") nxS) (qA4 (qDv "Plane" "states" (vr 0) (slE (op1 (qAt "Plane" "states") (vr 0)) noP (atP (op2 qCb (vr 1) (cst (.int 1))))))))
def X.Plane_back : List D -> Sto -> R D := fnX 2 2 DenX.Plane_back
def DenX.Plane___init__ : DSt :=
 (seqS (ifS (notT (tv (fnE F.is_wide (zZ (vr 1) aNil)))) (qAy "NoColumn") nxS) (qA4 (qDv "Plane" "states" (vr 0) (fnE qA5 (zZ (mkE "State" F.State___init__ (zZ (vr 1) (zZ (cst (.int 0)) (zZ (fnE qA5 aNil) aNil)))) aNil)))))
def X.Plane___init__ : List D -> Sto -> R D := fnX 2 2 DenX.Plane___init__
def DenX._law_done : DSt :=
 (ifS (tv (op2 eqD (vr 1) (cst (.str "lay")))) (dropS (qAg "Plane" "lay" X.Plane_lay (vr 0) (zZ (op2 ixD (vr 2) (cst (.int 0))) (zZ (op2 ixD (vr 2) (cst (.int 1))) (zZ (op2 ixD (vr 2) (cst (.int 2))) aNil))))) (ifS (tv (op2 eqD (vr 1) (cst (.str "take")))) (dropS (qAg "Plane" "take" X.Plane_take (vr 0) (zZ (op2 ixD (vr 2) (cst (.int 0))) aNil))) (ifS (tv (op2 eqD (vr 1) (cst (.str "widen")))) (dropS (qAg "Plane" "widen" X.Plane_widen (vr 0) (zZ (op2 ixD (vr 2) (cst (.int 0))) aNil))) (ifS (tv (op2 eqD (vr 1) (cst (.str "narrow")))) (dropS (qAg "Plane" "narrow" X.Plane_narrow (vr 0) aNil)) (ifS (tv (op2 eqD (vr 1) (cst (.str "back")))) (dropS (qAg "Plane" "back" X.Plane_back (vr 0) (zZ (op2 ixD (vr 2) (cst (.int 0))) aNil))) (dropS (mkE "Plane" X.Plane___init__ (zZ (op2 ixD (vr 2) (cst (.int 0))) aNil))))))))
def X._law_done : List D -> Sto -> R D := fnX 3 3 DenX._law_done
def Den.k56_refused : DSt :=
 (seqS (setS 4 (cst .non)) (seqS (qWh X._law_done (zZ (vr 0) (zZ (vr 1) (zZ (vr 2) aNil))) 5 ["NoColumn", "NoMark", "NoPoint"] (setS 4 (vr 5))) (seqS (ifS (tv (op2 qOx (vr 4) (cst .non))) (retS (cst (.bl false))) nxS) (retS (op2 eqD (fnE F.k56_kinds (zZ (vr 4) aNil)) (fnE qA5 (zZ (op2 eqD (vr 3) (cst (.int 0))) (zZ (op2 eqD (vr 3) (cst (.int 1))) (zZ (op2 eqD (vr 3) (cst (.int 2))) (zZ (cst (.bl true)) (zZ (cst (.bl false)) aNil)))))))))))
def F.k56_refused : List D -> Sto -> R D := fnF 6 4 Den.k56_refused
def Den.k56_odd : DSt :=
 (seqS (setS 1 (op2 qCd (op2 qBz (vr 0) (cst (.int 12))) (op2 qGs (cst (.int 10)) (cst (.int 20))))) (seqS (setS 2 (fnE qA5 (zZ (fnE qBp (zZ (op2 qCb (cst (.int 2)) (op2 qGx (cst (.int 2)) (vr 1))) (zZ (cst (.int 2)) aNil))) (zZ (fnE qBp (zZ (cst (.int 1)) (zZ (cst (.int 0)) aNil))) (zZ (fnE qBp (zZ (cst (.int 1)) (zZ (op2 qGj (op1 qDd (cst (.int 1))) (vr 1)) aNil))) (zZ (fnE qBp (zZ (cst (.int 0)) (zZ (cst (.int 2)) aNil))) (zZ (fnE qA5 (zZ (cst (.int 1)) (zZ (cst (.int 1)) aNil))) (zZ (cst (.bl true)) (zZ (vr 1) (zZ (cst (.str "1")) (zZ (cst .non) (zZ (fnE qBp (zZ (cst (.bl true)) (zZ (cst (.int 1)) aNil))) (zZ (fnE qBp (zZ (cst (.int 1)) aNil)) (zZ (fnE qBp (zZ (cst (.int 1)) (zZ (cst (.int 2)) (zZ (cst (.int 3)) aNil)))) aNil)))))))))))))) (retS (op2 ixD (vr 2) (op2 qCd (vr 0) (cst (.int 12)))))))
def F.k56_odd : List D -> Sto -> R D := fnF 3 1 Den.k56_odd
def Den.k56_odd_row : DSt :=
 (seqS (asgS (fnE qNg (zZ (vr 0) (zZ (cst (.int 4)) aNil))) (qHo [(setG 0), (setG 2)])) (seqS (setS 3 (fnE F.k52_row (zZ (op2 qBz (vr 0) (cst (.int 999))) (zZ (vr 1) aNil)))) (seqS (ifS (tv (op2 eqD (vr 2) (cst (.int 0)))) (retS (op2 qCb (vr 3) (fnE qA5 (zZ (fnE qBp (zZ (cst (.int 1)) (zZ (cst (.int 1)) aNil))) aNil)))) nxS) (seqS (ifS (andT (tv (op2 eqD (vr 2) (cst (.int 1)))) (tv (op2 gtD (vr 1) (cst (.int 0))))) (retS (slE (vr 3) (atP (cst (.int 1))) noP)) nxS) (seqS (ifS (orT (tv (op2 eqD (vr 2) (cst (.int 2)))) (tv (op2 eqD (vr 1) (cst (.int 0))))) (retS (op2 ixD (fnE qA5 (zZ (fnE qS2 (zZ (vr 3) aNil)) (zZ (cst .non) (zZ (cst (.str "")) (zZ (cst (.int 0)) (zZ qSq aNil)))))) (op2 qCd (vr 0) (cst (.int 5))))) nxS) (seqS (asgS (fnE F.k56_odd (zZ (op2 qBz (vr 0) (cst (.int 12))) aNil)) (qGl (vr 3) (op2 qCd (vr 0) (vr 1)))) (retS (vr 3))))))))
def F.k56_odd_row : List D -> Sto -> R D := fnF 4 2 Den.k56_odd_row
def Den.k56_bad : DSt :=
 (seqS (asgS (fnE qNg (zZ (vr 2) (zZ (cst (.int 8)) aNil))) (qHo [(setG 2), (setG 3)])) (seqS (setS 4 (fnE F.k52_row (zZ (op2 qBz (vr 2) (cst (.int 999))) (zZ (op2 ixD (vr 0) (cst (.int 0))) aNil)))) (seqS (ifS (tv (op2 eqD (vr 3) (cst (.int 0)))) (retS (fnE qA5 (zZ (cst (.str "lay")) (zZ (fnE qA5 (zZ (fnE F.k56_odd_row (zZ (vr 2) (zZ (op2 ixD (vr 0) (cst (.int 0))) aNil))) (zZ (fnE qBp (zZ (cst (.int 1)) (zZ (cst (.int 2)) aNil))) (zZ (fnE qBp (zZ (cst (.int 1)) (zZ (cst (.int 1)) aNil))) aNil)))) (zZ (cst (.int 0)) aNil))))) nxS) (seqS (ifS (tv (op2 eqD (vr 3) (cst (.int 1)))) (retS (fnE qA5 (zZ (cst (.str "lay")) (zZ (fnE qA5 (zZ (vr 4) (zZ (fnE F.k56_odd (zZ (vr 2) aNil)) (zZ (fnE qBp (zZ (cst (.int 3)) (zZ (cst (.int 1)) aNil))) aNil)))) (zZ (cst (.int 0)) aNil))))) nxS) (seqS (ifS (tv (op2 eqD (vr 3) (cst (.int 2)))) (seqS (setS 5 (fnE qA5 (zZ (fnE qBp (zZ (cst (.int 0)) (zZ (cst (.int 1)) aNil))) (zZ (fnE qBp (zZ (op1 qDd (cst (.int 1))) (zZ (cst (.int 2)) aNil))) (zZ (fnE qBp (zZ (op2 qGj (op1 qDd (cst (.int 5))) (op2 qCd (vr 2) (op2 qGs (cst (.int 10)) (cst (.int 20))))) (zZ (cst (.int 1)) aNil))) (zZ (orA (fnE F.k56_odd (zZ (op2 qBz (vr 2) (cst (.int 4))) aNil)) (cst (.str "1"))) aNil)))))) (retS (fnE qA5 (zZ (cst (.str "lay")) (zZ (fnE qA5 (zZ (vr 4) (zZ (fnE qBp (zZ (cst (.int 0)) (zZ (cst (.int 1)) aNil))) (zZ (op2 ixD (vr 5) (op2 qCd (vr 2) (cst (.int 4)))) aNil)))) (zZ (cst (.int 0)) aNil)))))) nxS) (seqS (ifS (tv (op2 eqD (vr 3) (cst (.int 3)))) (seqS (setS 6 (qDw (itA qEa (zZ (op2 qCb (op2 ixD (vr 0) (cst (.int 2))) (cst (.int 2))) aNil)) 1 (setG 7) (tv (op2 qCc (vr 7) (qA1 (itE itL (op2 ixD (vr 0) (cst (.int 1)))) 1 (setG 8) (op2 ixD (vr 8) (cst (.int 0)))))) (vr 7))) (seqS (setS 5 (fnE qA5 (zZ (op2 qGj (op1 qDd (cst (.int 1))) (op2 qCd (op2 qBz (vr 2) (cst (.int 8))) (op2 qGs (cst (.int 10)) (cst (.int 20))))) (zZ (op2 ixD (vr 6) (op2 qCd (op2 qBz (vr 2) (cst (.int 8))) (fnE qDq (zZ (vr 6) aNil)))) (zZ (cst (.bl true)) (zZ (cst .non) (zZ (cst (.str "0")) (zZ (fnE qBp (zZ (cst (.int 0)) aNil)) (zZ (fnE qA5 (zZ (cst (.int 0)) aNil)) (zZ qSq aNil)))))))))) (retS (fnE qA5 (zZ (cst (.str "take")) (zZ (fnE qA5 (zZ (op2 ixD (vr 5) (op2 qCd (vr 2) (cst (.int 8)))) aNil)) (zZ (cst (.int 0)) aNil))))))) nxS) (seqS (ifS (tv (op2 eqD (vr 3) (cst (.int 4)))) (retS (fnE qA5 (zZ (cst (.str "widen")) (zZ (fnE qA5 (zZ (fnE F.k56_odd_row (zZ (vr 2) (zZ (fnE qDq (zZ (op2 ixD (vr 0) (cst (.int 1))) aNil)) aNil))) aNil)) (zZ (cst (.int 1)) aNil))))) nxS) (seqS (ifS (andT (tv (op2 eqD (vr 3) (cst (.int 5)))) (tv (op2 eqD (op2 ixD (vr 0) (cst (.int 0))) (cst (.int 0))))) (retS (fnE qA5 (zZ (cst (.str "narrow")) (zZ (fnE qA5 aNil) (zZ (cst (.int 1)) aNil))))) nxS) (seqS (ifS (andT (tv (op2 eqD (vr 3) (cst (.int 5)))) (tv (op2 eqD (op2 ixD (vr 0) (cst (.int 0))) (cst (.int 12))))) (retS (fnE qA5 (zZ (cst (.str "widen")) (zZ (fnE qA5 (zZ (fnE F.k52_row (zZ (vr 2) (zZ (fnE qDq (zZ (op2 ixD (vr 0) (cst (.int 1))) aNil)) aNil))) aNil)) (zZ (cst (.int 1)) aNil))))) nxS) (seqS (ifS (tv (op2 eqD (vr 3) (cst (.int 6)))) (seqS (setS 5 (fnE qA5 (zZ (op2 qGj (op1 qDd (cst (.int 1))) (op2 qCd (op2 qBz (vr 2) (cst (.int 7))) (op2 qGs (cst (.int 10)) (cst (.int 20))))) (zZ (op2 qCb (op2 qCb (vr 1) (cst (.int 1))) (op2 qCd (op2 qBz (vr 2) (cst (.int 7))) (op2 qGs (cst (.int 10)) (cst (.int 20))))) (zZ (cst (.bl false)) (zZ (cst .non) (zZ (cst (.str "0")) (zZ (fnE qA5 (zZ (cst (.int 0)) aNil)) (zZ qSq aNil))))))))) (retS (fnE qA5 (zZ (cst (.str "back")) (zZ (fnE qA5 (zZ (op2 ixD (vr 5) (op2 qCd (vr 2) (cst (.int 7)))) aNil)) (zZ (cst (.int 2)) aNil)))))) nxS) (seqS (setS 5 (fnE qA5 (zZ (op2 qGj (op1 qDd (cst (.int 1))) (op2 qCd (op2 qBz (vr 2) (cst (.int 8))) (op2 qGs (cst (.int 10)) (cst (.int 20))))) (zZ (op2 qCb (cst (.int 13)) (op2 qCd (op2 qBz (vr 2) (cst (.int 8))) (op2 qGs (cst (.int 10)) (cst (.int 20))))) (zZ (cst (.bl true)) (zZ (cst .non) (zZ (cst (.str "3")) (zZ (fnE qBp (zZ (cst (.int 2)) aNil)) (zZ (fnE qA5 (zZ (cst (.int 2)) aNil)) (zZ qSq aNil)))))))))) (retS (fnE qA5 (zZ (cst (.str "plane")) (zZ (fnE qA5 (zZ (op2 ixD (vr 5) (op2 qCd (vr 2) (cst (.int 8)))) aNil)) (zZ (cst (.int 1)) aNil))))))))))))))))
def F.k56_bad : List D -> Sto -> R D := fnF 7 3 Den.k56_bad
def Den.k56_law : DSt :=
 (seqS (setS 1 (op2 qCd (fnE F.k11_cell_at (zZ (vr 0) (zZ (cst (.int 0)) aNil))) (cst (.int 4)))) (seqS (ifS (tv (op2 eqD (op2 qCd (op2 qBz (fnE F.k11_cell_at (zZ (vr 0) (zZ (cst (.int 0)) aNil))) (cst (.int 4))) (cst (.int 4))) (cst (.int 1)))) (setS 1 (cst (.int 12))) nxS) (seqS (setS 2 (mkE "Plane" F.Plane___init__ (zZ (vr 1) aNil))) (seqS (setS 3 (fnE F.k52_fresh (zZ (vr 1) aNil))) (seqS (setS 4 (cst (.int 0))) (seqS (forS (itA qEa (zZ (op2 qCd (fnE F.k11_cell_at (zZ (vr 0) (zZ (cst (.int 1)) aNil))) (cst (.int 6))) aNil)) (setG 5) (seqS (ifS (notT (tv (fnE F.k52_laid (zZ (vr 2) (zZ (vr 3) (zZ (fnE F.k52_mixed (zZ (fnE F.k11_cell_at (zZ (vr 0) (zZ (op2 qCb (cst (.int 2)) (vr 5)) aNil))) (zZ (vr 5) aNil))) (zZ (cst (.bl false)) aNil))))))) (retS (cst (.bl false))) nxS) (setS 4 (op2 qCb (vr 4) (cst (.int 1)))))) (seqS (ifS (tv (op2 gtD (fnE qDq (zZ (op2 ixD (vr 3) (cst (.int 1))) aNil)) (cst (.int 1)))) (seqS (dropS (fnE F.k52_taken (zZ (vr 2) (zZ (vr 3) (zZ (op2 qCd (op2 qBz (fnE F.k11_cell_at (zZ (vr 0) (zZ (cst (.int 1)) aNil))) (cst (.int 6))) (cst (.int 99))) aNil))))) (setS 4 (op2 qCb (vr 4) (cst (.int 1))))) nxS) (seqS (forS (itA qHt (zZ (cst (.int 9)) (zZ (fnE qSl (zZ (cst (.int 49)) (zZ (fnE qSm (zZ (cst (.int 10)) (zZ (fnE qDq (zZ (vr 0) aNil)) aNil))) aNil))) aNil))) (setG 5) (seqS (asgS (fnE F.k56_bad (zZ (vr 3) (zZ (vr 4) (zZ (fnE F.k52_mixed (zZ (fnE F.k11_cell_at (zZ (vr 0) (zZ (vr 5) aNil))) (zZ (vr 5) aNil))) aNil)))) (qSn [(setG 6), (setG 7), (setG 8)])) (seqS (ifS (notT (tv (fnE F.k56_refused (zZ (vr 2) (zZ (vr 6) (zZ (vr 7) (zZ (vr 8) aNil))))))) (retS (cst (.bl false))) nxS) (ifS (orT (notT (tv (fnE F.k52_stands (zZ (vr 2) (zZ (vr 3) aNil))))) (notT (tv (fnE (F.k52_alike 7) (zZ (qAg "Plane" "mark" F.Plane_mark (vr 2) aNil) (zZ (vr 4) aNil)))))) (retS (cst (.bl false))) nxS)))) (seqS (ifS (notT (tv (fnE F.k52_laid (zZ (vr 2) (zZ (vr 3) (zZ (fnE F.k52_mixed (zZ (cst (.int 7)) (zZ (cst (.int 7)) aNil))) (zZ (cst (.bl false)) aNil))))))) (retS (cst (.bl false))) nxS) (seqS (ifS (tv (op2 ltD (vr 1) (cst (.int 12)))) (seqS (dropS (qAg "Plane" "widen" F.Plane_widen (vr 2) (zZ (fnE F.k52_row (zZ (cst (.int 11)) (zZ (fnE qDq (zZ (op2 ixD (vr 3) (cst (.int 1))) aNil)) aNil))) aNil))) (retS (andV (fnE (F.k52_alike 7) (zZ (qAg "Plane" "width" F.Plane_width (vr 2) aNil) (zZ (op2 qCb (vr 1) (cst (.int 1))) aNil))) (fnE (F.k52_alike 7) (zZ (qAg "Plane" "mark" F.Plane_mark (vr 2) aNil) (zZ (op2 qCb (vr 4) (cst (.int 2))) aNil)))))) nxS) (retS (fnE F.k52_stands (zZ (vr 2) (zZ (vr 3) aNil))))))))))))))
def F.k56_law : List D -> Sto -> R D := fnF 9 1 Den.k56_law
end
end
section
namespace Np
open PySem
def qAo (r : Rat) : D := .tup [.int r.num, .int (r.den : Int)]
def qSd : D -> Option Rat
 | .tup [.int n, .int d] => if (jC7 n d).num = n /\ ((jC7 n d).den : Int) = d then some (jC7 n d) else none
 | _ => none
@[simp] theorem qKd (r : Rat) : qSd (qAo r) = some r := by
 have h : jC7 r.num (r.den : Int) = r := Rat.num_divInt_den r
 simp [qSd, qAo, h]
def Le (n : Nat) (r : Rat) : Prop := r.num.natAbs < 2 ^ n /\ r.den < 2 ^ n
theorem Le.mono {m n : Nat} {r : Rat} (h : Le m r) (k : m <= n) : Le n r := by
 have : 2 ^ m <= 2 ^ n := jC8 (by decide) k
 exact ⟨jAd h.1 this, jAd h.2 this⟩
theorem qEn {n k : Nat} (h : k < 2 ^ n) : k.log2 <= n := by
 rcases Nat.eq_zero_or_pos k with z | z
 ·subst z; simp
 ·exact jAl ((Nat.log2_lt (jAw z)).mpr h)
theorem Le.num {n : Nat} {r : Rat} (h : Le n r) : r.num.natAbs.log2 <= n := qEn h.1
theorem Le.den {n : Nat} {r : Rat} (h : Le n r) : ((r.den : Int)).natAbs.log2 <= n := by
 rw [jC9]; exact qEn h.2
theorem qFp (a b : Int) : (jC7 a b).num.natAbs <= a.natAbs := by
 rw [Rat.num_divInt]
 by_cases hb : b = 0
 ·subst hb; simp
 ·have e : (b.sign * a / (b.gcd a : Int)).natAbs <= (b.sign * a).natAbs := by
   rw [Int.natAbs_ediv_of_dvd]
   ·exact Nat.div_le_self _ _
   ·exact Int.dvd_mul_of_dvd_right (Int.gcd_dvd_right ..)
  refine jAk e ?_
  rw [jDa, Int.natAbs_sign_of_ne_zero hb, Nat.one_mul]
  exact jAy _
theorem qF0 {a b : Int} (hb : b ≠ 0) : (jC7 a b).den <= b.natAbs := by
 rw [Rat.den_divInt, if_neg hb]
 exact Nat.div_le_self _ _
theorem Le.divInt {n : Nat} {a b : Int} (hb : b ≠ 0) (h1 : a.natAbs < 2 ^ n) (h2 : b.natAbs < 2 ^ n) : Le n (jC7 a b) :=
 ⟨jCn (qFp a b) h1, jCn (qF0 hb) h2⟩
theorem qC7 (r : Rat) : (0 : Int) < r.den := by have := r.den_pos; omega
theorem qFh (a b : Rat) : a + b = jC7 (a.num * b.den + b.num * a.den) (a.den * b.den) := by
 rw [Rat.add_def', <- Rat.divInt_ofNat]
 norm_cast
theorem qR7 (a b : Rat) : (a.den : Int) * b.den ≠ 0 := Int.mul_ne_zero (by have := qC7 a; omega) (by have := qC7 b; omega)
theorem qDe {x y m n : Nat} (h1 : x < 2 ^ m) (h2 : y < 2 ^ n) : x * y < 2 ^ (m + n) := by
 rw [Nat.pow_add]
 exact Nat.mul_lt_mul'' h1 h2
theorem Le.add {m n : Nat} {a b : Rat} (ha : Le m a) (hb : Le n b) : Le (m + n + 1) (a + b) := by
 rw [qFh]
 refine Le.divInt (qR7 a b) ?_ ?_
 ·have h1 : (a.num * (b.den : Int)).natAbs < 2 ^ (m + n) := by rw [jDa, jC9]; exact qDe ha.1 hb.2
  have h2 : (b.num * (a.den : Int)).natAbs < 2 ^ (m + n) := by rw [jDa, jC9, Nat.add_comm]; exact qDe hb.1 ha.2
  have h3 := Int.natAbs_add_le (a.num * (b.den : Int)) (b.num * (a.den : Int))
  rw [Nat.pow_succ]
  omega
 ·rw [jDa, jC9, jC9]
  exact jCo (qDe ha.2 hb.2) (Nat.pow_lt_pow_right (by decide) (jBj _))
def sm (r : Rat) : Prop := r.num.natAbs.log2 <= 40000000 /\ r.den.log2 <= 40000000
theorem Le.sm {n : Nat} {r : Rat} (h : Le n r) (k : n <= 40000000) : sm r := ⟨jAk (qEn h.1) k, jAk (qEn h.2) k⟩
theorem W_fnF {n k : Nat} {g : DSt} {ds : List D} {S : Sto} {Q : D -> Sto -> Prop} (h : ds.length = k) (q : W (qRm (g (startD n ds) S)) Q) : W (fnF n k g ds S) Q := by unfold fnF; rw [if_pos h, qM9]; exact q
theorem qC3 (n : Nat) (S : Sto) (i : Int) : rd n S (.int i) = some (.int i) := by cases n <;> rfl
theorem qQj (n : Nat) (S : Sto) (b : Bool) : rd n S (.bl b) = some (.bl b) := by cases n <;> rfl
theorem eqD_int (i j : Int) (S : Sto) : eqD (.int i) (.int j) S = ok (.bl (decide (i = j))) S := by
 unfold eqD; rw [qC3, qC3]; rfl
theorem neD_int (i j : Int) (S : Sto) : neD (.int i) (.int j) S = ok (.bl (!decide (i = j))) S := by
 unfold neD; rw [qC3, qC3]; rfl
theorem eqD_bl (i j : Bool) (S : Sto) : eqD (.bl i) (.bl j) S = ok (.bl (i == j)) S := by
 unfold eqD; rw [qQj, qQj]; rfl
def qGq (q : Rat) : T := .tup [.int q.num, .int q.den]
theorem qGo (n : Nat) (S : Sto) (q : Rat) : rd (n + 1) S (qAo q) = some (qGq q) := by
 simp [rd, rdl, qAo, qGq, qC3]
theorem qQl {p q : Rat} (h1 : p.num = q.num) (h2 : (p.den : Int) = q.den) : p = q := Rat.ext h1 (by omega)
theorem qId (p q : Rat) : eqT (qGq p) (qGq q) = decide (p = q) := by
 simp only [qGq, eqT, qEx, Bool.and_true]
 by_cases h : p = q
 ·subst h; simp
 ·rw [decide_eq_false h]
  by_cases h1 : p.num = q.num
  ·have h2 : ¬ (p.den : Int) = q.den := λ h2 => h (qQl h1 h2)
   simp [h1]
   exact λ h3 => h2 h3
  ·simp [h1]
theorem eqD_rat (p q : Rat) (S : Sto) : eqD (qAo p) (qAo q) S = ok (.bl (decide (p = q))) S := by
 unfold eqD; rw [qGo, qGo]
 show ok (D.bl (eqT (qGq p) (qGq q))) S = _
 rw [qId]
theorem neD_rat (p q : Rat) (S : Sto) : neD (qAo p) (qAo q) S = ok (.bl (!decide (p = q))) S := by
 unfold neD; rw [qGo, qGo]
 show ok (D.bl (!eqT (qGq p) (qGq q))) S = _
 rw [qId]
theorem rat0 : D.tup [.int 0, .int 1] = qAo 0 := rfl
theorem rat1 : D.tup [.int 1, .int 1] = qAo 1 := rfl
theorem tup2 (x y : D) (S : Sto) : qBp [x, y] S = ok (.tup [x, y]) S := rfl
theorem qFn {f : D -> Option T} {α : Type} (g : α -> D) (h : α -> T) (hf : ∀ x, f (g x) = some (h x)) : ∀ xs : List α, rdl f (xs.map g) = some (xs.map h)
 | [] => rfl
 | x :: xs => by simp [rdl, hf, qFn g h hf xs]
theorem qI7 : ∀ xs ys : List Rat, qEx (xs.map qGq) (ys.map qGq) = decide (xs = ys)
 | [], [] => by simp [qEx]
 | [], _ :: _ => by simp [qEx]
 | _ :: _, [] => by simp [qEx]
 | x :: xs, y :: ys => by
  simp only [jBf, qEx, qId, qI7 xs ys, List.cons.injEq]
  by_cases h1 : x = y <;> by_cases h2 : xs = ys <;> simp [h1, h2]
abbrev qBu (S : Sto) (a : Nat) (xs : List Rat) : Prop := zH S a = some (xs.map qAo)
theorem qPj {S : Sto} {a : Nat} {xs : List Rat} (n : Nat) (h : qBu S a xs) : rd (n + 2) S (.ref a) = some (.lst (xs.map qGq)) := by
 show (match zH S a with | some ds => (rdl (rd (n + 1) S) ds).map T.lst | none => none) = _
 rw [h]
 show (rdl (rd (n + 1) S) (xs.map qAo)).map T.lst = _
 rw [qFn qAo qGq (qGo n S)]
 rfl
theorem qRu {S : Sto} {a b : Nat} {xs ys : List Rat} (ha : qBu S a xs) (hb : qBu S b ys) : neD (.ref a) (.ref b) S = ok (.bl (!decide (xs = ys))) S := by
 unfold neD; rw [qPj 7 ha, qPj 7 hb]
 show ok (D.bl (!qEx (xs.map qGq) (ys.map qGq))) S = _
 rw [qI7]
theorem addD_int (i j : Int) (S : Sto) : qCb (.int i) (.int j) S = ok (.int (i + j)) S := rfl
theorem subD_int (i j : Int) (S : Sto) : qGj (.int i) (.int j) S = ok (.int (i - j)) S := rfl
theorem negD_int (i : Int) (S : Sto) : qDd (.int i) S = ok (.int (-i)) S := rfl
theorem absD_int (i : Int) (S : Sto) : qSt [.int i] S = ok (.int (if i < 0 then -i else i)) S := rfl
theorem ltD_int (i j : Int) (S : Sto) : ltD (.int i) (.int j) S = ok (.bl (decide (i < j))) S := rfl
theorem leD_int (i j : Int) (S : Sto) : leD (.int i) (.int j) S = ok (.bl (decide (i <= j))) S := rfl
theorem gtD_int (i j : Int) (S : Sto) : gtD (.int i) (.int j) S = ok (.bl (decide (j < i))) S := rfl
theorem geD_int (i j : Int) (S : Sto) : geD (.int i) (.int j) S = ok (.bl (decide (j <= i))) S := rfl
theorem qAj {i j : Int} (h : j ≠ 0) (S : Sto) : qBz (.int i) (.int j) S = ok (.int (i.fdiv j)) S := by show (if _ then _ else _) = _; rw [if_neg h]
theorem qAc {i j : Int} (h : j ≠ 0) (S : Sto) : qCd (.int i) (.int j) S = ok (.int (i.fmod j)) S := by show (if _ then _ else _) = _; rw [if_neg h]
theorem qAw {i j : Int} (h : i.natAbs.log2 + j.natAbs.log2 <= 100000000) (S : Sto) : qGx (.int i) (.int j) S = ok (.int (i * j)) S := by
 show (if _ then _ else _) = _
 rw [if_pos h]
theorem atPK_int (i : Int) (S : Sto) : qYp (.int i) S = ok (some i) S := rfl
theorem isND_non (x : D) (S : Sto) : qOx x .non S = ok (.bl (qBs x)) S := rfl
theorem isNND_non (x : D) (S : Sto) : qX0 x .non S = ok (.bl (!qBs x)) S := rfl
theorem noneB_non : qBs .non = true := rfl
theorem noneB_ref (a : Nat) : qBs (.ref a) = false := rfl
theorem noneB_tup (a : List D) : qBs (.tup a) = false := rfl
theorem noneB_int (a : Int) : qBs (.int a) = false := rfl
theorem noneB_rat (a : Rat) : qBs (qAo a) = false := rfl
theorem isi_int_int (i : Int) (S : Sto) : qCh .int (.int i) S = ok (.bl true) S := rfl
theorem isi_bool_int (i : Int) (S : Sto) : qCh .bool (.int i) S = ok (.bl false) S := rfl
theorem isi_bool_bl (i : Bool) (S : Sto) : qCh .bool (.bl i) S = ok (.bl true) S := rfl
theorem isi_tup_rat (p : Rat) (S : Sto) : qCh .tup (qAo p) S = ok (.bl true) S := rfl
theorem isi_tup_tup (p : List D) (S : Sto) : qCh .tup (.tup p) S = ok (.bl true) S := rfl
theorem qBl {S : Sto} {a : Nat} {xs : List D} (h : zH S a = some xs) : qCh .lst (.ref a) S = ok (.bl true) S := by
 unfold zH at h
 split at h
 ·rename_i e
  show (match (match S[a]? with | some (.lst _) => some true | some (.dct _) => some false | _ => none) with | some b => ok (D.bl b) S | none => none) = _
  rw [e]
 ·cases h
theorem qAi {S : Sto} {a : Nat} {xs : List D} (h : zH S a = some xs) : qDq [.ref a] S = ok (.int xs.length) S := by
 show qVb (zH S a) S = _
 rw [h]; rfl
theorem lenD_rat (p : Rat) (S : Sto) : qDq [qAo p] S = ok (.int 2) S := rfl
theorem lenD_tup (xs : List D) (S : Sto) : qDq [.tup xs] S = ok (.int xs.length) S := rfl
theorem lenD_scr (xs : List D) (S : Sto) : qDq [.scr xs] S = ok (.int xs.length) S := rfl
theorem qFt {n i : Nat} (h : i < n) : ixA n (i : Int) = some i := by
 unfold ixA
 rw [if_pos (by omega), if_pos (by omega)]
 rfl
theorem qAf {S : Sto} {a i : Nat} {xs : List D} {d : D} (h : zH S a = some xs) (hi : xs[i]? = some d) : ixD (.ref a) (.int i) S = ok d S := by
 have hl : i < xs.length := (jAs.mp hi).1
 show ixK (zH S a) i S = _
 rw [h]
 unfold ixK
 simp only [qFt hl, jDb, hi]
theorem qRz {S : Sto} {i : Nat} {xs : List D} {d : D} (hi : xs[i]? = some d) : ixD (.scr xs) (.int i) S = ok d S := by
 have hl : i < xs.length := (jAs.mp hi).1
 show ixK (some xs) i S = _
 unfold ixK
 simp only [qFt hl, jDb, hi]
theorem ix0 (p : Rat) (S : Sto) : ixD (qAo p) (.int 0) S = ok (.int p.num) S := rfl
theorem ix1 (p : Rat) (S : Sto) : ixD (qAo p) (.int 1) S = ok (.int p.den) S := rfl
theorem qCv {S : Sto} {a : Nat} {xs : List D} (h : zH S a = some xs) : itL (.ref a) S = ok (.one a) S := by
 show (match zH S a with | some _ => ok (Src.one a) S | none => none) = _
 rw [h]
theorem itL_scr (xs : List D) (S : Sto) : itL (.scr xs) S = ok (.fix xs) S := rfl
theorem qC4 {S : Sto} {a : Nat} {xs : List D} (h : zH S a = some xs) : qOt [.ref a] S = ok (.ref S.length) (S ++ [.lst xs]) := by
 show (match zH S a with | some xs => qJ2 (.lst xs) S | none => none) = _
 rw [h]; rfl
theorem qF4 {S : Sto} {a : Nat} {xs : List D} (d : D) (h : zH S a = some xs) (hl : xs.length < 1000000) : qFg (.ref a) d S = ok .non (S.set a (.lst (xs ++ [d]))) := by
 show (match zH S a with | some xs => _ | none => none) = _
 rw [h]
 show (if _ then _ else _) = _
 rw [if_pos hl]
theorem qBf {S : Sto} {a : Nat} {xs : List D} (h : zH S a = some xs) (f : D -> D -> Sto -> R D) (b : DE) (δ : DS) : qWk f b δ (.ref a) S = bnd (b δ S) (f (.ref a)) := by
 unfold qWk isL
 simp only [h, jCl, if_true]
theorem sm.nd {a b : Rat} (ha : sm a) (hb : sm b) : a.num.natAbs.log2 + ((b.den : Int)).natAbs.log2 <= 100000000 := by have := ha.1; have := hb.2; rw [jC9]; omega
theorem sm.dd {a b : Rat} (ha : sm a) (hb : sm b) : ((a.den : Int)).natAbs.log2 + ((b.den : Int)).natAbs.log2 <= 100000000 := by have := ha.2; have := hb.2; rw [jC9, jC9]; omega
end Np
end
local macro_rules
  | `(tactic| simp_all [$xs,*]) => do
    let ys : Lean.Syntax.TSepArray [`Lean.Parser.Tactic.simpStar, `Lean.Parser.Tactic.simpErase, `Lean.Parser.Tactic.simpLemma] "," := ⟨xs.elemsAndSeps⟩
    `(tactic| simp only [Np.ifK_t, Np.ifK_f, Np.ifEK_t, Np.ifEK_f, Np.andTK_t, Np.andTK_f, Np.orTK_t, Np.orTK_f, Np.andVB_t, Np.andVB_f, Np.orVB_t, Np.orVB_f, Np.chnB_t, Np.chnB_f, Np.W_bnd, Np.W_ok, Np.W_outF, Np.outQ, Np.seqS, Np.asgS, Np.asgK, Np.setS, Np.setG, Np.retS, Np.retK, Np.ifS, Np.dropS, Np.dropK, Np.nxS, Np.seqK_nx, Np.seqK_rt, Np.vr, Np.cst, Np.op1, Np.op2, Np.op2K, Np.opM, Np.opM3, Np.op3, Np.op3J, Np.op3K, Np.op3K2, Np.fnE, Np.fnD, Np.zZ, Np.aConsK, Np.consK, Np.aNil, Np.tv, Np.truV_bl,
  Np.andT, Np.orT, Np.notT, Np.notK, Np.andV, Np.andVK, Np.orV, Np.orVK, Np.notV, Np.notVK, Np.notVB, Np.ifE, Np.chn, Np.chnK, Np.chnK2, Np.chnT, Np.parS, Np.parK, Np.parK2, Np.tupGs, Np.bnd_ok, Np.itE, Np.itA, Np.forS, Np.cntS, Np.brkS,
  Np.startD, jBf, jCc, jBa, jCr, jBq, jDc, jCb, jC0, jCg, List.set_cons_zero, List.set_cons_succ, jDd, Nat.reduceSub, Nat.zero_add,
  Np.addD_int, Np.subD_int, Np.negD_int, Np.absD_int, Np.ltD_int, Np.leD_int, Np.gtD_int, Np.geD_int, Np.isi_int_int, Np.isi_bool_int, Np.isi_bool_bl, Np.isi_tup_rat, Np.isi_tup_tup, Np.isND_non, Np.isNND_non, Np.noneB_non, Np.noneB_ref, Np.noneB_tup, Np.noneB_int, Np.noneB_rat, Np.eqD_int, Np.neD_int, Np.eqD_bl, Np.eqD_rat, Np.neD_rat, Np.tup2, Np.rat0, Np.rat1, Np.slE, Np.slK, Np.slK1, Np.slK2, Np.noP, Np.atP, Np.atPK_int,
  Np.lenD_rat, Np.lenD_tup, Np.lenD_scr, Np.ix0, Np.ix1, Np.itL_scr,
  decide_true, decide_false, Bool.not_true, Bool.not_false, Bool.not_not, decide_eq_true_eq, Bool.not_eq_true', decide_eq_false_iff_not, Bool.false_eq_true, if_true, if_false, Bool.not_eq_eq_eq_not, reduceIte, reduceCtorEq, ne_eq, not_true_eq_false, not_false_eq_true, and_self, $ys,*])
section
namespace Nm
open Np PySem
theorem qI6 (hb : 0 < b) (ha : 0 <= a) : 0 <= a.fmod b /\ a.fmod b < b /\ jDe b (a.fmod b) = jDe a b := by
 rw [jDf a (by omega)]
 refine ⟨Int.emod_nonneg _ (by omega), Int.emod_lt_of_pos _ hb, ?_⟩
 obtain ⟨x, rfl⟩ := jDg ha
 obtain ⟨y, rfl⟩ := jDg (Int.le_of_lt hb)
 rw [<- Int.natCast_emod, jDh, jDh, Nat.gcd_comm y, <- Nat.gcd_rec, Nat.gcd_comm]
theorem qEy (h : W m λ b S' => b = a /\ S' = S) : m = ok a S := by
 obtain ⟨b, S', e, rfl, rfl⟩ := h.out
 exact e
theorem qBo (ha : 0 <= a) (hb : 0 <= b) (S : Sto) : F.greatest_common [.int a, .int b] S = ok (.int (jDe a b)) S := by
 refine qEy ?_
 (unfold F.greatest_common; refine Np.W_fnF rfl ?_; unfold Den.greatest_common; simp_all [])
 refine qJh (λ δ S' => S' = S /\ ∃ x y o, δ = [some (.int a), some (.int b), some (.int x), some (.int y), o] /\ 0 <= x /\ 0 <= y /\ jDe x y = jDe a b) (λ δ _ => match δ with | [_, _, _, some (.int y), _] => y.natAbs | _ => 0) ⟨rfl, a, b, none, rfl, ha, hb, rfl⟩ ?_
 rintro δ S' ⟨rfl, x, y, o, rfl, hx, hy, hg⟩
 simp_all []
 by_cases h0 : y = 0
 ·subst h0
  simp_all []
  rw [<- hg]
  simp
  omega
 ·rw [if_pos h0]
  obtain ⟨h1, h2, h3⟩ := qI6 (a := x) (b := y) (by omega) hx
  simp_all [qAc h0]
  simp only [qH5]
  refine ⟨⟨trivial, y, x.fmod y, _, rfl, hy, h1, by rw [h3, hg]⟩, by omega⟩
theorem qCp {a b : Int} (h : b ∣ a) (hb : b ≠ 0) : a.fdiv b = a / b := by
 obtain ⟨c, rfl⟩ := h
 rw [Int.mul_fdiv_cancel_left _ hb, Int.mul_ediv_cancel_left _ hb]
theorem qHv {a b : Int} (hb : b ≠ 0) : ∀ c : Int, c = (if b < 0 then -((jDe b a : Nat) : Int) else ((jDe b a : Nat) : Int)) -> c ≠ 0 /\ a.fdiv c = (jC7 a b).num /\ b.fdiv c = ((jC7 a b).den : Int) := by
 intro c hc
 have g0 : jDe b a ≠ 0 := λ z => hb (Int.eq_zero_of_gcd_eq_zero_left z)
 have g1 : ((jDe b a : Nat) : Int) ∣ a := Int.gcd_dvd_right ..
 have g2 : ((jDe b a : Nat) : Int) ∣ b := Int.gcd_dvd_left ..
 have g3 : ((jDe b a : Nat) : Int) ≠ 0 := by omega
 rw [Rat.num_divInt, Rat.den_divInt, if_neg hb]
 split at hc
 ·rename_i hn
  subst hc
  refine ⟨by omega, ?_, ?_⟩
  ·rw [qCp (Int.neg_dvd.mpr g1) (by omega), Int.ediv_neg, Int.sign_eq_neg_one_of_neg hn, Int.neg_one_mul, Int.neg_ediv_of_dvd g1]
  ·rw [qCp (Int.neg_dvd.mpr g2) (by omega), Int.ediv_neg, Int.natCast_ediv, Int.ofNat_natAbs_of_nonpos (by omega), Int.neg_ediv_of_dvd g2]
 ·rename_i hn
  subst hc
  refine ⟨g3, ?_, ?_⟩
  ·rw [qCp g1 g3, Int.sign_eq_one_of_pos (by omega), Int.one_mul]
  ·rw [qCp g2 g3, Int.natCast_ediv, Int.natAbs_of_nonneg (by omega)]
theorem qDk (a : Int) : 0 <= (if a < 0 then -a else a) := by split <;> omega
def Has (src : Src) (S : Sto) (xs : List D) : Prop := xs.length <= src.len S /\ ∀ i, src.get S i = some xs[i]?
theorem Has.fix (xs : List D) (S : Sto) : Has (.fix xs) S xs := ⟨jAy _, λ _ => rfl⟩
theorem qMl (h : zH S a = some xs) (i : Nat) : (Src.one a).get S i = some xs[i]? := by
 show (match zH S a with | some xs => some xs[i]? | none => none) = _
 rw [h]
theorem qB6 (h : zH S a = some xs) : (Src.one a).len S = xs.length := by
 show (match zH S a with | some xs => xs.length | none => 0) = _
 rw [h]
theorem Has.one (h : zH S a = some xs) : Has (.one a) S xs := ⟨by rw [qB6 h]; exact jAy _, qMl h⟩
def qBj (xs ys : List D) : List D := jDi (λ x y => .tup [x, y]) xs ys
theorem qMk (h : zH S a = some xs) (k : zH S b = some ys) (i : Nat) : (Src.two a b).get S i = some (qBj xs ys)[i]? := by
 show (match zH S a, zH S b with | some xs, some ys => some (qP7 xs[i]? ys[i]?) | _, _ => none) = _
 rw [h, k]
 show some (qP7 xs[i]? ys[i]?) = _
 unfold qBj
 rw [jDj]
 cases xs[i]? <;> cases ys[i]? <;> rfl
theorem qFr (h : zH S a = some xs) : (Src.two a b).len S = xs.length := by
 show (match zH S a with | some xs => xs.length | none => 0) = _
 rw [h]
theorem qGc (h : zH S a = some xs) (k : zH S b = some ys) : qGd [.ref a, .ref b] S = ok (.two a b) S := by
 show (match zH S a, zH S b with | some _, some _ => ok (Src.two a b) S | _, _ => none) = _
 rw [h, k]
theorem qC2 {n : Nat} (h : n < 1000000) (S : Sto) : qEa [.int n] S = ok (.fix (qB7 0 n)) S := by
 have hlim := qI1
 simp only [qEa]
 rw [if_pos (by omega)]
 rfl
theorem qEt : ∀ (n : Nat) (lo : Nat), qB7 lo n = (jDk lo n).map λ i => D.int (i : Nat)
 | 0, _ => rfl
 | n + 1, lo => by
  have := qEt n (lo + 1)
  simp only [List.range'_succ, jBf, qB7]
  rw [<- this]
  rfl
theorem qCn (n : Nat) : qB7 0 n = (jAg n).map λ i => D.int (i : Nat) := by
 have := qEt n 0
 rw [List.range_eq_range']
 exact this
theorem qC8 (vals : D -> List (Option D)) (hg : Tg g k vals base P) (hit : it base S = ok src S) (hs : Has src S xs) (hl : src.len S <= 1000000) (hP : ∀ x ∈ xs, P x)
  (step : ∀ x ∈ xs, e (base ++ vals x) S = ok (f x) S) : qA1 it k g e base S = ok (.ref S.length) (S ++ [.lst (xs.map f)]) := by
 refine qEy ?_
 refine qF9 vals xs (λ i acc S' => S' = S /\ acc = (xs.take i).map f) P hP hg ?_ ?_ ?_
 ·rw [hit, W_ok]
  exact ⟨hs.1, hl, ⟨rfl, rfl⟩, λ i acc S' ⟨h, _⟩ => by rw [h]; exact hs.2 i⟩
 ·rintro i x acc S' hx ha ⟨rfl, he⟩
  rw [step x (jBz hx), W_ok]
  refine ⟨rfl, ?_⟩
  rw [he, jDl, hx]
  simp
 ·rintro acc S' ⟨rfl, he⟩ _
  rw [he, jDm]
  exact ⟨rfl, rfl⟩
theorem qNa (vals : D -> List (Option D)) (xs : List D) (Rl : D -> D -> Prop) (P : D -> Prop) (hg : Tg g k vals base P) (hP : ∀ x ∈ xs, P x)
  (hit : W (it base S) λ src S' => xs.length <= src.len S' /\ src.len S' <= 1000000 /\ SLe S S' /\ ∀ i S'', SLe S' S'' -> src.get S'' i = some xs[i]?)
  (step : ∀ x S', x ∈ xs -> SLe S S' -> W (e (base ++ vals x) S') λ d S'' => Rl x d /\ SLe S' S'')
  (fin : ∀ ds S', SLe S S' -> ds.length = xs.length -> (∀ (i : Nat) x d, xs[i]? = some x -> ds[i]? = some d -> Rl x d) -> Q (.ref S'.length) (S' ++ [.lst ds])) : W (qA1 it k g e base S) Q := by
 obtain ⟨src, S0, e0, h1, h2, h3, h4⟩ := hit.out
 refine qF9 vals xs (λ i acc S' => SLe S0 S' /\ acc.length = i /\ ∀ (j : Nat) x d, xs[j]? = some x -> acc[j]? = some d -> Rl x d) P hP hg ?_ ?_ ?_
 ·rw [e0, W_ok]
  exact ⟨h1, h2, ⟨SLe.rfl, rfl, λ j x d _ h => by simp at h⟩, λ i acc S'' h => h4 i S'' h.1⟩
 ·intro i x acc S' hx ha ⟨hS, _, he⟩
  refine (step x S' (jBz hx) (h3.trans hS)).mono λ d S'' ⟨h1, h2⟩ => ⟨hS.trans h2, by simp [ha], λ j y d' hy hd => ?_⟩
  by_cases hj : j < acc.length
  ·rw [jBx hj] at hd
   exact he j y d' hy hd
  ·rw [jBv (by omega)] at hd
   have : j = i := by
    have := (jAs.mp hd).1
    simp at this
    omega
   subst this
   rw [hx] at hy
   cases hy
   rw [<- ha] at hd
   simp at hd
   rw [<- hd]
   exact h1
 ·intro acc S' ⟨hS, hl, he⟩ hl'
  exact fin acc S' (h3.trans hS) hl' he
theorem qEj (h : z ∈ qBj xs ys) : ∃ p q, z = .tup [p, q] := by
 unfold qBj at h
 obtain ⟨i, hi, rfl⟩ := jDn h
 rw [List.getElem_zipWith]
 exact ⟨_, _, rfl⟩
noncomputable def on1 (g : Rat -> D) (d : D) : D := match qSd d with
 | some a => g a
 | none => .non
theorem qPt (g : Rat -> D) (p : Rat) : on1 g (qAo p) = g p := by unfold on1; rw [qKd]
theorem qRv (g : Rat -> D) (xs : List Rat) : (xs.map qAo).map (on1 g) = xs.map g := by
 rw [jCh]
 exact List.map_congr_left λ x _ => qPt g x
theorem qO3 (hit : it base S = ok (.one a) S) (ha : qBu S a xs) (hl : xs.length <= 1000000) (he : ∀ x ∈ xs, e (base ++ [some (qAo x)]) S = ok (g x) S) :
  qA1 it 1 (setG base.length) e base S = ok (.ref S.length) (S ++ [.lst (xs.map g)]) := by
 rw [qC8 _ (qDm base) hit (Has.one ha) (by rw [qB6 ha, jBh]; exact hl) (λ _ _ => trivial) (f := on1 g) λ x hx => by
  obtain ⟨q, hq, rfl⟩ := jCe.mp hx
  rw [qPt]
  exact he q hq]
 rw [qRv]
theorem qF5 (p : α -> Bool) : ∀ xs : List α, qKk (xs.map λ x => D.bl (p x)) = some (xs.all p)
 | [] => rfl
 | x :: xs => by
  rw [jBf, List.all_cons]
  show (match qKk (xs.map λ x => D.bl (p x)) with | some c => some (p x && c) | none => none) = _
  rw [qF5 p xs]
theorem qD3 (h : zH S a = some xs) (hb : qKk xs = some b) : qSs [.ref a] S = ok (.bl b) S := by
 show (match zH S a with | some xs => (match qKk xs with | some b => ok (D.bl b) S | none => none) | none => none) = _
 rw [h]
 show (match qKk xs with | some b => ok (D.bl b) S | none => none) = _
 rw [hb]
theorem qHx (h : (0 <= j /\ j <= 1000) /\ a.natAbs < 1000000) (S : Sto) : qGs (.int a) (.int j) S = ok (.int (a ^ j.toNat)) S := by
 simp only [qGs]
 rw [if_pos h]
theorem qUq (S : Sto) : qGs (.int 10) (.int 20) S = ok (.int (10 ^ 20)) S := qHx (by decide) S
theorem qD5 (i : Int) (S : Sto) : F.k02_whole [.int i] S = ok (.bl true) S := by
 refine qEy ?_
 (unfold F.k02_whole; refine Np.W_fnF rfl ?_; unfold Den.k02_whole; simp_all [])
theorem qFx (a b : Int) : jDe (if a < 0 then -a else a) b = jDe a b := by
 split
 ·unfold jDe; rw [Int.natAbs_neg]
 ·rfl
theorem qIb (r : Rat) : jDe r.num (r.den : Int) = 1 := r.reduced
theorem qX6 (i : Int) (h0 : 0 <= i) (h8 : i < 8) (h : zH S a = some [.int 1, .int 1, .int 1, .int 2, .int 3, .int 4, .int 6, .int 12]) : ∃ c : Int, 1 <= c /\ c <= 12 /\ ixD (.ref a) (.int i) S = ok (.int c) S := by
 have : i = 0 \/ i = 1 \/ i = 2 \/ i = 3 \/ i = 4 \/ i = 5 \/ i = 6 \/ i = 7 := by omega
 rcases this with rfl | rfl | rfl | rfl | rfl | rfl | rfl | rfl
 ·exact ⟨1, by decide, by decide, qAf (i := 0) h rfl⟩
 ·exact ⟨1, by decide, by decide, qAf (i := 1) h rfl⟩
 ·exact ⟨1, by decide, by decide, qAf (i := 2) h rfl⟩
 ·exact ⟨2, by decide, by decide, qAf (i := 3) h rfl⟩
 ·exact ⟨3, by decide, by decide, qAf (i := 4) h rfl⟩
 ·exact ⟨4, by decide, by decide, qAf (i := 5) h rfl⟩
 ·exact ⟨6, by decide, by decide, qAf (i := 6) h rfl⟩
 ·exact ⟨12, by decide, by decide, qAf (i := 7) h rfl⟩
theorem qAh (h : ds.length <= 1000) (S : Sto) : qA5 ds S = ok (.ref S.length) (S ++ [.lst ds]) := by
 unfold qA5; rw [if_pos h]; rfl
theorem Le.divInt' (hb : 0 < b) (h1 : a.natAbs < 2 ^ n) (h2 : b.natAbs < 2 ^ n) : Le n (jC7 a b) := Le.divInt (by omega) h1 h2
theorem qAm (a : Int) (hb : 0 < b) : 0 <= a.fmod b /\ a.fmod b < b := by
 rw [jDf a (by omega)]
 exact ⟨Int.emod_nonneg _ (by omega), Int.emod_lt_of_pos _ hb⟩
def Scr (ns : List Int) : Prop := ns.length <= 63 /\ ∀ z ∈ ns, z.natAbs.log2 < 1048577
theorem qA8 {m : R D} {S : Sto} {xs : List D} {Q : D -> Sto -> Prop} (h : m = ok (.ref S.length) (S ++ [.lst xs])) (k : ∀ S' b, SLe S S' -> S.length <= b -> zH S' b = some xs -> Q (.ref b) S') : W m Q :=
 W.intro h (k _ _ (SLe.app _) (jAy _) (qAb S xs))
theorem qWa (h : zH S b = some xs) (hl : xs.length < 1000000) (k : ∀ S', S'.length = S.length -> (∀ S0, SLe S0 S -> S0.length <= b -> SLe S0 S') -> (∀ c, c ≠ b -> zH S' c = zH S c) -> zH S' b = some (xs ++ [d]) -> Q .non S') : W (qFg (.ref b) d S) Q := by
 refine W.intro (qF4 d h hl) (k _ (by simp) (λ S0 l hb => l.set hb _) (λ c hc => qDp (Ne.symm hc)) (qBy h))
theorem qQe (h : zH S a = some xs) (lo hi : Option Int) : slD (.ref a) lo hi S = ok (.ref S.length) (S ++ [.lst (qIf xs lo hi)]) := by
 show (match zH S a with | some xs => qJ2 (.lst (qIf xs lo hi)) S | none => none) = _
 rw [h]; rfl
theorem qBr (h : zH S a = some xs) (hi : xs[0]? = some d) : ixD (.ref a) (.int 0) S = ok d S := qAf (i := 0) h hi
theorem qA7 (h : zH S a = some xs) (hi : xs[1]? = some d) : ixD (.ref a) (.int 1) S = ok d S := qAf (i := 1) h hi
def qWo (S : Sto) (a : Nat) (as : List Nat) (T : List (List Rat)) : Prop := zH S a = some (as.map D.ref) /\ as.length = T.length /\ ∀ (i b : Nat) r, as[i]? = some b -> T[i]? = some r -> qBu S b r
theorem qR8 (vals : D -> List (Option D)) (hg : Tg g k vals base P) (hit : it base S = ok src S) (hs : Has src S xs) (hl : src.len S <= 1000000) (hP : ∀ x ∈ xs, P x) (hz : zs.length = xs.length)
  (step : ∀ (i : Nat) x z, xs[i]? = some x -> zs[i]? = some z -> e (base ++ vals x) S = ok z S) : qA1 it k g e base S = ok (.ref S.length) (S ++ [.lst zs]) := by
 refine qEy ?_
 refine qF9 vals xs (λ i acc S' => S' = S /\ acc = zs.take i) P hP hg ?_ ?_ ?_
 ·rw [hit, W_ok]
  exact ⟨hs.1, hl, ⟨rfl, rfl⟩, λ i acc S' ⟨h, _⟩ => by rw [h]; exact hs.2 i⟩
 ·rintro i x acc S' hx ha ⟨rfl, he⟩
  have hi : i < zs.length := by rw [hz]; exact (jAs.mp hx).1
  have hzi : zs[i]? = some zs[i] := by simp [hi]
  rw [step i x _ hx hzi, W_ok]
  refine ⟨rfl, ?_⟩
  rw [he, jDl, hzi]
  rfl
 ·rintro acc S' ⟨rfl, he⟩ _
  rw [he, <- hz, jDm]
  exact ⟨rfl, rfl⟩
theorem qIa {α : Type} {xs : List α} {f : α -> D} {i : Nat} {z : D} (h : (xs.map f)[i]? = some z) : ∃ x, xs[i]? = some x /\ z = f x := by
 rw [jBy] at h
 cases q : xs[i]? with
 | none => rw [q] at h; cases h
 | some x => rw [q] at h; cases h; exact ⟨x, rfl, rfl⟩
theorem zK {α : Type} {xs : List α} {i : Nat} {x : α} (h : xs[i]? = some x) : x ∈ xs := jBz h
def qZr (T : List (List Rat)) (n : Nat) : Prop := ∀ r ∈ T, r.length = n
theorem zP {α : Type} {xs : List α} {i : Nat} (h : i < xs.length) : ∃ x, xs[i]? = some x := ⟨xs[i], by simp [h]⟩
theorem qWo.row {S : Sto} {a : Nat} {as : List Nat} {T : List (List Rat)} {i : Nat} {r : List Rat} (h : qWo S a as T) (hi : T[i]? = some r) : ∃ b, as[i]? = some b /\ qBu S b r := by
 have hl : i < as.length := by rw [h.2.1]; exact (jAs.mp hi).1
 exact ⟨as[i], by simp [hl], h.2.2 i _ r (by simp [hl]) hi⟩
structure FT (n : Nat) (S : Sto) (c : Nat) (cs : List Nat) (U : List (List Rat)) : Prop where
 tab : qWo S c cs U
 lo : ∀ b ∈ cs, n <= b
 inc : cs.Nodup
 ne : ∀ b ∈ cs, b ≠ c
 nc : n <= c
theorem qVp {xs : List D} {l : Nat} : qIf xs (some (l : Int)) none = xs.drop l := by
 unfold qIf qPi
 simp only []
 rw [if_neg (by omega), jCz]
 by_cases h : l <= xs.length
 ·rw [Nat.min_eq_left h, List.take_of_length_le (by simp)]
 ·rw [jDo (as := xs) (i := l) (by omega), jDo (as := xs) (i := min l xs.length) (by omega)]
  simp
theorem qK9 (h : (jAg n)[i]? = some j) : j = i /\ i < n := by
 have hi : i < n := by
  have := (jAs.mp h).1
  simpa using this
 exact ⟨by simpa [hi] using h.symm, hi⟩
theorem qB2 (h : ((jAg n).map f)[i]? = some x) : x = f i /\ i < n := by
 rw [jBy] at h
 cases q : (jAg n)[i]? with
 | none => rw [q] at h; cases h
 | some j =>
  rw [q] at h
  obtain ⟨rfl, hi⟩ := qK9 q
  exact ⟨(Option.some.inj h).symm, hi⟩
theorem qGm (v : D) (δ : DS) (h : zH S a = some xs) (hi : i < xs.length) : qK4 v δ (.ref a) (.int (i : Int)) S = ok δ (S.set a (.lst (xs.set i v))) := by
 show (match zH S a with | some xs => _ | none => none) = _
 rw [h]
 simp only [qFt hi]
theorem qV9 (h : zH S b = some xs) (hi : i < xs.length) (k : ∀ S', S'.length = S.length -> (∀ S0, SLe S0 S -> S0.length <= b -> SLe S0 S') -> (∀ c, c ≠ b -> zH S' c = zH S c) -> zH S' b = some (xs.set i v) -> Q δ S') : W (qK4 v δ (.ref b) (.int (i : Int)) S) Q := by
 refine W.intro (qGm v δ h hi) (k _ (by simp) (λ S0 l hb => l.set hb _) (λ c hc => qDp (Ne.symm hc)) (qBy h))
inductive Deed where
 | swap (i j : Nat) | scale (i : Nat) (q : Rat) | add (i j : Nat) (q : Rat)
def Deed.d : Deed -> D
 | .swap i j => .tup [.str "swap", .int (i : Int), .int (j : Int)]
 | .scale i q => .tup [.str "scale", .int (i : Int), qAo q]
 | .add i j q => .tup [.str "add", .int (i : Int), .int (j : Int), qAo q]
theorem qR6 (hx : x.cps.all (· < 0x110000) = true) (hy : y.cps.all (· < 0x110000) = true) (S : Sto) : eqD (.str x) (.str y) S = ok (.bl (x == y)) S := by
 have e : ∀ {x : Str}, x.cps.all (· < 0x110000) = true -> rd 9 S (.str x) = some (.str x) := by
  intro x hx
  show (if x.cps.all (· < 0x110000) = true then some (T.str x) else none) = _
  rw [if_pos hx]
 unfold eqD
 rw [e hx, e hy]
 rfl
theorem tix (ds : List D) (i : Nat) (d : D) (h : ds[i]? = some d) (S : Sto) : ixD (.tup ds) (.int (i : Int)) S = ok d S := by
 have hl : i < ds.length := (jAs.mp h).1
 show ixK (some ds) i S = _
 unfold ixK
 simp only [qFt hl, jDb, h]
theorem qQa (a : D) (r : List D) (S : Sto) : ixD (.tup (a :: r)) (.int 0) S = ok a S := tix (a :: r) 0 a rfl S
theorem qKg (a b : D) (r : List D) (S : Sto) : ixD (.tup (a :: b :: r)) (.int 1) S = ok b S := tix (a :: b :: r) 1 b rfl S
theorem qP9 (a b c : D) (r : List D) (S : Sto) : ixD (.tup (a :: b :: c :: r)) (.int 2) S = ok c S := tix (a :: b :: c :: r) 2 c rfl S
theorem qBb (q : Rat) (S : Sto) : F.is_ratio [qAo q] S = ok (.bl true) S := by
 refine qEy ?_
 have h1 : (1 : Int) <= q.den := by have := qC7 q; omega
 have h2 : jDe (if q.num < 0 then -q.num else q.num) (q.den : Int) = 1 := by rw [qFx]; exact qIb q
 (unfold F.is_ratio; refine Np.W_fnF rfl ?_; unfold Den.is_ratio; simp_all [])
 simp_all [qD5, h1, qBo (qDk q.num) (show (0 : Int) <= q.den by omega), h2]
 exact ⟨rfl, trivial⟩
theorem qD7 {α : Type} {xs : List α} {i k : Nat} {x y : α} (h : (xs.set i x)[k]? = some y) : (k = i /\ y = x) \/ (k ≠ i /\ xs[k]? = some y) := by
 by_cases e : i = k
 ·subst e
  rw [jCu] at h
  split at h
  ·split at h
   ·exact .inl ⟨rfl, (Option.some.inj h).symm⟩
   ·cases h
  ·exact absurd rfl (by assumption)
 ·rw [jAu e] at h
  exact .inr ⟨λ z => e z.symm, h⟩
theorem qWo.set {S S' : Sto} {c i b : Nat} {cs : List Nat} {U : List (List Rat)} {r : List Rat} (hl : cs.length = U.length) (hr : ∀ (k x : Nat) u, cs[k]? = some x -> U[k]? = some u -> qBu S x u) (hb : qBu S b r) : ∀ (k x : Nat) u, (cs.set i b)[k]? = some x -> (U.set i r)[k]? = some u -> qBu S x u := by
 intro k x u h1 h2
 rcases qD7 h1 with ⟨rfl, rfl⟩ | ⟨hk, h1⟩
 ·rcases qD7 h2 with ⟨_, rfl⟩ | ⟨hk, _⟩
  ·exact hb
  ·exact absurd rfl hk
 ·rcases qD7 h2 with ⟨rfl, _⟩ | ⟨_, h2⟩
  ·exact absurd rfl hk
  ·exact hr k x u h1 h2
theorem qEk (cs : List Nat) (i b : Nat) : (cs.map D.ref).set i (.ref b) = (cs.set i b).map D.ref := by rw [List.map_set]
theorem qDy {α : Type} {xs : List α} {i j k : Nat} {a b y : α} (hi : xs[i]? = some a) (hj : xs[j]? = some b) (h : ((xs.set i b).set j a)[k]? = some y) : (k = j /\ y = a) \/ (k ≠ j /\ k = i /\ y = b) \/ (k ≠ j /\ k ≠ i /\ xs[k]? = some y) := by
 rcases qD7 h with ⟨rfl, rfl⟩ | ⟨hk, h⟩
 ·exact .inl ⟨rfl, rfl⟩
 ·rcases qD7 h with ⟨rfl, rfl⟩ | ⟨hk2, h⟩
  ·exact .inr (.inl ⟨hk, rfl, rfl⟩)
  ·exact .inr (.inr ⟨hk, hk2, h⟩)
theorem qJ1 {xs : List Nat} {i j a b : Nat} (h : xs.Nodup) (hi : xs[i]? = some a) (hj : xs[j]? = some b) : ((xs.set i b).set j a).Nodup := by
 show List.Pairwise _ _
 rw [List.pairwise_iff_getElem]
 intro p q hp hq hpq
 have hql : q < xs.length := by simpa using hq
 have inj : ∀ {u v x : Nat}, xs[u]? = some x -> xs[v]? = some x -> u = v := by
  intro u v x hu hv
  have h1 := (jAs.mp hu)
  have h2 := (jAs.mp hv)
  exact (List.getElem_inj h).mp (h1.2.trans h2.2.symm)
 obtain ⟨x, hx⟩ := zP (xs := (xs.set i b).set j a) (i := p) (by simp; omega)
 obtain ⟨y, hy⟩ := zP (xs := (xs.set i b).set j a) (i := q) (by simp; omega)
 intro e
 have e : x = y := by
  have h1 := (jAs.mp hx).2
  have h2 := (jAs.mp hy).2
  rw [<- h1, <- h2]
  exact e
 subst e
 rcases qDy hi hj hx with ⟨e1, e2⟩ | ⟨p1, e1, e2⟩ | ⟨p1, p2, hx'⟩ <;> rcases qDy hi hj hy with ⟨e3, e4⟩ | ⟨q1, e3, e4⟩ | ⟨q1, q2, hy'⟩
 ·omega
 ·rw [e2] at e4; rw [<- e4] at hj; have := inj hi hj; omega
 ·rw [e2] at hy'; have := inj hy' hi; omega
 ·rw [e2] at e4; rw [<- e4] at hi; have := inj hi hj; omega
 ·omega
 ·rw [e2] at hy'; have := inj hy' hj; omega
 ·rw [e4] at hx'; have := inj hx' hi; omega
 ·rw [e4] at hx'; have := inj hx' hj; omega
 ·have := inj hx' hy'; omega
theorem qM5 (n : Nat) : qKk (jBq n (D.bl true)) = some true := by
 have := qF5 (λ _ : Nat => true) (jAg n)
 rw [List.map_const', List.length_range] at this
 rw [this]
 congr 1
 exact jCp.mpr λ _ _ => rfl
def Kn (S : Sto) : D -> Prop
 | .ref a => (∃ xs, S[a]? = some (.lst xs)) \/ ∃ kvs, S[a]? = some (.dct kvs)
 | .exc _ => False
 | .scr _ => False
 | _ => True
theorem Kn.mono (h : Kn S d) (l : SLe S S') : Kn S' d := by
 cases d with
 | ref a =>
  have : ∀ o, S[a]? = some o -> S'[a]? = some o := λ o e => by
   rw [l.get (jAs.mp e).1]; exact e
  rcases h with ⟨xs, e⟩ | ⟨kvs, e⟩
  ·exact .inl ⟨xs, this _ e⟩
  ·exact .inr ⟨kvs, this _ e⟩
 | _ => exact h
def qCs : D -> Bool
 | .int _ => true
 | _ => false
def qYn : D -> Bool
 | .int _ => true
 | .bl _ => true
 | _ => false
def qV0 : D -> Bool
 | .bl _ => true
 | _ => false
def qWr : D -> Bool
 | .tup _ => true
 | _ => false
def qSo (S : Sto) : D -> Bool
 | .ref a => (zH S a).isSome
 | _ => false
theorem qI3 (h : isK k d S = some b) : qCh k d S = ok (.bl b) S := by
 unfold qCh; rw [h]
theorem qFv (h : Kn S (.ref a)) (k : Kd) : isK k (.ref a) S = some (decide (k = .lst) && (zH S a).isSome) := by
 rcases h with ⟨xs, e⟩ | ⟨kvs, e⟩ <;> cases k <;> simp [isK, e, zH]
theorem qR2 (h : Kn S d) : qCh .int d S = ok (.bl (qYn d)) S := by
 cases d with
 | ref a => exact qI3 (qFv h .int)
 | exc c => exact h.elim
 | scr c => exact h.elim
 | _ => rfl
theorem qOw (h : Kn S d) : qCh .bool d S = ok (.bl (qV0 d)) S := by
 cases d with
 | ref a => exact qI3 (qFv h .bool)
 | exc c => exact h.elim
 | scr c => exact h.elim
 | _ => rfl
theorem qR0 (h : Kn S d) : qCh .tup d S = ok (.bl (qWr d)) S := by
 cases d with
 | ref a => exact qI3 (qFv h .tup)
 | exc c => exact h.elim
 | scr c => exact h.elim
 | _ => rfl
theorem qR1 (h : Kn S d) : qCh .lst d S = ok (.bl (qSo S d)) S := by
 cases d with
 | ref a => rw [qI3 (qFv h .lst)]; simp [qSo]
 | exc c => exact h.elim
 | scr c => exact h.elim
 | _ => rfl
theorem qBa (h : Kn S d) : F.k02_whole [d] S = ok (.bl (qCs d)) S := by
 refine qEy ?_
 (unfold F.k02_whole; refine Np.W_fnF rfl ?_; unfold Den.k02_whole; simp_all [])
 simp_all [qR2 h]
 cases d <;> simp only [qYn, qCs] <;> simp_all [qOw h, qV0] <;> exact ⟨rfl, trivial⟩
theorem qBv (h : qCs d = true) : ∃ i, d = .int i := by
 cases d <;> first | exact ⟨_, rfl⟩ | cases h
def qLx : D -> List D
 | .tup xs => xs
 | _ => []
def Kn2 (S : Sto) (d : D) : Prop := Kn S d /\ ∀ x ∈ qLx d, Kn S x
theorem Kn2.mono (h : Kn2 S d) (l : SLe S S') : Kn2 S' d := ⟨h.1.mono l, λ x hx => (h.2 x hx).mono l⟩
def qBi : D -> Bool
 | .tup [.int a, .int b] => decide (1 <= b) && decide (jDe a b = 1)
 | _ => false
theorem qE1 (h : (qCs x && qCs y) = false) : qBi (.tup [x, y]) = false := by
 cases x <;> cases y <;> first | rfl | cases h
theorem qJt (h : qWr d = false) : qBi d = false := by
 cases d <;> first | rfl | cases h
theorem qCw (h : Kn2 S d) : F.is_ratio [d] S = ok (.bl (qBi d)) S := by
 refine qEy ?_
 (unfold F.is_ratio; refine Np.W_fnF rfl ?_; unfold Den.is_ratio; simp_all [])
 simp_all [qR0 h.1]
 cases hd : qWr d with
 | false => 
  simp_all []
  exact ⟨by rw [qJt hd], trivial⟩
 | true =>
  cases d with
  | tup xs =>
   match xs, h with
   | [], _ =>
    simp_all [show decide (((0 : Nat) : Int) = 2) = false from rfl]
    exact ⟨rfl, trivial⟩
   | [x], _ =>
    simp_all [show decide (((1 : Nat) : Int) = 2) = false from rfl]
    exact ⟨by simp [qBi], trivial⟩
   | [x, y], h =>
    have hx : Kn S x := h.2 x (by simp [qLx])
    have hy : Kn S y := h.2 y (by simp [qLx])
    simp_all [show decide (((2 : Nat) : Int) = 2) = true from rfl, qQa, qKg, qBa hx, qBa hy]
    cases ex : qCs x with
    | false =>
     simp_all []
     exact ⟨by rw [qE1 (by simp [ex])], trivial⟩
    | true =>
     cases ey : qCs y with
     | false =>
      simp_all [qKg, qBa hy, ey]
      exact ⟨by rw [qE1 (by simp [ey])], trivial⟩
     | true =>
      simp_all [qKg, qBa hy, ey]
      obtain ⟨a, rfl⟩ := qBv ex
      obtain ⟨b, rfl⟩ := qBv ey
      simp_all [qQa, qKg]
      by_cases h1 : 1 <= b
      ·simp_all [h1, qQa, qKg, qBo (qDk a) (show (0 : Int) <= b by omega), qFx]
       refine ⟨?_, trivial⟩
       simp only [qBi, h1, decide_true, Bool.true_and]
       congr 1
       exact decide_eq_decide.mpr (by omega)
      ·simp_all [h1]
       exact ⟨by simp [qBi, h1], trivial⟩
   | x :: y :: z :: r, _ =>
    have hl : decide (((r.length + 3 : Nat) : Int) = 2) = false := decide_eq_false (by omega)
    simp_all [lenD_tup, hl]
    exact ⟨by simp [qBi], trivial⟩
  | _ => cases hd
theorem qVr (hit : it base S = ok (.one a) S) (ha : zH S a = some xs) (hl : xs.length <= 1000000) (he : ∀ x ∈ xs, e (base ++ [some x]) S = ok (f x) S) :
  qA1 it 1 (setG base.length) e base S = ok (.ref S.length) (S ++ [.lst (xs.map f)]) :=
 qR8 (zs := xs.map f) _ (qDm base) hit (Has.one ha) (by rw [qB6 ha]; exact hl) (λ _ _ => trivial) (by simp) λ i x z hx hz => by
  obtain ⟨y, hy, rfl⟩ := qIa hz
  rw [hx] at hy
  cases hy
  exact he x (zK hx)
theorem qFj (h : zH S a = some xs) : qS2 [.ref a] S = ok (.tup xs) S := by
 show (match zH S a with | some xs => ok (D.tup xs) S | none => none) = _
 rw [h]
theorem qHm (ha : zH S a = some xs) (hk : 0 < k) (hl : (xs.length : Int) = k) (h : ∀ x ∈ xs, Q x S) : W (qCd (.int m) (.int k) S) λ x S' => W (ixD (.ref a) x S') Q := by
 rw [qAc (by omega), W_ok]
 obtain ⟨g1, g2⟩ := qAm m hk
 obtain ⟨j, hj⟩ : ∃ j : Nat, m.fmod k = (j : Int) := ⟨(m.fmod k).toNat, by omega⟩
 rw [hj] at g2 ⊢
 have hj' : j < xs.length := by omega
 have e : xs[j]? = some xs[j] := jDp hj'
 rw [qAf ha e, W_ok]
 exact h _ (jDq hj')
theorem qCx (δ : DS) (S : Sto) : qSq δ S = ok (.ref S.length) (S ++ [.dct []]) := rfl
theorem qV8 (ha : zH S a = some xs) (hb : zH S b = some ys) (hl : xs.length + ys.length <= 1000000) : qCb (.ref a) (.ref b) S = ok (.ref S.length) (S ++ [.lst (xs ++ ys)]) := by
 show qX7 (zH S a) (zH S b) S = _
 rw [ha, hb]
 show (if _ then _ else _) = _
 rw [if_pos hl]; rfl
theorem qWg (x : D) (S : Sto) : qBp [x] S = ok (.tup [x]) S := rfl
theorem qFc (h : j ≠ 0) (S : Sto) : qNg [.int i, .int j] S = ok (.tup [.int (i.fdiv j), .int (i.fmod j)]) S := by
 show (if _ then _ else _) = _
 rw [if_neg h]
theorem qKw (a b : DG) (x y : D) (δ : DS) (S : Sto) : qHo [a, b] (.tup [x, y]) δ S = tupGs [a, b] [x, y] δ S := rfl
theorem qWf (x y z : D) (S : Sto) : qBp [x, y, z] S = ok (.tup [x, y, z]) S := rfl
theorem qWs (x y z w : D) (S : Sto) : qBp [x, y, z, w] S = ok (.tup [x, y, z, w]) S := rfl
theorem FT.swap (h : FT n S c cs U) (hbi : cs[i]? = some bi) (hbj : cs[j]? = some bj) (hri : U[i]? = some ri) (hrj : U[j]? = some rj) (k1 : ∀ a, a ≠ c -> zH S' a = zH S a) (k2 : zH S' c = some (((cs.map D.ref).set i (.ref bj)).set j (.ref bi))) :
  FT n S' c ((cs.set i bj).set j bi) ((U.set i rj).set j ri) := by
 rw [qEk, qEk] at k2
 have key : ∀ x u, qBu S x u -> x ∈ cs -> qBu S' x u := λ x u hx hm => by
  show zH S' x = _
  rw [k1 x (h.ne x hm)]
  exact hx
 have row1 := h.tab.2.2 i bi ri hbi hri
 have row2 := h.tab.2.2 j bj rj hbj hrj
 refine ⟨⟨k2, by simp [h.tab.2.1], λ p x u h1 h2 => ?_⟩, λ x hx => ?_, qJ1 h.inc hbi hbj, λ x hx => ?_, h.nc⟩
 ·rcases qDy hbi hbj h1 with ⟨e0, e5⟩ | ⟨p1, e0, e5⟩ | ⟨p1, p2, h1⟩ <;> rcases qDy hri hrj h2 with ⟨e1, e2⟩ | ⟨q1, e1, e2⟩ | ⟨q1, q2, h2⟩
  ·rw [e5, e2]; exact key _ _ row1 (zK hbi)
  ·exact absurd e0 q1
  ·exact absurd e0 q1
  ·exact absurd e1 p1
  ·rw [e5, e2]; exact key _ _ row2 (zK hbj)
  ·exact absurd e0 q2
  ·exact absurd e1 p1
  ·exact absurd e1 p2
  ·exact key _ _ (h.tab.2.2 p x u h1 h2) (zK h1)
 ·rcases jDr hx with z | z
  ·rcases jDr z with z | z
   ·exact h.lo x z
   ·rw [z]; exact h.lo _ (zK hbj)
  ·rw [z]; exact h.lo _ (zK hbi)
 ·rcases jDr hx with z | z
  ·rcases jDr z with z | z
   ·exact h.ne x z
   ·rw [z]; exact h.ne _ (zK hbj)
  ·rw [z]; exact h.ne _ (zK hbi)
theorem qG1 (hb : 0 < b) (S : Sto) : F.k52_lowest [.int a, .int b] S = ok (qAo (jC7 a b)) S := by
 refine qEy ?_
 have hn : ¬ b < 0 := by omega
 obtain ⟨c0, c1, c2⟩ := qHv (a := a) (b := b) (by omega) (((jDe b a : Nat) : Int)) (by rw [if_neg hn])
 rw [Int.gcd_comm] at c0 c1 c2
 (unfold F.k52_lowest; refine Np.W_fnF rfl ?_; unfold Den.k52_lowest; simp_all [])
 refine qJh (λ δ S' => S' = S /\ ∃ x y, δ = [some (.int a), some (.int b), some (.int x), some (.int y)] /\ 0 <= x /\ 0 <= y /\ jDe x y = jDe a b) (λ δ _ => match δ with | [_, _, _, some (.int y)] => y.natAbs | _ => 0) ⟨rfl, _, b, rfl, qDk a, by omega, qFx a b⟩ ?_
 rintro δ S' ⟨rfl, x, y, rfl, hx, hy, hg⟩
 simp_all []
 by_cases h0 : y = 0
 ·subst h0
  have hx' : x = ((jDe a b : Nat) : Int) := by rw [<- hg]; simp; omega
  subst hx'
  simp_all [qAj c0]
  simp only [c1, c2, qAo, and_self]
 ·rw [if_pos h0]
  obtain ⟨h1, h2, h3⟩ := qI6 (a := x) (b := y) (by omega) hx
  simp_all [qAc h0]
  simp only [qH5]
  refine ⟨⟨trivial, y, x.fmod y, rfl, hy, h1, by rw [h3, hg]⟩, by omega⟩
theorem qEm {i : Int} {n : Nat} (h0 : 0 <= i) (h : i < 2 ^ n) : i.natAbs.log2 <= n := by
 refine qEn ?_
 have : ((2 : Int) ^ n) = ((2 ^ n : Nat) : Int) := by norm_cast
 omega
theorem qD0 {k : Int} (h0 : 0 <= k) (h1 : k < 1000) (c : Int) (S : Sto) : ∃ m : Int, 0 <= m /\ F.k52_mixed [.int c, .int k] S = ok (.int m) S := by
 suffices h : W (F.k52_mixed [.int c, .int k] S) λ d S' => S' = S /\ ∃ m : Int, 0 <= m /\ d = .int m by
  obtain ⟨d, S', e, rfl, m, hm, rfl⟩ := h.out
  exact ⟨m, hm, e⟩
 (unfold F.k52_mixed; refine Np.W_fnF rfl ?_; unfold Den.k52_mixed; simp_all [])
 obtain ⟨a1, a2⟩ := qAm c (show (0 : Int) < 2147483629 by decide)
 have m1 : (7 : Int).natAbs.log2 + k.natAbs.log2 <= 100000000 := by
  have := qEm (n := 10) h0 (by omega)
  have : (7 : Int).natAbs.log2 = 2 := by decide
  omega
 have m2 : (c.fmod 2147483629 + 7 * k + 3).natAbs.log2 + (48271 : Int).natAbs.log2 <= 100000000 := by
  have := qEm (i := c.fmod 2147483629 + 7 * k + 3) (n := 40) (by omega) (by omega)
  have : (48271 : Int).natAbs.log2 = 15 := by decide
  omega
 have nz : (2147483647 : Int) ≠ 0 := by decide
 simp_all [qAc (show (2147483629 : Int) ≠ 0 by decide), qAw m1, qAw m2, qAc nz, show qEa [.int 6] S = ok (.fix (qB7 0 6)) S from qC2 (n := 6) (by decide) S, qCn]
 obtain ⟨b1, b2⟩ := qAm ((c.fmod 2147483629 + 7 * k + 3) * 48271) (show (0 : Int) < 2147483647 by decide)
 refine qJi ((jAg 6).map λ i => D.int (i : Nat)) (λ i δ S' => S' = S /\ ∃ (n f : Int) (o : Option D), δ = [some (.int c), some (.int k), some (.int n), some (.int f), o] /\ 0 <= n /\ n < 2147483647 /\ 0 <= f /\ f < 2147483647 ^ i) (jAy _) ⟨rfl, _, 0, _, rfl, b1, b2, by decide, by decide⟩ (λ i δ S' _ => rfl) ?_ ?_
 ·rintro i x δ S' hx ⟨rfl, n, f, o, rfl, n1, n2, f1, f2⟩
  obtain ⟨rfl, hi⟩ := qB2 hx
  have p6 : (2147483647 : Int) ^ i <= 2 ^ 200 := by
   have : i = 0 \/ i = 1 \/ i = 2 \/ i = 3 \/ i = 4 \/ i = 5 := by omega
   rcases this with rfl | rfl | rfl | rfl | rfl | rfl <;> decide
  have k1 : n.natAbs.log2 + (69621 : Int).natAbs.log2 <= 100000000 := by
   have := qEm (n := 31) n1 (by omega)
   have : (69621 : Int).natAbs.log2 = 16 := by decide
   omega
  have k2 : (11 : Int).natAbs.log2 + ((i : Nat) : Int).natAbs.log2 <= 100000000 := by
   have := qEm (i := (i : Int)) (n := 3) (by omega) (by omega)
   have : (11 : Int).natAbs.log2 = 3 := by decide
   omega
  have k3 : f.natAbs.log2 + (2147483647 : Int).natAbs.log2 <= 100000000 := by
   have := qEm (n := 200) f1 (by omega)
   have : (2147483647 : Int).natAbs.log2 = 30 := by decide
   omega
  obtain ⟨e1, e2⟩ := qAm (n * 69621 + 11 * (i : Int) + 5) (show (0 : Int) < 2147483647 by decide)
  simp_all [qAw k1, qAw k2, qAw k3, qAc nz]
  simp only [qH5]
  refine ⟨trivial, _, _, _, rfl, e1, e2, by omega, ?_⟩
  have : (2147483647 : Int) ^ (i + 1) = 2147483647 ^ i * 2147483647 := Int.pow_succ _ _
  omega
 ·rintro δ S' ⟨rfl, n, f, o, rfl, n1, n2, f1, f2⟩
  simp_all []
  exact ⟨trivial, f, f1, rfl⟩
theorem qGp {n : Int} (h0 : 0 <= n) (h1 : n < 100003) (S : Sto) : W (F.k52_ratio [.int n] S) λ d S' => SLe S S' /\ ∃ q, Le 70 q /\ d = qAo q := by
 (unfold F.k52_ratio; refine Np.W_fnF rfl ?_; unfold Den.k52_ratio; simp_all [])
 have q15 : ∀ S, qGs (.int 10) (.int 15) S = ok (.int (10 ^ 15)) S := λ S => qHx (by decide) S
 have a1 : n.fdiv 16 = n / 16 := jDs _ (by decide)
 have a2 : (n.fdiv 16).fdiv 8 = n.fdiv 16 / 8 := jDs _ (by decide)
 have m2 : ((n.fdiv 16).fdiv 8).natAbs.log2 + ((10 : Int) ^ 15).natAbs.log2 <= 100000000 := by
  have := qEm (i := (n.fdiv 16).fdiv 8) (n := 17) (by omega) (by omega)
  have : ((10 : Int) ^ 15).natAbs.log2 = 49 := by decide +kernel
  omega
 have h70 : (2 : Nat) ^ 70 = 1180591620717411303424 := by decide
 simp_all [Np.W_ifK, Np.W_ifEK, Np.W_andTK, Np.W_orTK, Np.W_andVB, Np.W_orVB, Np.W_chnB, qFc (show (16 : Int) ≠ 0 by decide), qFc (show (8 : Int) ≠ 0 by decide), qKw, q15, qUq, qAw m2, qAc (show (19 : Int) ≠ 0 by decide), qAh (show [D.int 1, D.int 1, D.int 1, D.int 2, D.int 3, D.int 4, D.int 6, D.int 12].length <= 1000 by decide)]
 split
 ·refine ⟨SLe.rfl, (((n.fdiv 16).fdiv 8 * 10 ^ 15 - 10 ^ 20 : Int) : Rat), ⟨?_, by show (1 : Nat) < _; decide⟩, rfl⟩
  show ((n.fdiv 16).fdiv 8 * 10 ^ 15 - 10 ^ 20 : Int).natAbs < _
  omega
 ·obtain ⟨h1, h2⟩ := qAm (n.fdiv 16) (show (0 : Int) < 8 by decide)
  obtain ⟨h3, h4⟩ := qAm ((n.fdiv 16).fdiv 8) (show (0 : Int) < 19 by decide)
  obtain ⟨c, c1, c2, c3⟩ := qX6 _ h1 h2 (qAb S _)
  simp_all [c3, qG1 (show (0 : Int) < c by omega)]
  exact ⟨SLe.app _, _, Le.divInt' (by omega) (by omega) (by omega), rfl⟩
theorem qD8 (n : Int) {k : Nat} (hk : k < 900) (S : Sto) : W (F.k52_row [.int n, .int (k : Int)] S) λ d S' => ∃ c xs, d = .ref c /\ S.length <= c /\ SLe S S' /\ qBu S' c xs /\ xs.length = k /\ ∀ x ∈ xs, Le 70 x := by
 (unfold F.k52_row; refine Np.W_fnF rfl ?_; unfold Den.k52_row; simp_all [])
 refine qA8 (qAh (by simp) _) λ S1 c l1 n1 r1 => ?_
 simp_all [qC2 (show k < 1000000 by omega), qCn]
 refine qJi ((jAg k).map λ i => D.int (i : Nat)) (λ i δ S' => SLe S S' /\ (∃ xs, qBu S' c xs /\ xs.length = i /\ ∀ x ∈ xs, Le 70 x) /\ ∃ (o3 : Option D), δ = [some (.int n), some (.int (k : Int)), some (.ref c), o3]) (jAy _)
  ⟨l1, ⟨[], r1, rfl, λ _ h => (by cases h)⟩, _, rfl⟩ (λ i δ S' _ => rfl) ?_ ?_
 ·rintro i x δ S2 hx ⟨L, ⟨xs, rc, hxl, hxs⟩, o3, rfl⟩
  obtain ⟨rfl, hi⟩ := qB2 hx
  obtain ⟨m, m0, em⟩ := qD0 (k := 31 + (i : Int)) (by omega) (by omega) n S2
  obtain ⟨g1, g2⟩ := qAm m (show (0 : Int) < 100003 by decide)
  simp_all [qBf rc, em, qAc (show (100003 : Int) ≠ 0 by decide)]
  refine (qGp g1 g2 S2).mono ?_
  rintro d S3 ⟨l3, q, hq, rfl⟩
  refine qWa (l3.lst rc) (by simp; omega) λ S4 _ k4 _ r4 => ?_
  refine ⟨k4 _ (L.trans l3) n1, ⟨xs ++ [q], by show zH S4 c = _; rw [r4]; simp, by simp [hxl], λ x hx => ?_⟩, _, rfl⟩
  rcases jAq.mp hx with h | h
  ·exact hxs x h
  ·rw [jCs.mp h]; exact hq
 ·rintro δ S2 ⟨L, ⟨xs, rc, hxl, hxs⟩, o3, rfl⟩
  simp_all []
  exact ⟨c, xs, rfl, n1, L, rc, by simpa using hxl, hxs⟩
def Deed.t : Deed -> T
 | .swap i j => .tup [.str "swap", .int (i : Int), .int (j : Int)]
 | .scale i q => .tup [.str "scale", .int (i : Int), qGq q]
 | .add i j q => .tup [.str "add", .int (i : Int), .int (j : Int), qGq q]
theorem qK7 {p n : Nat} (hp : p < 1000000) (hn : n < 1000000) (S : Sto) : qHt [.int (p : Int), .int (n : Int)] S = ok (.fix ((jDk p (n - p)).map λ i => D.int (i : Nat))) S := by
 have hlim := qI1
 simp only [qHt]
 rw [if_pos (by omega), <- qEt]
 rw [show ((n : Int) - (p : Int)).toNat = n - p by omega]
theorem sm0 : sm (0 : Rat) := (show Le 70 (0 : Rat) from ⟨by decide, by decide⟩).sm (by decide)
abbrev qE2 (i : Nat) : D := .int (i : Int)
def skip (p k : Nat) : Nat := if k < p then k else k + 1
def Tw (a b : Nat) (q : Rat) : Prop := ∃ n : Int, q * ((12 ^ a : Int) : Rat) = (n : Rat) /\ n.natAbs < 2 ^ b
theorem Tw.add (hp : Tw a b p) (hq : Tw a c q) : Tw a (max b c + 1) (p + q) := by
 obtain ⟨n, h1, h2⟩ := hp
 obtain ⟨m, h3, h4⟩ := hq
 refine ⟨n + m, ?_, ?_⟩
 ·rw [Rat.intCast_add, <- h1, <- h3]; grind
 ·have e1 : 2 ^ b <= 2 ^ max b c := jC8 (by decide) (Nat.le_max_left _ _)
  have e2 : 2 ^ c <= 2 ^ max b c := jC8 (by decide) (Nat.le_max_right _ _)
  have := Int.natAbs_add_le n m
  rw [Nat.pow_succ]
  omega
theorem qE3 (k : Nat) : ∀ fs : List Nat, qKh (.int (k : Int)) (fs.map λ (i : Nat) => Np.T.int (i : Int)) = decide (k ∈ fs)
 | [] => by simp [qKh]
 | f :: fs => by
  simp only [jBf, qKh, qE3 k fs, eqT]
  by_cases h : k = f
  ·subst h; simp
  ·have : ¬ ((k : Int) = (f : Int)) := by omega
   by_cases h2 : k ∈ fs <;> simp [h, h2, this]
theorem qEh {S : Sto} {a k : Nat} {fs : List Nat} (h : zH S a = some (fs.map qE2)) : qCc (.int (k : Int)) (.ref a) S = ok (.bl (!decide (k ∈ fs))) S := by
 have e : rdl (rd 8 S) (fs.map qE2) = some (fs.map λ (i : Nat) => Np.T.int (i : Int)) := qFn qE2 (λ i => Np.T.int (i : Int)) (λ i => qC3 8 S i) fs
 have h8 : rd 8 S (.int (k : Int)) = some (.int (k : Int)) := qC3 8 S k
 unfold qCc inA
 simp only [h, h8, e, qE3]
 simp
structure PtR (S : Sto) (t : Nat) (as bs : List Nat) (P H : List (List Rat)) : Prop where
 at' : zH S t = some (jDi (λ a b => D.tup [.ref a, .ref b]) as bs)
 la : as.length = P.length
 lb : bs.length = P.length
 lh : H.length = P.length
 left : ∀ (i a : Nat) r, as[i]? = some a -> P[i]? = some r -> qBu S a r
 shs : ∀ (i b : Nat) r, bs[i]? = some b -> H[i]? = some r -> qBu S b r
theorem PtR.len (h : PtR S t as bs P H) : (jDi (λ a b => D.tup [.ref a, .ref b]) as bs).length = P.length := by simp [h.la, h.lb]
theorem qF6 (h : ∀ d ∈ xs, d = .bl true) : qKk xs = some true := by
 have : xs = jBq xs.length (.bl true) := List.eq_replicate_iff.mpr ⟨rfl, h⟩
 rw [this]
 exact qM5 _
def Al2 (R : D -> D -> Prop) : List D -> List D -> Prop
 | [], [] => True
 | x :: xs, y :: ys => R x y /\ Al2 R xs ys
 | _, _ => False
theorem Al2.len {R : D -> D -> Prop} : ∀ {xs ys : List D}, Al2 R xs ys -> xs.length = ys.length
 | [], [], _ => rfl
 | _ :: _, _ :: _, h => by simp [Al2.len h.2]
 | [], _ :: _, h => h.elim
 | _ :: _, [], h => h.elim
theorem Al2.imp {R R' : D -> D -> Prop} (hi : ∀ x y, R x y -> R' x y) : ∀ {xs ys : List D}, Al2 R xs ys -> Al2 R' xs ys
 | [], [], _ => trivial
 | _ :: _, _ :: _, h => ⟨hi _ _ h.1, Al2.imp hi h.2⟩
 | [], _ :: _, h => h.elim
 | _ :: _, [], h => h.elim
theorem Al2.mem {R : D -> D -> Prop} : ∀ {xs ys : List D} {z : D}, Al2 R xs ys -> z ∈ qBj xs ys -> ∃ p q, z = .tup [p, q] /\ R p q
 | [], [], _, _, h => by simp [qBj] at h
 | x :: xs, y :: ys, z, h, hz => by
  rw [show qBj (x :: xs) (y :: ys) = .tup [x, y] :: qBj xs ys from rfl] at hz
  rcases jAp.mp hz with rfl | hz
  ·exact ⟨x, y, rfl, h.1⟩
  ·exact Al2.mem h.2 hz
 | [], _ :: _, _, h, _ => h.elim
 | _ :: _, [], _, h, _ => h.elim
theorem qM8 {α : Type} {R : D -> D -> Prop} {f g : α -> D} : ∀ {xs : List α}, (∀ x ∈ xs, R (f x) (g x)) -> Al2 R (xs.map f) (xs.map g)
 | [], _ => trivial
 | x :: xs, h => ⟨h x (.head _), qM8 λ y hy => h y (.tail _ hy)⟩
def Al (S : Sto) : Nat -> D -> D -> Prop
 | 0, _, _ => False
 | n + 1, x, y => (∃ i, x = .int i /\ y = .int i) \/ (∃ xs ys, x = .tup xs /\ y = .tup ys /\ xs.length <= 1000 /\ Al2 (Al S n) xs ys) \/ ∃ a b xs ys, x = .ref a /\ y = .ref b /\ zH S a = some xs /\ zH S b = some ys /\ xs.length <= 1000 /\ Al2 (Al S n) xs ys
theorem Al.mono (l : SLe S S') : ∀ {n : Nat} {x y : D}, Al S n x y -> Al S' n x y
 | 0, _, _, h => h.elim
 | n + 1, x, y, h => by
  rcases h with h | ⟨xs, ys, h1, h2, h3, h4⟩ | ⟨a, b, xs, ys, h1, h2, h3, h4, h5, h6⟩
  ·exact .inl h
  ·exact .inr (.inl ⟨xs, ys, h1, h2, h3, h4.imp λ _ _ h => Al.mono l h⟩)
  ·exact .inr (.inr ⟨a, b, xs, ys, h1, h2, l.lst h3, l.lst h4, h5, h6.imp λ _ _ h => Al.mono l h⟩)
theorem qGv : ∀ xs ys : List D, qA3 xs ys = qBj xs ys
 | [], _ => by simp [qA3, qBj]
 | _ :: _, [] => rfl
 | x :: xs, y :: ys => by rw [qA3, qGv xs ys]; rfl
theorem qIz (i : Bool) (S : Sto) : neD (.bl i) (.bl i) S = ok (.bl false) S := by
 unfold neD; rw [qQj]; cases i <;> rfl
theorem qH8 (i : Int) (S : Sto) : qCh .lst (.int i) S = ok (.bl false) S := rfl
theorem qH6 (i : Int) (S : Sto) : qCh .tup (.int i) S = ok (.bl false) S := rfl
theorem qH7 (xs : List D) (S : Sto) : qCh .lst (.tup xs) S = ok (.bl false) S := rfl
theorem qEr (h : zH S a = some xs) : qCh .tup (.ref a) S = ok (.bl false) S := by
 unfold zH at h
 split at h
 ·rename_i e
  show (match (match S[a]? with | some (.lst _) => some false | some (.dct _) => some false | _ => none) with | some b => ok (D.bl b) S | none => none) = _
  rw [e]
 ·cases h
theorem qKl (xs ys : List D) (S : Sto) : qJl [.tup xs, .tup ys] S = ok (.fix (qBj xs ys)) S := by rw [<- qGv]; rfl
theorem qKm (ha : zH S a = some xs) (hb : zH S b = some ys) : qJl [.ref a, .ref b] S = ok (.two a b) S := qGc ha hb
theorem qG3 (h : xs.length = ys.length) : (qBj xs ys).length = xs.length := by simp [qBj, h]
theorem qDj : ∀ {n : Nat} {x y : D} {S : Sto}, Al S n x y -> W (F.k52_alike n [x, y] S) λ d S' => d = .bl true /\ SLe S S'
 | 0, _, _, _, h => h.elim
 | n + 1, x, y, S, h => by
  show W (fnF 2 2 (Den.k52_alike (F.k52_alike n)) [x, y] S) _
  refine W_fnF rfl ?_
  unfold Den.k52_alike
  rcases h with ⟨i, rfl, rfl⟩ | ⟨xs, ys, rfl, rfl, hl, ha⟩ | ⟨a, b, xs, ys, rfl, rfl, h1, h2, hl, ha⟩
  ·simp_all [qH8, qH6]
   exact ⟨by simp, SLe.rfl⟩
  ·have e := ha.len
   have hle : (xs.length : Int) = (ys.length : Int) := by omega
   simp_all [qH7, qIz, hle]
   refine qNa (base := [some (.tup xs), some (.tup ys)]) (k := 2) (λ x => [pr1 x, pr2 x]) (qBj xs ys) (λ _ d => d = .bl true) (λ x => ∃ p q, x = .tup [p, q]) (qK0 [some (.tup xs), some (.tup ys)]) (λ x hx => qEj hx) ?_ ?_ ?_
   ·simp_all [qKl]
    exact ⟨jAy _, by show (qBj xs ys).length <= _; rw [qG3 e]; omega, SLe.rfl, λ _ _ _ => rfl⟩
   ·intro z S' hz l
    obtain ⟨p, q, rfl, hr⟩ := ha.mem hz
    simp_all [pr1, pr2]
    exact (qDj (hr.mono l)).mono λ d S'' h => h
   ·intro ds S' l hd he
    have : ∀ d ∈ ds, d = .bl true := λ d hm => by
     obtain ⟨i, hi, rfl⟩ := jDn hm
     exact he i ((qBj xs ys)[i]'(by omega)) _ (by simp) (by simp [hi])
    simp_all [qD3 (qAb S' ds) (qF6 this)]
    exact ⟨trivial, l.push _⟩
  ·have e := ha.len
   have hle : (xs.length : Int) = (ys.length : Int) := by omega
   simp_all [qBl h1, qBl h2, qEr h1, qEr h2, qIz, qAi h1, qAi h2, hle]
   refine qNa (base := [some (.ref a), some (.ref b)]) (k := 2) (λ x => [pr1 x, pr2 x]) (qBj xs ys) (λ _ d => d = .bl true) (λ x => ∃ p q, x = .tup [p, q]) (qK0 [some (.ref a), some (.ref b)]) (λ x hx => qEj hx) ?_ ?_ ?_
   ·simp_all [qKm h1 h2]
    exact ⟨by rw [qFr h1, qG3 e]; exact jAy _, by rw [qFr h1]; omega, SLe.rfl, λ i S'' l => qMk (l.lst h1) (l.lst h2) i⟩
   ·intro z S' hz l
    obtain ⟨p, q, rfl, hr⟩ := ha.mem hz
    simp_all [pr1, pr2]
    exact (qDj (hr.mono l)).mono λ d S'' h => h
   ·intro ds S' l hd he
    have : ∀ d ∈ ds, d = .bl true := λ d hm => by
     obtain ⟨i, hi, rfl⟩ := jDn hm
     exact he i ((qBj xs ys)[i]'(by omega)) _ (by simp) (by simp [hi])
    simp_all [qD3 (qAb S' ds) (qF6 this)]
    exact ⟨trivial, l.push _⟩
theorem qM6 (S : Sto) (n : Nat) (q : Rat) : Al S (n + 2) (qAo q) (qAo q) := .inr (.inl ⟨_, _, rfl, rfl, by simp, ⟨.inl ⟨_, rfl, rfl⟩, .inl ⟨_, rfl, rfl⟩, trivial⟩⟩)
theorem qV7 (n : Nat) (ha : qBu S a xs) (hb : qBu S b xs) (hl : xs.length <= 1000) : Al S (n + 3) (.ref a) (.ref b) := .inr (.inr ⟨a, b, _, _, rfl, rfl, ha, hb, by simpa using hl, qM8 λ x _ => qM6 S n x⟩)
def Bt (a : Nat) (S S' : Sto) : Prop := S.length <= S'.length /\ ∀ b, b < S.length -> b ≠ a -> S'[b]? = S[b]?
theorem _root_.Np.SLe.bt (h : SLe S S') (a : Nat) : Bt a S S' := ⟨h.len, λ _ hb _ => h.get hb⟩
theorem Bt.trans (h : Bt a S S') (k : Bt a S' S'') : Bt a S S'' := ⟨jAk h.1 k.1, λ b hb hn => by rw [k.2 b (jAd hb h.1) hn, h.2 b hb hn]⟩
theorem Bt.set (a : Nat) (o : O) : Bt a S (S.set a o) := ⟨by simp, λ b _ hn => jAu (Ne.symm hn)⟩
theorem Bt.lst (h : Bt a S S') (hn : b ≠ a) (e : zH S b = some xs) : zH S' b = some xs := by rw [qD1 (h.2 b (qAp e) hn)]; exact e
theorem qI5 (h : S'[a]? = S[a]?) : qBc S' a = qBc S a := by unfold qBc; rw [h]
theorem qD2 (h : qBc S a = some (c, fs)) : a < S.length := (jAs.mp (qDh h)).1
theorem Bt.ins (h : Bt a S S') (hn : b ≠ a) (e : qBc S b = some (c, fs)) : qBc S' b = some (c, fs) := by rw [qI5 (h.2 b (qD2 e) hn)]; exact e
theorem _root_.Np.SLe.ins (h : SLe S S') (e : qBc S b = some (c, fs)) : qBc S' b = some (c, fs) := by rw [qI5 (h.get (qD2 e))]; exact e
theorem qCo (h : qBc S a = some (c, fs)) (k : zH S b = some xs) : a ≠ b := λ e => by
 subst e
 unfold zH at k
 rw [qDh h] at k
 cases k
structure Pt where
 num : Nat
 row : List Rat
 want : Rat
 wt : Rat
def ptD (x : Pt × Nat) : D := .tup [.int (x.1.num : Int), .ref x.2, qAo x.1.want, qAo x.1.wt]
def qNe (S : Sto) (k : Nat) (q : List (Pt × Nat)) : Prop := zH S k = some (q.map ptD) /\ ∀ x ∈ q, qBu S x.2 x.1.row
theorem qNe.mono (h : qNe S k q) (l : SLe S S') : qNe S' k q := ⟨l.lst h.1, λ x hx => l.lst (h.2 x hx)⟩
theorem qNe.bt (h : qNe S k q) (l : Bt a S S') (hk : k ≠ a) (hq : ∀ x ∈ q, x.2 ≠ a) : qNe S' k q := ⟨l.lst hk h.1, λ x hx => l.lst (hq x hx) (h.2 x hx)⟩
abbrev plF (ss : Nat) : List (Str × D) := [(("states" : Str), .ref ss)]
abbrev stF (a b c : D) : List (Str × D) := [(("wide" : Str), a), (("laid" : Str), b), (("kept" : Str), c)]
structure Pl (S : Sto) (p ss st k : Nat) (xs : List D) (w l : Nat) (q : List (Pt × Nat)) : Prop where
 pl : qBc S p = some (("Plane" : Str), plF ss)
 sl : zH S ss = some (xs ++ [.ref st])
 st : qBc S st = some (("State" : Str), stF (.int (w : Int)) (.int (l : Int)) (.ref k))
 kp : qNe S k q
theorem Pl.mono {S S' : Sto} {p ss st k : Nat} {xs : List D} {w l : Nat} {q : List (Pt × Nat)} (h : Pl S p ss st k xs w l q) (e : SLe S S') : Pl S' p ss st k xs w l q := ⟨e.ins h.pl, e.lst h.sl, e.ins h.st, h.kp.mono e⟩
theorem Pl.bt {S S' : Sto} {a p ss st k : Nat} {xs : List D} {w l : Nat} {q : List (Pt × Nat)} (h : Pl S p ss st k xs w l q) (e : Bt a S S') (h1 : p ≠ a) (h2 : ss ≠ a) (h3 : st ≠ a) (h4 : k ≠ a) (h5 : ∀ x ∈ q, x.2 ≠ a) : Pl S' p ss st k xs w l q := ⟨e.ins h1 h.pl, e.lst h2 h.sl, e.ins h3 h.st, h.kp.bt e h4 h5⟩
theorem qFy (h : qBc S a = some (c, fs)) (hl : fs.lookup f = some d) : qAt c f (.ref a) S = ok d S := by
 unfold qAt
 simp only [h, hl, if_true]
theorem qOq (h : qBc S a = some (c, fs)) (hl : fs.lookup m = none) : qH2 c m Fm as δ (.ref a) S = bnd (as δ S) (qCe Fm (.ref a)) := by
 unfold qH2
 simp only [h, hl, and_self, if_true]
theorem qOu (h : zH S a = some (xs ++ [d])) : ixD (.ref a) (.int (-1)) S = ok d S := by
 show ixK (zH S a) (-1) S = _
 rw [h]
 have : ixA (xs ++ [d]).length (-1) = some xs.length := by
  unfold ixA
  rw [if_neg (by decide), if_pos (by simp; omega)]
  simp
  omega
 unfold ixK
 simp only [this, jDb]
 simp
section
variable {S : Sto} {p ss st k : Nat} {xs : List D} {w l : Nat} {q : List (Pt × Nat)}
theorem Pl.f1 (h : Pl S p ss st k xs w l q) : qAt "Plane" "states" (.ref p) S = ok (.ref ss) S := qFy h.pl rfl
theorem Pl.f2 (h : Pl S p ss st k xs w l q) : ixD (.ref ss) (.int (-1)) S = ok (.ref st) S := qOu h.sl
theorem Pl.f3 (h : Pl S p ss st k xs w l q) : qAt "State" "wide" (.ref st) S = ok (.int (w : Int)) S := qFy h.st rfl
theorem Pl.f4 (h : Pl S p ss st k xs w l q) : qAt "State" "laid" (.ref st) S = ok (.int (l : Int)) S := qFy h.st rfl
theorem Pl.f5 (h : Pl S p ss st k xs w l q) : qAt "State" "kept" (.ref st) S = ok (.ref k) S := qFy h.st rfl
theorem qIk (h : Pl S p ss st k xs w l q) : F.Plane_width [.ref p] S = ok (.int (w : Int)) S := by
 refine qEy ?_
 (unfold F.Plane_width; refine Np.W_fnF rfl ?_; unfold Den.Plane_width; simp_all [])
 simp_all [h.f1, h.f2, h.f3]
theorem qC1 (a b c : D) (S : Sto) : mkA "State" F.State___init__ [a, b, c] S = ok (.ref S.length) (S ++ [.ins "State" (stF a b c)]) := by
 have e : F.State___init__ [.ref S.length, a, b, c] (S ++ [O.ins "State" []]) = ok .non (S ++ [.ins "State" (stF a b c)]) := by
  refine qEy ?_
  have i0 : ∀ fs, qBc (S ++ [O.ins "State" fs]) S.length = some (("State" : Str), fs) := λ fs => by simp [qBc]
  have st : ∀ fs o, (S ++ [O.ins "State" fs]).set S.length o = S ++ [o] := λ fs o => by simp
  have sf : ∀ (f : Str) (v : D) (fs : List (Str × D)) (δ : DS), fs.length < 900 -> qJr "State" f v δ (.ref S.length) (S ++ [O.ins "State" fs]) = ok (.nx δ) (S ++ [O.ins "State" (qIs f v fs)]) := λ f v fs δ hl => by
   unfold qJr
   simp only [i0]
   rw [if_pos ⟨trivial, hl⟩, st]
  unfold F.State___init__
  refine W_fnF rfl ?_
  unfold Den.State___init__
  have p1 : qIs "wide" a [] = [(("wide" : Str), a)] := rfl
  have p2 : qIs "laid" b [(("wide" : Str), a)] = [(("wide" : Str), a), (("laid" : Str), b)] := rfl
  have p3 : qIs "kept" c [(("wide" : Str), a), (("laid" : Str), b)] = stF a b c := rfl
  simp_all [qDv, qQf, sf "wide" a [] _ (by decide), p1, sf "laid" b [(("wide" : Str), a)] _ (by simp), p2, sf "kept" c [(("wide" : Str), a), (("laid" : Str), b)] _ (by simp), p3]
 unfold mkA
 rw [e]
 rfl
theorem qFw (S : Sto) (c : Str) (fs : List (Str × D)) : qBc (S ++ [O.ins c fs]) S.length = some (c, fs) := by simp [qBc]
theorem qD4 (S : Sto) : F.with_row [.tup [x, y, z, u], r] S = ok (.tup [x, r, z, u]) S := by
 refine qEy ?_
 (unfold F.with_row; refine Np.W_fnF rfl ?_; unfold Den.with_row; simp_all [])
 simp_all [show ixD (.tup [x, y, z, u]) (.int 0) S = ok x S from rfl, show ixD (.tup [x, y, z, u]) (.int 2) S = ok z S from rfl, show ixD (.tup [x, y, z, u]) (.int 3) S = ok u S from rfl, show qBp [x, r, z, u] S = ok (.tup [x, r, z, u]) S from rfl]
theorem qNb (vals : D -> List (Option D)) (xs : List D) (P : D -> Prop) (hP : ∀ x ∈ xs, P x) (hg : Tg g kk vals base P) (ts : List Pt) (hl : ts.length = xs.length)
  (hit : W (it base S) λ src S' => S' = S /\ xs.length <= src.len S /\ src.len S <= 1000000 /\ ∀ i S'', SLe S S'' -> src.get S'' i = some xs[i]?)
  (step : ∀ (i : Nat) x t S', xs[i]? = some x -> ts[i]? = some t -> SLe S S' -> W (e (base ++ vals x) S') λ d S'' => SLe S' S'' /\ ∃ c, S.length <= c /\ d = ptD (t, c) /\ qBu S'' c t.row)
  (fin : ∀ (q' : List (Pt × Nat)) S' c, SLe S S' -> S.length <= c -> qNe S' c q' -> q'.map (·.1) = ts -> (∀ x ∈ q', S.length <= x.2) -> Q (.ref c) S') : W (qA1 it kk g e base S) Q := by
 refine qF9 vals xs (λ i acc S' => SLe S S' /\ ∃ q' : List (Pt × Nat), acc = q'.map ptD /\ q'.map (·.1) = ts.take i /\ ∀ x ∈ q', S.length <= x.2 /\ qBu S' x.2 x.1.row) P hP hg ?_ ?_ ?_
 ·refine hit.mono ?_
  rintro src S' ⟨rfl, h1, h2, h3⟩
  exact ⟨h1, h2, ⟨SLe.rfl, [], rfl, by simp, λ _ h => by cases h⟩, λ i acc S'' h => h3 i S'' h.1⟩
 ·rintro i x acc S' hx ha ⟨l1, q', rfl, hq, hr⟩
  have hi : i < ts.length := by rw [hl]; exact (jAs.mp hx).1
  have ht : ts[i]? = some ts[i] := jDp hi
  refine (step i x ts[i] S' hx ht l1).mono ?_
  rintro d S'' ⟨l2, c, hc, rfl, rc⟩
  refine ⟨l1.trans l2, q' ++ [(ts[i], c)], by simp, ?_, λ y hy => ?_⟩
  ·rw [jDt, hq, jDl, ht]
   rfl
  ·rcases jAq.mp hy with h | h
   ·exact ⟨(hr y h).1, l2.lst (hr y h).2⟩
   ·rw [jCs.mp h]
    exact ⟨hc, rc⟩
 ·rintro acc S' ⟨l1, q', rfl, hq, hr⟩ _
  rw [<- hl, jDm] at hq
  exact fin q' _ _ (l1.push _) l1.len ⟨qAb S' _, λ x hx => (SLe.rfl.push _).lst (hr x hx).2⟩ hq λ x hx => (hr x hx).1
end
end Nm
end
section
namespace Nm
open Np PySem
theorem qIq (h : zH S ss = some (xs ++ [.ref st])) (k : zH S a = some ys) (hy : ∀ d ∈ ys, ∃ zs, d = .tup zs) : a ≠ ss := λ e => by
 subst e
 rw [h] at k
 have := Option.some.inj k
 obtain ⟨zs, q⟩ := hy (.ref st) (by rw [<- this]; simp)
 cases q
theorem qDz (xs : List Rat) : ∀ d ∈ xs.map qAo, ∃ zs, d = .tup zs := λ d h => by
 obtain ⟨q, _, rfl⟩ := jCe.mp h
 exact ⟨_, rfl⟩
theorem qEc (q : List (Pt × Nat)) : ∀ d ∈ q.map ptD, ∃ zs, d = .tup zs := λ d h => by
 obtain ⟨x, _, rfl⟩ := jCe.mp h
 exact ⟨_, rfl⟩
theorem qG2 (hp : sm p) (hq : sm q) (S : Sto) : F.less [qAo p, qAo q] S = ok (.bl (decide (p.num * (q.den : Int) < q.num * (p.den : Int)))) S := by
 refine qEy ?_
 (unfold F.less; refine Np.W_fnF rfl ?_; unfold Den.less; simp_all [])
 simp_all [qAw (hp.nd hq), qAw (hq.nd hp)]
theorem qDg {w : Nat} (h : w <= 12) (S : Sto) : F.is_wide [.int (w : Int)] S = ok (.bl true) S := by
 refine qEy ?_
 (unfold F.is_wide; refine Np.W_fnF rfl ?_; unfold Den.is_wide; simp_all [])
 have h1 : (0 : Int) <= (w : Int) := by omega
 have h2 : (w : Int) <= 12 := by omega
 simp_all [qD5, h1, h2]
theorem qG6 (hq : sm q) (h : 0 < q.num) (S : Sto) : F.is_weight [qAo q] S = ok (.bl true) S := by
 refine qEy ?_
 (unfold F.is_weight; refine Np.W_fnF rfl ?_; unfold Den.is_weight; simp_all [])
 have h0 : sm 0 := ⟨by decide, by decide⟩
 have h1 : (0 : Rat).num * (q.den : Int) < q.num * ((0 : Rat).den : Int) := by
  rw [show (0 : Rat).num = 0 from rfl, show (0 : Rat).den = 1 from rfl]
  omega
 simp_all [qBb, rat0, qG2 h0 hq, h1]
theorem qC5 (ha : qBu S a xs) (hl : xs.length <= 1000) : W (F.is_row [.ref a, .int (xs.length : Int)] S) λ d S' => d = .bl true /\ SLe S S' := by
 (unfold F.is_row; refine Np.W_fnF rfl ?_; unfold Den.is_row; simp_all [])
 have c1 := qO3 (base := [some (.ref a), some (.int (xs.length : Int))]) (it := itE itL (vr 0)) (e := fnE F.is_ratio (zZ (vr 2) aNil)) (g := λ _ => .bl true) (by simp only [Np.itA, Np.itE, Np.zZ, Np.aConsK, Np.aNil, Np.consK, Np.vr, Np.cst, jC0, jCg, Np.bnd_ok]; exact qCv ha) ha (by omega) λ x hx => by
  simp only [jDc, jCb]
  unfold fnE zZ aNil aConsK consK vr
  simp only [jC0, jCg, bnd_ok]
  exact qBb x S
 simp only [jBa, jCr, jDd] at c1
 simp_all [qBl ha, qAi ha, jBh, c1, qD3 (qAb S _) (qF6 (xs := xs.map λ _ => D.bl true) λ d hd => by obtain ⟨_, _, rfl⟩ := jCe.mp hd; rfl)]
 exact ⟨trivial, SLe.app _⟩
theorem qE8 (ha : qBu S a xs) (hl : xs.length <= 1000) (hq : sm wt) (h : 0 < wt.num) : W (F.is_point [.tup [.ref a, qAo want, qAo wt], .int (xs.length : Int)] S) λ d S' => d = .bl true /\ SLe S S' := by
 (unfold F.is_point; refine Np.W_fnF rfl ?_; unfold Den.is_point; simp_all [])
 simp_all [show (((3 : Nat) : Int) = 3) from rfl, qQa, qKg, qP9]
 refine (qC5 ha hl).mono ?_
 rintro d S' ⟨rfl, l⟩
 simp_all [qBb, qG6 hq h, qKg, qP9]
 exact ⟨trivial, l⟩
section
variable {S : Sto} {p ss st k : Nat} {xs : List D} {w l : Nat} {q : List (Pt × Nat)}
def Nx (S S' : Sto) (p ss st : Nat) (xs : List D) (q : List (Pt × Nat)) (w' l' : Nat) (ts : List Pt) : Prop :=
 ∃ st' k' q', Bt ss S S' /\ Pl S' p ss st' k' (xs ++ [.ref st]) w' l' q' /\ S.length <= st' /\ S.length <= k' /\ (∀ x ∈ q', S.length <= x.2 \/ ∃ y ∈ q, y.2 = x.2) /\ q'.map (·.1) = ts
theorem Pl.next (h : Pl S p ss st k xs w l q) (l2 : SLe S S2) (hk : qNe S2 k' q') (n1 : S.length <= k') (n2 : ∀ x ∈ q', S.length <= x.2 \/ ∃ y ∈ q, y.2 = x.2) (e : q'.map (·.1) = ts) (hx : xs.length < 900000) (fin : ∀ S', Nx S S' p ss st xs q w' l' ts -> Q .non S') :
  W (qFg (.ref ss) (.ref S2.length) (S2 ++ [O.ins "State" (stF (.int (w' : Int)) (.int (l' : Int)) (.ref k'))])) Q := by
 have l3 : SLe S2 (S2 ++ [O.ins "State" (stF (.int (w' : Int)) (.int (l' : Int)) (.ref k'))]) := SLe.app _
 have h3 := h.mono (l2.trans l3)
 have hk3 := hk.mono l3
 refine W.intro (qF4 _ h3.sl (by simp; omega)) (fin _ ⟨S2.length, k', q', ((l2.trans l3).bt ss).trans (Bt.set ss _), ⟨?_, qBy h3.sl, ?_, hk3.bt (Bt.set ss _) (qIq h3.sl hk3.1 (qEc _)) λ x hx => qIq h3.sl (hk3.2 x hx) (qDz _)⟩, l2.len, n1, n2, e⟩)
 ·exact (Bt.set ss _).ins (qCo h3.pl h3.sl) h3.pl
 ·have := qFw S2 "State" (stF (.int (w' : Int)) (.int (l' : Int)) (.ref k'))
  exact (Bt.set ss _).ins (qCo this h3.sl) this
theorem qPf (x y z u : D) (S : Sto) : ixD (.tup [x, y, z, u]) (.int 0) S = ok x S := rfl
theorem qKz (x y z u : D) (S : Sto) : ixD (.tup [x, y, z, u]) (.int 1) S = ok y S := rfl
theorem qL9 {i : Nat} {x : D} (hx : (q.map ptD)[i]? = some x) : ∃ y, q[i]? = some y /\ x = ptD y := by
 rw [jBy] at hx
 cases e : q[i]? with
 | none => rw [e] at hx; cases hx
 | some y => rw [e] at hx; exact ⟨y, rfl, (Option.some.inj hx).symm⟩
theorem qNw (h : Pl S p ss st k xs w l q) (hl : q.length <= 1000) : W (F.Plane_points [.ref p] S) λ d S' => ∃ c q', d = .ref c /\ SLe S S' /\ qNe S' c q' /\ q'.map (·.1) = q.map (·.1) /\ S.length <= c /\ ∀ x ∈ q', S.length <= x.2 := by
 (unfold F.Plane_points; refine Np.W_fnF rfl ?_; unfold Den.Plane_points; simp_all [])
 refine qNb (base := [some (.ref p)]) (kk := 1) (λ x => [some x]) (q.map ptD) (λ _ => True) (λ _ _ => trivial) (qDm [some (.ref p)]) (q.map (·.1)) (by simp) ?_ ?_ ?_
 ·simp_all [h.f1, h.f2, h.f5, qCv h.kp.1]
  exact ⟨trivial, by rw [qB6 h.kp.1]; exact jAy _, by rw [qB6 h.kp.1]; simp; omega, λ i S'' l => qMl (l.lst h.kp.1) i⟩
 ·intro i x t S' hx ht lS
  obtain ⟨y, hy, rfl⟩ := qL9 hx
  rw [jBy, hy] at ht
  obtain rfl : y.1 = t := Option.some.inj ht
  have hr := lS.lst (h.kp.2 y (jBz hy))
  unfold ptD
  simp_all [qKz, qC4 hr, qD4]
  exact ⟨SLe.app _, S'.length, lS.len, rfl, qAb S' _⟩
 ·intro q' S' c l1 n1 h1 h2 h3
  exact ⟨c, q', rfl, l1, h1, h2, n1, h3⟩
theorem qVc (h : Pl S p ss st k xs w l q) (ha : qBu S a row) (hw : row.length = w) (hl : q.length <= 1000) (hw2 : w <= 12) (hx : xs.length < 900000) (hq : sm wt) (h0 : 0 < wt.num) (hd : x = .non /\ wt = 1 \/ x = qAo wt) :
  W (F.Plane_lay [.ref p, .ref a, qAo want, x] S) λ d S' => d = .int (l : Int) /\ Nx S S' p ss st xs q w (l + 1) (q.map (·.1) ++ [⟨l, row, want, wt⟩]) := by
 subst hw
 unfold F.Plane_lay
 refine W_fnF rfl ?_
 unfold Den.Plane_lay
 rcases hd with ⟨rfl, e⟩ | rfl
 ·simp_all [h.f1, h.f2, h.f4, qWf, h.f3, show (1 : Rat) = wt from e.symm]
  refine (qE8 ha (by omega) hq h0).mono ?_
  rintro d S1 ⟨rfl, l1⟩
  simp_all [qC4 (l1.lst ha), qWs]
  generalize hS2 : S1 ++ [O.lst (List.map qAo row)] = S2
  have l2 : SLe S1 S2 := ⟨_, hS2.symm⟩
  have r2 : qBu S2 S1.length row := by rw [<- hS2]; exact qAb S1 _
  have h2 := h.mono (l1.trans l2)
  simp_all [h2.f1, qBf h2.sl, mkE, h2.f3, h2.f5, qAh]
  refine qA8 (qAh (by simp) _) λ S3 b l3 n3 r3 => ?_
  have h3 := h2.mono l3
  refine qA8 (qV8 h3.kp.1 r3 (by simp; omega)) λ S4 c l4 n4 r4 => ?_
  simp_all [qC1]
  have hL := (l1.trans l2).trans (l3.trans l4)
  have hL1 := l1.len
  have hL2 := l2.len
  have hL3 := l3.len
  refine (h.next (w' := row.length) (l' := l + 1) (ts := q.map (·.1) ++ [⟨l, row, want, wt⟩]) (q' := q ++ [(⟨l, row, want, wt⟩, S1.length)]) hL ⟨by rw [r4]; simp [ptD], λ x hx => ?_⟩ (by omega) (λ x hx => ?_) (by simp) hx λ S' hS' => ?_)
  ·rcases jAq.mp hx with hx | hx
   ·exact l4.lst (h3.kp.2 x hx)
   ·rw [jCs.mp hx]
    exact l4.lst (l3.lst r2)
  ·rcases jAq.mp hx with hx | hx
   ·exact .inr ⟨x, hx, rfl⟩
   ·rw [jCs.mp hx]
    exact .inl hL1
  ·exact ⟨trivial, hS'⟩
 ·simp_all [h.f1, h.f2, h.f4, qWf, h.f3]
  refine (qE8 ha (by omega) hq h0).mono ?_
  rintro d S1 ⟨rfl, l1⟩
  simp_all [qC4 (l1.lst ha), qWs]
  generalize hS2 : S1 ++ [O.lst (List.map qAo row)] = S2
  have l2 : SLe S1 S2 := ⟨_, hS2.symm⟩
  have r2 : qBu S2 S1.length row := by rw [<- hS2]; exact qAb S1 _
  have h2 := h.mono (l1.trans l2)
  simp_all [h2.f1, qBf h2.sl, mkE, h2.f3, h2.f5, qAh]
  refine qA8 (qAh (by simp) _) λ S3 b l3 n3 r3 => ?_
  have h3 := h2.mono l3
  refine qA8 (qV8 h3.kp.1 r3 (by simp; omega)) λ S4 c l4 n4 r4 => ?_
  simp_all [qC1]
  have hL := (l1.trans l2).trans (l3.trans l4)
  have hL1 := l1.len
  have hL2 := l2.len
  have hL3 := l3.len
  refine (h.next (w' := row.length) (l' := l + 1) (ts := q.map (·.1) ++ [⟨l, row, want, wt⟩]) (q' := q ++ [(⟨l, row, want, wt⟩, S1.length)]) hL ⟨by rw [r4]; simp [ptD], λ x hx => ?_⟩ (by omega) (λ x hx => ?_) (by simp) hx λ S' hS' => ?_)
  ·rcases jAq.mp hx with hx | hx
   ·exact l4.lst (h3.kp.2 x hx)
   ·rw [jCs.mp hx]
    exact l4.lst (l3.lst r2)
  ·rcases jAq.mp hx with hx | hx
   ·exact .inr ⟨x, hx, rfl⟩
   ·rw [jCs.mp hx]
    exact .inl hL1
  ·exact ⟨trivial, hS'⟩
theorem qKc (vals : D -> List (Option D)) (hg : Tg g kk vals base P) (hit : it base S = ok src S) (hs : Has src S ys) (hl : src.len S <= 1000000) (hP : ∀ x ∈ ys, P x)
  (ht : ∀ x ∈ ys, t (base ++ vals x) S = ok (b x) S) (he : ∀ x ∈ ys, e (base ++ vals x) S = ok (f x) S) : qDw it kk g t e base S = ok (.ref S.length) (S ++ [.lst ((ys.filter b).map f)]) := by
 have key : ∀ n i os, os.length = kk -> i <= ys.length -> ys.length <= i + n -> qAs src g t e n i (base ++ os) S = ok (((ys.drop i).filter b).map f) S := by
  intro n
  induction n with
  | zero =>
   intro i os ho hi hn
   unfold qAs
   rw [hs.2 i, jC6 (by omega), jDu (by omega)]
   rfl
  | succ n ih =>
   intro i os ho hi hn
   unfold qAs
   rw [hs.2 i]
   by_cases h : i < ys.length
   ·have hx : ys[i] ∈ ys := jDq h
    obtain ⟨e1, e2⟩ := hg ys[i] os S ho (hP _ hx)
    rw [jDp h]
    show bnd (g ys[i] (base ++ os) S) (qFf t e (qAs src g t e n (i + 1))) = _
    rw [e1, bnd_ok]
    unfold qFf
    rw [ht _ hx, bnd_ok, jDv h]
    cases hb : b ys[i] with
    | true =>
     show bnd (e (base ++ vals ys[i]) S) (qC9 (qAs src g t e n (i + 1)) (base ++ vals ys[i])) = _
     rw [he _ hx, bnd_ok]
     unfold qC9
     rw [ih (i + 1) _ e2 h (by omega), bnd_ok, jDw, hb]
     rfl
    | false =>
     show qAs src g t e n (i + 1) (base ++ vals ys[i]) S = _
     rw [ih (i + 1) _ e2 h (by omega), jDw, hb]
     rfl
   ·rw [jC6 (by omega), jDu (by omega)]
    rfl
 unfold qDw
 rw [hit, bnd_ok]
 unfold qMs
 have hl1 := hs.1
 rw [if_pos hl, key _ 0 _ (by simp) (jBk _) (by omega), List.drop_zero]
 rfl
def qXx (n : Int) : D -> Bool
 | .tup (.int i :: _) => !decide (i = n)
 | _ => false
def qSk : D -> D
 | .tup (x :: _) => x
 | x => x
theorem qFb (n : Nat) : ∀ q : List (Pt × Nat), ((q.map ptD).filter (qXx n)) = (q.filter λ x => decide (x.1.num ≠ n)).map ptD
 | [] => rfl
 | x :: q => by
  have e : qXx n (ptD x) = decide (x.1.num ≠ n) := by
   show (!decide ((x.1.num : Int) = (n : Int))) = _
   by_cases h : x.1.num = n
   ·simp [h]
   ·have : ¬ (x.1.num : Int) = (n : Int) := by omega
    simp [h, this]
  rw [jBf, jDw, jDw, qFb n q, e]
  split <;> rfl
theorem qS3 (h : Pl S p ss st k xs w l q) {n : Nat} (hl : q.length <= 1000) (hx : xs.length < 900000) (hn : n ∈ q.map (·.1.num)) :
  W (F.Plane_take [.ref p, .int (n : Int)] S) λ d S' => Nx S S' p ss st xs q w l ((q.map (·.1)).filter λ t => decide (t.num ≠ n)) := by
 (unfold F.Plane_take; refine Np.W_fnF rfl ?_; unfold Den.Plane_take; simp_all [])
 have c1 : qA1 (itE itL (op1 (qAt "State" "kept") (vr 2))) 1 (setG 4) (op2 ixD (vr 4) (cst (.int 0))) [some (.ref p), some (.int (n : Int)), some (.ref st), none] S = ok (.ref S.length) (S ++ [.lst ((q.map (·.1.num)).map qE2)]) := by
  refine (qC8 (λ x => [some x]) (xs := q.map ptD) (f := qSk) (qDm [some (.ref p), some (.int (n : Int)), some (.ref st), none]) (src := .one k) (by simp only [itE, op1, vr, jC0, jCg, bnd_ok, h.f5, qCv h.kp.1]) (Has.one h.kp.1) (by rw [qB6 h.kp.1]; simp; omega) (λ _ _ => trivial) λ x hx => by
   obtain ⟨y, _, rfl⟩ := jCe.mp hx
   rfl).trans ?_
  simp [jCh, Function.comp_def, qSk, ptD, qE2]
 simp_all [h.f1, h.f2, qD5, c1, qEh (qAb S _), hn]
 generalize hS2 : S ++ [O.lst (List.map qE2 (List.map (λ x => x.fst.num) q))] = S2
 have l2 : SLe S S2 := ⟨_, hS2.symm⟩
 have h2 := h.mono l2
 have c2 : qDw (itE itL (op1 (qAt "State" "kept") (vr 2))) 1 (setG 4) (tv (op2 neD (op2 ixD (vr 4) (cst (.int 0))) (vr 1))) (vr 4) [some (.ref p), some (.int (n : Int)), some (.ref st), none] S2 = ok (.ref S2.length) (S2 ++ [.lst ((q.filter λ x => decide (x.1.num ≠ n)).map ptD)]) := by
  refine (qKc (λ x => [some x]) (ys := q.map ptD) (b := qXx n) (f := λ x => x) (qDm [some (.ref p), some (.int (n : Int)), some (.ref st), none]) (src := .one k) (by simp only [itE, op1, vr, jC0, jCg, bnd_ok, h2.f5, qCv h2.kp.1]) (Has.one h2.kp.1) (by rw [qB6 h2.kp.1]; simp; omega) (λ _ _ => trivial) (λ x hx => by
   obtain ⟨y, _, rfl⟩ := jCe.mp hx
   simp only [tv, op2, op2K, vr, cst, jDc, jCb, jC0, jCg, bnd_ok, ptD, qPf, neD_int]
   rfl) (λ x hx => by
   obtain ⟨y, _, rfl⟩ := jCe.mp hx
   rfl)).trans ?_
  rw [List.map_id', qFb]
 simp_all [c2]
 generalize hS3 : S2 ++ [O.lst (List.map ptD (List.filter (λ x => decide (x.fst.num ≠ n)) q))] = S3
 have l3 : SLe S2 S3 := ⟨_, hS3.symm⟩
 have r3 : zH S3 S2.length = some ((q.filter λ x => decide (x.1.num ≠ n)).map ptD) := by rw [<- hS3]; exact qAb S2 _
 have h3 := h2.mono l3
 simp_all [h3.f1, qBf h3.sl, mkE, h3.f3, h3.f4, qC1]
 refine (h.next (w' := w) (l' := l) (ts := (q.map (·.1)).filter λ t => decide (t.num ≠ n)) (q' := q.filter λ x => decide (x.1.num ≠ n)) (l2.trans l3) ⟨r3, λ x hx => h3.kp.2 x (jAi.mp hx).1⟩ l2.len (λ x hx => .inr ⟨x, (jAi.mp hx).1, rfl⟩) ?_ hx λ S' hS' => hS')
 rw [List.filter_map]
 rfl
def qWq (t : Pt) (c : Rat) : Pt := { t with row := t.row ++ [c] }
theorem qLy {ys zs : List D} {i : Nat} {x : D} (h : (qBj ys zs)[i]? = some x) : ∃ u v, ys[i]? = some u /\ zs[i]? = some v /\ x = .tup [u, v] := by
 unfold qBj at h
 rw [jDj] at h
 cases e1 : ys[i]? with
 | none => rw [e1] at h; cases h
 | some u =>
  cases e2 : zs[i]? with
  | none => rw [e1, e2] at h; cases h
  | some v =>
   rw [e1, e2] at h
   exact ⟨u, v, rfl, rfl, (Option.some.inj h).symm⟩
theorem qP5 (h : Pl S p ss st k xs w l q) {a : Nat} {cs : List Rat} (ha : qBu S a cs) (hc : cs.length = q.length) (hw : w < 12) (hr : ∀ x ∈ q, x.1.row.length <= 1000) (hl : q.length <= 1000) (hx : xs.length < 900000) :
  W (F.Plane_widen [.ref p, .ref a] S) λ d S' => Nx S S' p ss st xs q (w + 1) l (jDi qWq (q.map (·.1)) cs) := by
 (unfold F.Plane_widen; refine Np.W_fnF rfl ?_; unfold Den.Plane_widen; simp_all [])
 have hw1 : ((w : Int) + 1) = ((w + 1 : Nat) : Int) := by omega
 simp_all [h.f1, h.f2, h.f3, hw1, qDg (show w + 1 <= 12 by omega), h.f5, qAi h.kp.1, jBh, <- hc]
 refine (qC5 ha (by omega)).mono ?_
 rintro d S1 ⟨rfl, l1⟩
 have h1 := h.mono l1
 have ha1 : qBu S1 a cs := l1.lst ha
 simp_all []
 refine qNb (base := [some (.ref p), some (.ref a), some (.ref st), none]) (kk := 2) (λ x => [pr1 x, pr2 x]) (qBj (q.map ptD) (cs.map qAo)) (λ x => ∃ p q, x = .tup [p, q]) (λ x hx => qEj hx) (qK0 [some (.ref p), some (.ref a), some (.ref st), none]) (jDi qWq (q.map (·.1)) cs) (by simp [qBj]) ?_ ?_ ?_
 ·simp_all [h1.f5, qGc h1.kp.1 ha1]
  exact ⟨trivial, by rw [qFr h1.kp.1]; simp [qBj]; omega, by rw [qFr h1.kp.1]; simp; omega, λ i S'' l => qMk (l.lst h1.kp.1) (l.lst ha1) i⟩
 ·intro i x t S' hx ht lS
  obtain ⟨u, v, hu, hv, rfl⟩ := qLy hx
  obtain ⟨y, hy, rfl⟩ := qL9 hu
  rw [jBy] at hv
  cases ec : cs[i]? with
  | none => rw [ec] at hv; cases hv
  | some c =>
   rw [ec] at hv
   obtain rfl := Option.some.inj hv
   rw [jDj, jBy, hy, ec] at ht
   obtain rfl := Option.some.inj ht
   have hym := jBz hy
   have hr' := lS.lst (h1.kp.2 y hym)
   have hrl := hr y hym
   unfold ptD
   simp_all [pr1, pr2, qKz]
   refine qA8 (qAh (by simp) _) λ S2 b l2 n2 r2 => ?_
   refine qA8 (qV8 (l2.lst hr') r2 (by simp; omega)) λ S3 d l3 n3 r3 => ?_
   simp_all [qD4]
   have e1 := lS.len
   have e2 := l2.len
   exact ⟨l2.trans l3, d, by omega, rfl, by show zH _ _ = _; rw [r3]; simp [qWq]⟩
 ·intro q' S2 c l2 n2 r2 hq' hn
  have h2 := h1.mono l2
  have e1 := l1.len
  simp_all [h2.f1, qBf h2.sl, mkE, h2.f3, h2.f4, hw1, qC1]
  exact (h.next (w' := w + 1) (l' := l) (l1.trans l2) r2 (by omega) (λ x hx => .inl (jAk e1 (hn x hx))) hq' hx λ S' hS' => hS')
theorem qNy {w : Nat} (hw : w <= 12) (S : Sto) : W (mkA "Plane" F.Plane___init__ [.int (w : Int)] S) λ d S' => ∃ ss st k, d = .ref S.length /\ SLe S S' /\ Pl S' S.length ss st k [] w 0 [] /\ S.length <= ss /\ S.length <= st /\ S.length <= k := by
 have e : W (F.Plane___init__ [.ref S.length, .int (w : Int)] (S ++ [O.ins "Plane" []])) λ d S' => d = .non /\ ∃ ss st k, SLe S S' /\ Pl S' S.length ss st k [] w 0 [] /\ S.length <= ss /\ S.length <= st /\ S.length <= k := by
  (unfold F.Plane___init__; refine Np.W_fnF rfl ?_; unfold Den.Plane___init__; simp_all [])
  simp_all [qDg hw, qDv, mkE]
  refine qA8 (qAh (by simp) _) λ S2 k l2 n2 r2 => ?_
  simp_all [qC1]
  generalize hS3 : S2 ++ [O.ins "State" (stF (.int (w : Int)) (.int 0) (.ref k))] = S3
  have l3 : SLe S2 S3 := ⟨_, hS3.symm⟩
  have i3 : qBc S3 S2.length = some (("State" : Str), stF (.int (w : Int)) (.int 0) (.ref k)) := by rw [<- hS3]; exact qFw S2 _ _
  refine qA8 (qAh (by simp) _) λ S4 ss l4 n4 r4 => ?_
  have i4 : qBc S4 S.length = some (("Plane" : Str), []) := (l2.trans (l3.trans l4)).ins (qFw S _ _)
  have e1 := l2.len
  have e2 := l3.len
  have e3 := l4.len
  have n0 : S.length < (S ++ [O.ins "Plane" []]).length := by simp
  have sf : ∀ δ, qJr "Plane" "states" (.ref ss) δ (.ref S.length) S4 = ok (.nx δ) (S4.set S.length (.ins "Plane" (plF ss))) := λ δ => by
   unfold qJr
   simp only [i4]
   rw [if_pos ⟨trivial, by decide⟩]
   rfl
  simp_all [qQf, sf]
  have bt := Bt.set (S := S4) S.length (O.ins "Plane" (plF ss))
  have l5 : SLe S (S4.set S.length (O.ins "Plane" (plF ss))) := ((SLe.app _).trans (l2.trans (l3.trans l4))).set (jAy _) _
  refine ⟨trivial, ss, S2.length, k, l5, ⟨?_, bt.lst (by omega) r4, bt.ins (by omega) (l4.ins i3), ⟨bt.lst (by omega) (l4.lst (l3.lst r2)), λ _ h => by cases h⟩⟩, by omega, by omega, by omega⟩
  have : S.length < S4.length := by omega
  simp [qBc, this]
 obtain ⟨d, S', e0, rfl, ss, st, k, h1, h2, h3, h4, h5⟩ := e.out
 unfold mkA
 rw [e0]
 show W (some (.ok (D.ref S.length) S')) _
 rw [W_ok]
 exact ⟨ss, st, k, rfl, h1, h2, h3, h4, h5⟩
end
end Nm
end
section
namespace Nm
open Np PySem
def Bts (L : List Nat) (S S' : Sto) : Prop := S.length <= S'.length /\ ∀ b, b < S.length -> b ∉ L -> S'[b]? = S[b]?
theorem Bts.rfl : Bts L S S := ⟨jAy _, λ _ _ _ => Eq.refl _⟩
theorem Bt.bts (h : Bt a S S') (ha : a ∈ L) : Bts L S S' := ⟨h.1, λ b hb hn => h.2 b hb λ e => hn (e ▸ ha)⟩
theorem Bts.trans (h : Bts L S S') (k : Bts L S' S'') : Bts L S S'' := ⟨jAk h.1 k.1, λ b hb hn => by rw [k.2 b (jAd hb h.1) hn, h.2 b hb hn]⟩
theorem Bts.lst (h : Bts L S S') (hn : b ∉ L) (e : zH S b = some xs) : zH S' b = some xs := by rw [qD1 (h.2 b (qAp e) hn)]; exact e
theorem qE4 (h : zH S a = some xs) (k : zH S b = some ys) (hn : xs ≠ ys) : a ≠ b := λ e => by
 subst e
 rw [h] at k
 exact hn (Option.some.inj k)
theorem Pl.meth {S : Sto} {p ss st k : Nat} {xs : List D} {w l : Nat} {q : List (Pt × Nat)} (h : Pl S p ss st k xs w l q) {m : Str} {Fm : List D -> Sto -> R D} {as : DA} {δ : DS} (hm : (m == ("states" : Str)) = false) : qH2 "Plane" m Fm as δ (.ref p) S = bnd (as δ S) (qCe Fm (.ref p)) := qOq h.pl (by simp [plF, jBe, hm])
structure Ls (S : Sto) (s ps w l : Nat) (r : List (Pt × Nat)) : Prop where
 st : zH S s = some [.int (w : Int), .ref ps, .int (l : Int)]
 pt : qNe S ps r
 nd : (r.map (·.2)).Nodup
theorem Ls.mono (h : Ls S s ps w l r) (e : SLe S S') : Ls S' s ps w l r := ⟨e.lst h.st, h.pt.mono e, h.nd⟩
theorem Ls.bt (h : Ls S s ps w l r) (e : Bt a S S') (h1 : s ≠ a) (h2 : ps ≠ a) (h3 : ∀ x ∈ r, x.2 ≠ a) : Ls S' s ps w l r := ⟨e.lst h1 h.st, h.pt.bt e h2 h3, h.nd⟩
structure Two (S : Sto) (p s ss st k ps : Nat) (xs : List D) (w l : Nat) (q r : List (Pt × Nat)) (w' l' : Nat) : Prop where
 P : Pl S p ss st k xs w l q
 L : Ls S s ps w' l' r
 kp : k ≠ ps
 qr : ∀ x ∈ q, ∀ y ∈ r, x.2 ≠ y.2
section
variable {S S' : Sto} {p s ss st k ps : Nat} {xs : List D} {w l w' l' : Nat} {q r : List (Pt × Nat)}
theorem Two.mono (h : Two S p s ss st k ps xs w l q r w' l') (e : SLe S S') : Two S' p s ss st k ps xs w l q r w' l' := ⟨h.P.mono e, h.L.mono e, h.kp, h.qr⟩
theorem qTn (x : Pt × Nat) (v : Rat) : ptD x ≠ qAo v := λ h => by
 unfold ptD qAo at h
 injection h with h
 have := congrArg jBt h
 simp at this
theorem qB3 {q : List (Pt × Nat)} {row : List Rat} (h : q ≠ []) : q.map ptD ≠ row.map qAo := λ e => by
 cases q with
 | nil => exact h rfl
 | cons x q =>
  cases row with
  | nil => cases e
  | cons v row =>
   injection e with e1 _
   exact qTn x v e1
theorem Two.ss_s (h : Two S p s ss st k ps xs w l q r w' l') : ss ≠ s := qE4 h.P.sl h.L.st λ e => by
 have := congrArg List.getLast? e
 simp at this
theorem Two.ps_ss (h : Two S p s ss st k ps xs w l q r w' l') : ps ≠ ss := qIq h.P.sl h.L.pt.1 (qEc _)
theorem Two.row_ss (h : Two S p s ss st k ps xs w l q r w' l') (hy : y ∈ r) : y.2 ≠ ss := qIq h.P.sl (h.L.pt.2 y hy) (qDz _)
theorem Two.s_tup (h : Two S p s ss st k ps xs w l q r w' l') (ha : zH S a = some ys) (hy : ∀ d ∈ ys, ∃ zs, d = .tup zs) : a ≠ s := qE4 ha h.L.st λ e => by
 obtain ⟨zs, e⟩ := hy (.int (w' : Int)) (by rw [e]; simp)
 cases e
theorem Two.p_s (h : Two S p s ss st k ps xs w l q r w' l') (ha : zH S a = some ys) : p ≠ a := qCo h.P.pl ha
theorem Two.st_s (h : Two S p s ss st k ps xs w l q r w' l') (ha : zH S a = some ys) : st ≠ a := qCo h.P.st ha
theorem Two.step (h : Two S p s ss st k ps xs w l q r w' l') (n : Nx S S' p ss st xs q w2 l2 ts) : ∃ st' k' q', Two S' p s ss st' k' ps (xs ++ [.ref st]) w2 l2 q' r w' l' /\ Bt ss S S' /\ S.length <= st' /\ S.length <= k' /\ (∀ x ∈ q', S.length <= x.2 \/ ∃ y ∈ q, y.2 = x.2) /\ q'.map (·.1) = ts := by
 obtain ⟨st', k', q', b, P, h1, h2, h3, h4⟩ := n
 refine ⟨st', k', q', ⟨P, h.L.bt b h.ss_s.symm h.ps_ss λ y hy => h.row_ss hy, ?_, λ x hx y hy => ?_⟩, b, h1, h2, h3, h4⟩
 ·have := qAp h.L.pt.1
  omega
 ·rcases h3 x hx with z | ⟨z, hz, e⟩
  ·have := qAp (h.L.pt.2 y hy)
   omega
  ·rw [<- e]
   exact h.qr z hz y hy
theorem Two.aside (h : Two S p s ss st k ps xs w l q r w' l') (b : Bt a S S') (h1 : p ≠ a) (h2 : ss ≠ a) (h3 : st ≠ a) (h4 : k ≠ a) (h5 : ∀ x ∈ q, x.2 ≠ a) (h6 : s ≠ a) (h7 : ps ≠ a) (h8 : ∀ x ∈ r, x.2 ≠ a) : Two S' p s ss st k ps xs w l q r w' l' := ⟨h.P.bt b h1 h2 h3 h4 h5, h.L.bt b h6 h7 h8, h.kp, h.qr⟩
theorem Two.lt (h : Two S p s ss st k ps xs w l q r w' l') : p < S.length /\ ss < S.length /\ st < S.length /\ k < S.length /\ (∀ x ∈ q, x.2 < S.length) /\ s < S.length /\ ps < S.length /\ ∀ x ∈ r, x.2 < S.length :=
 ⟨qD2 h.P.pl, qAp h.P.sl, qD2 h.P.st, qAp h.P.kp.1, λ x hx => qAp (h.P.kp.2 x hx), qAp h.L.st, qAp h.L.pt.1, λ x hx => qAp (h.L.pt.2 x hx)⟩
theorem Two.setS (h : Two S p s ss st k ps xs w l q r w' l') {w2 l2 : Nat} (e : zH S' s = some [.int (w2 : Int), .ref ps, .int (l2 : Int)]) (b : Bt s S S') : Two S' p s ss st k ps xs w l q r w2 l2 :=
 ⟨h.P.bt b (h.p_s h.L.st) h.ss_s (h.st_s h.L.st) (h.s_tup h.P.kp.1 (qEc _)) λ x hx => h.s_tup (h.P.kp.2 x hx) (qDz _), ⟨e, h.L.pt.bt b (h.s_tup h.L.pt.1 (qEc _)) λ x hx => h.s_tup (h.L.pt.2 x hx) (qDz _), h.L.nd⟩, h.kp, h.qr⟩
theorem Two.setP (h : Two S p s ss st k ps xs w l q r w' l') (e : zH S' ps = some (r2.map ptD)) (b : Bt ps S S') (nq : ∀ x ∈ q, x.2 ≠ ps) (hr : ∀ x ∈ r2, x.2 ≠ ps /\ qBu S x.2 x.1.row) (nd : (r2.map (·.2)).Nodup) (hq : ∀ x ∈ q, ∀ y ∈ r2, x.2 ≠ y.2) : Two S' p s ss st k ps xs w l q r2 w' l' :=
 ⟨h.P.bt b (h.p_s h.L.pt.1) h.ps_ss.symm (h.st_s h.L.pt.1) h.kp nq, ⟨b.lst (h.s_tup h.L.pt.1 (qEc _)).symm h.L.st, ⟨e, λ x hx => b.lst (hr x hx).1 (hr x hx).2⟩, nd⟩, h.kp, hq⟩
end
structure Ok (n w l : Nat) (ts : List Pt) : Prop where
 len : ts.length <= n
 wide : w <= 12
 laid : l <= n
 nums : (ts.map (·.num)).Nodup
 each : ∀ t ∈ ts, t.num < l /\ t.row.length = w /\ (∀ x ∈ t.row, Le 150 x) /\ Le 70 t.want /\ Le 70 t.wt /\ 0 < t.wt.num
def Bo (S : Sto) (p s n w l : Nat) (ts : List Pt) : Prop := ∃ ss st k ps xs q r, Two S p s ss st k ps xs w l q r w l /\ q.map (·.1) = ts /\ r.map (·.1) = ts /\ xs.length <= n /\ Ok n w l ts
theorem qM7 : ∀ {q r : List (Pt × Nat)}, q.map (·.1) = r.map (·.1) -> (∀ x ∈ q, qBu S x.2 x.1.row /\ x.1.row.length <= 1000) -> (∀ x ∈ r, qBu S x.2 x.1.row) -> Al2 (Al S 6) (q.map ptD) (r.map ptD)
 | [], [], _, _, _ => trivial
 | x :: q, y :: r, e, h1, h2 => by
  injection e with e1 e2
  have e1 : x.1 = y.1 := e1
  refine ⟨.inr (.inl ⟨_, _, rfl, rfl, by simp, ⟨.inl ⟨_, rfl, by rw [e1]⟩, ?_, ?_, ?_, trivial⟩⟩), qM7 e2 (λ z hz => h1 z (.tail _ hz)) λ z hz => h2 z (.tail _ hz)⟩
  ·refine qV7 2 (h1 x (.head _)).1 ?_ (h1 x (.head _)).2
   rw [e1]
   exact h2 y (.head _)
  ·rw [e1]; exact qM6 S 3 _
  ·rw [e1]; exact qM6 S 3 _
 | [], _ :: _, e, _, _ => by cases e
 | _ :: _, [], e, _, _ => by cases e
theorem qIp {S : Sto} {p s n w l : Nat} {ts : List Pt} (h : Bo S p s n w l ts) (hn : n <= 900) : W (F.k52_stands [.ref p, .ref s] S) λ d S' => d = .bl true /\ SLe S S' := by
 obtain ⟨ss, st, k, ps, xs, q, r, T, eq, er, hx, O⟩ := h
 have lq : q.length = ts.length := by rw [<- eq]; simp
 have ol := O.len
 (unfold F.k52_stands; refine Np.W_fnF rfl ?_; unfold Den.k52_stands; simp_all [])
 simp_all [qAg, T.P.meth (m := "width") rfl, qCe, qIk T.P, qBr T.L.st rfl]
 refine (qDj (n := 7) (show Al S 7 (.int (w : Int)) (.int (w : Int)) from .inl ⟨_, rfl, rfl⟩)).mono ?_
 rintro d S1 ⟨rfl, l1⟩
 have T1 := T.mono l1
 simp_all [qAg, T1.P.meth (m := "points") rfl, qCe]
 refine (qNw T1.P (by omega)).mono ?_
 rintro d S2 ⟨c, q', rfl, l2, hc, hq', _⟩
 have T2 := T1.mono l2
 simp_all [qA7 T2.L.st rfl]
 refine (qDj (n := 7) (show Al S2 7 (.ref c) (.ref ps) from .inr (.inr ⟨c, ps, _, _, rfl, rfl, hc.1, T2.L.pt.1, ?_, qM7 (by rw [hq', eq, er]) (λ x hx => ⟨hc.2 x hx, ?_⟩) T2.L.pt.2⟩))).mono ?_
 ·have := congrArg jBt hq'
  simp at this ⊢
  omega
 ·have : x.1 ∈ ts := by rw [<- eq, <- hq']; exact jCe.mpr ⟨x, hx, rfl⟩
  have h1 := (O.each _ this).2.1
  have h2 := O.wide
  omega
 ·rintro d S3 ⟨rfl, l3⟩
  simp_all []
  exact ⟨trivial, (l1.trans l2).trans l3⟩
end Nm
end
section
namespace Nm
open Np PySem
theorem qP0 (h : zH S b = some xs) (hl : xs.length < 1000000) (k : ∀ S', Bt b S S' -> S'.length = S.length -> zH S' b = some (xs ++ [d]) -> Q .non S') : W (qFg (.ref b) d S) Q :=
 W.intro (qF4 d h hl) (k _ (Bt.set b _) (by simp) (qBy h))
theorem qPz (h : zH S b = some xs) (hi : i < xs.length) (k : ∀ S', Bt b S S' -> S'.length = S.length -> zH S' b = some (xs.set i v) -> Q δ S') : W (qK4 v δ (.ref b) (.int (i : Int)) S) Q :=
 W.intro (qGm v δ h hi) (k _ (Bt.set b _) (by simp) (qBy h))
theorem qPc (h : zH S b = some xs) (hi : xs[i]? = some d) (hl : i < 1000000) (k : ∀ S', Bt b S S' -> S'.length = S.length -> zH S' b = some (xs.eraseIdx i) -> Q d S') : W (qDo (.ref b) (.int (i : Int)) S) Q := by
 have e : qDo (.ref b) (.int (i : Int)) S = ok d (S.set b (.lst (xs.eraseIdx i))) := by
  unfold qDo
  simp only [h, jCz, hi]
  rw [if_pos ⟨by omega, by omega⟩]
 exact W.intro e (k _ (Bt.set b _) (by simp) (qBy h))
theorem qDs : ∀ {ts : List Pt} {a : Nat} {t : Pt}, (ts.map (·.num)).Nodup -> ts[a]? = some t -> (ts.filter λ u => decide (u.num ≠ t.num)) = ts.eraseIdx a
 | [], _, _, _, h => by simp at h
 | u :: ts, 0, t, hn, h => by
  obtain rfl : u = t := by simpa using h
  rw [jDw, if_neg (by simp)]
  rw [jBf, jBo] at hn
  rw [List.eraseIdx_cons_zero]
  refine List.filter_eq_self.mpr λ v hv => ?_
  refine decide_eq_true λ e => hn.1 ?_
  rw [<- e]
  exact jCe.mpr ⟨v, hv, rfl⟩
 | u :: ts, a + 1, t, hn, h => by
  rw [jCg] at h
  rw [jBf, jBo] at hn
  have : u.num ≠ t.num := λ e => hn.1 (by rw [e]; exact jCe.mpr ⟨t, jBz h, rfl⟩)
  rw [jDw, if_pos (by simpa using this), List.eraseIdx_cons_succ, qDs hn.2 h]
theorem qBx (f : α -> β) : ∀ (xs : List α) (i : Nat), (xs.eraseIdx i).map f = (xs.map f).eraseIdx i
 | [], _ => by simp
 | _ :: _, 0 => by simp
 | x :: xs, i + 1 => by simp [qBx f xs i]
section
variable {S : Sto} {p s n w l : Nat} {ts : List Pt}
theorem qWm {q : List (Pt × Nat)} : q.map (·.1.num) = (q.map (·.1)).map (·.num) := by rw [jCh]; rfl
theorem qA0 (P : DS -> Sto -> Prop) (h : W (A δ S) λ fl S' => ∃ δ', fl = .nx δ' /\ P δ' S') (k : ∀ δ' S', P δ' S' -> W (B δ' S') Q) : W (seqS A B δ S) Q := by
 unfold seqS
 rw [W_bnd]
 refine h.mono ?_
 rintro fl S' ⟨δ', rfl, hp⟩
 exact k δ' S' hp
theorem qSz (a b c : DG) (x y z : D) (δ : DS) (S : Sto) : qHo [a, b, c] (.tup [x, y, z]) δ S = tupGs [a, b, c] [x, y, z] δ S := rfl
end
theorem qTe (h : ((jDk a n).map f)[i]? = some x) : x = f (a + i) /\ i < n := by
 rw [jBy] at h
 cases e : (jDk a n)[i]? with
 | none => rw [e] at h; cases h
 | some y =>
  rw [e] at h
  obtain ⟨h1, h2⟩ := jAs.mp e
  rw [List.length_range'] at h1
  rw [List.getElem_range'] at h2
  refine ⟨?_, h1⟩
  rw [<- Option.some.inj h, <- h2, Nat.one_mul]
end Nm
end
section
namespace Nm
open Np PySem
theorem qLj (hp : sm p) (hq : sm q) (S : Sto) : F.k52_plus [qAo p, qAo q] S = ok (qAo (p + q)) S := by
 refine qEy ?_
 (unfold F.k52_plus; refine Np.W_fnF rfl ?_; unfold Den.k52_plus; simp_all [])
 simp_all [qAw (hp.nd hq), qAw (hq.nd hp), qAw (hp.dd hq), qG1 (show (0 : Int) < p.den * q.den from Int.mul_pos (qC7 p) (qC7 q)), <- qFh]
theorem qNx {n : Int} (h0 : 0 <= n) {k : Nat} (hk : k < 900) (lean : Bool) (S : Sto) : W (F.k52_point [.int n, .int (k : Int), .bl lean] S) λ d S' => ∃ c xs want wt, d = .tup [.ref c, qAo want, qAo wt] /\ S.length <= c /\ SLe S S' /\ qBu S' c xs /\ xs.length = k /\ (∀ x ∈ xs, Le 150 x) /\ Le 70 want /\ Le 70 wt /\ 0 < wt.num := by
 unfold F.k52_point
 refine W_fnF rfl ?_
 rw [W_outF]
 unfold Den.k52_point
 refine qA0 (λ δ' S' => S' = S /\ δ' = [some (.int (n.fdiv 100003)), some (.int (k : Int)), some (.bl lean), some (.int (n.fmod 100003)), none, none]) ?_ ?_
 ·simp_all [qFc (show (100003 : Int) ≠ 0 by decide), qKw]
  exact ⟨_, rfl, trivial, rfl⟩
 rintro _ S' ⟨e, rfl⟩
 obtain rfl : S = S' := e.symm
 refine qA0 (λ δ' S' => S' = S /\ δ' = [some (.int ((n.fdiv 100003).fdiv 6)), some (.int (k : Int)), some (.bl lean), some (.int (n.fmod 100003)), some (.int ((n.fdiv 100003).fmod 6)), none]) ?_ ?_
 ·simp_all [qFc (show (6 : Int) ≠ 0 by decide), qKw]
  exact ⟨_, rfl, trivial, rfl⟩
 rintro _ S' ⟨e, rfl⟩
 obtain rfl : S = S' := e.symm
 refine qA0 (λ δ' S' => ∃ c xs, δ' = [some (.int ((n.fdiv 100003).fdiv 6)), some (.int (k : Int)), some (.bl lean), some (.int (n.fmod 100003)), some (.int ((n.fdiv 100003).fmod 6)), some (.ref c)] /\ S.length <= c /\ SLe S S' /\ qBu S' c xs /\ xs.length = k /\ ∀ x ∈ xs, Le 70 x) ?_ ?_
 ·simp_all []
  refine (qD8 ((n.fdiv 100003).fdiv 6) hk S).mono ?_
  rintro d S1 ⟨c, xs, rfl, hc, l1, rc, hl, hx⟩
  exact ⟨_, rfl, c, xs, rfl, hc, l1, rc, hl, hx⟩
 rintro _ S0 ⟨c, xs0, rfl, hc, l0, rc0, hl0, hx0⟩
 refine qA0 (λ δ' S' => ∃ xs, δ' = [some (.int ((n.fdiv 100003).fdiv 6)), some (.int (k : Int)), some (.bl lean), some (.int (n.fmod 100003)), some (.int ((n.fdiv 100003).fmod 6)), some (.ref c)] /\ SLe S S' /\ qBu S' c xs /\ xs.length = k /\ ∀ x ∈ xs, Le 150 x) ?_ ?_
 ·have w150 : ∀ x ∈ xs0, Le 150 x := λ x hx => (hx0 x hx).mono (by decide)
  cases lean with
  | false =>
   simp_all []
   exact ⟨_, rfl, xs0, rfl, l0, rc0, hl0, w150⟩
  | true =>
   by_cases h1 : (1 : Int) < (k : Int)
   ·have k1 : k - 1 < xs0.length := by omega
    have k2 : k - 2 < xs0.length := by omega
    have k0 : 0 < xs0.length := by omega
    have e1 : ((k : Int) - 1) = ((k - 1 : Nat) : Int) := by omega
    have e2 : ((k : Int) - 2) = ((k - 2 : Nat) : Int) := by omega
    have g0 : (xs0.map qAo)[0]? = some (qAo xs0[0]) := by simp [k0]
    have g2 : (xs0.map qAo)[k - 2]? = some (qAo xs0[k - 2]) := by simp [k2]
    have z0 := hx0 _ (jDq k0)
    have z2 := hx0 _ (jDq k2)
    simp_all [h1, qBr rc0 g0, e2, qAf rc0 g2, qLj (z0.sm (by decide)) (z2.sm (by decide)), e1, qGl, qNs]
    refine qV9 rc0 (by simpa using k1) λ S' _ kS _ r' => ?_
    refine ⟨_, rfl, xs0.set (k - 1) (xs0[0] + xs0[k - 2]), rfl, kS _ l0 hc, by show zH _ _ = _; rw [r', List.map_set], by simp [hl0], λ x hx => ?_⟩
    rcases jDr hx with hx | rfl
    ·exact w150 x hx
    ·exact (z0.add z2).mono (by decide)
   ·simp_all [h1]
    exact ⟨_, rfl, xs0, rfl, l0, rc0, hl0, w150⟩
 rintro _ S1 ⟨xs, rfl, l1, rc, hl, hx⟩
 obtain ⟨g1, g2⟩ := qAm n (show (0 : Int) < 100003 by decide)
 simp_all []
 refine (qGp g1 g2 S1).mono ?_
 rintro d S2 ⟨l2, want, hw, rfl⟩
 simp_all [tup2, qWf]
 refine qA8 (qAh (by simp) _) λ S3 b l3 n3 hp => ?_
 obtain ⟨i1, i2⟩ := qAm (n.fdiv 100003) (show (0 : Int) < 6 by decide)
 have hq : ∃ wt : Rat, Le 70 wt /\ 0 < wt.num /\ ixD (.ref b) (.int ((n.fdiv 100003).fmod 6)) S3 = ok (qAo wt) S3 := by
  generalize (n.fdiv 100003).fmod 6 = j at i1 i2
  have : j = 0 \/ j = 1 \/ j = 2 \/ j = 3 \/ j = 4 \/ j = 5 := by omega
  rcases this with rfl | rfl | rfl | rfl | rfl | rfl
  ·exact ⟨1, ⟨by decide, by decide⟩, by decide, qAf (i := 0) hp rfl⟩
  ·exact ⟨1, ⟨by decide, by decide⟩, by decide, qAf (i := 1) hp rfl⟩
  ·exact ⟨mkRat 1 2, ⟨by decide, by decide⟩, by decide, qAf (i := 2) hp (by show some (D.tup [.int 1, .int 2]) = some (D.tup [.int (mkRat 1 2).num, .int ((mkRat 1 2).den : Int)]); rw [show (mkRat 1 2).num = 1 by decide, show (mkRat 1 2).den = 2 by decide]; rfl)⟩
  ·exact ⟨2, ⟨by decide, by decide⟩, by decide, qAf (i := 3) hp rfl⟩
  ·exact ⟨3, ⟨by decide, by decide⟩, by decide, qAf (i := 4) hp rfl⟩
  ·exact ⟨mkRat 5 7, ⟨by decide, by decide⟩, by decide, qAf (i := 5) hp (by show some (D.tup [.int 5, .int 7]) = some (D.tup [.int (mkRat 5 7).num, .int ((mkRat 5 7).den : Int)]); rw [show (mkRat 5 7).num = 5 by decide, show (mkRat 5 7).den = 7 by decide]; rfl)⟩
 obtain ⟨wt, w1, w2, w3⟩ := hq
 rw [w3, show (ok (qAo wt) S3 : R D) = some (.ok (qAo wt) S3) from rfl, W_ok]
 exact ⟨c, xs, want, wt, rfl, hc, (l1.trans l2).trans l3, l3.lst (l2.lst rc), hl, hx, hw, w1, w2⟩
def BoX (S : Sto) (p s n w l : Nat) (ts : List Pt) (M : List Nat) (xs : List D) (st : Nat) : Prop := ∃ ss k ps q r, Two S p s ss st k ps xs w l q r w l /\ q.map (·.1) = ts /\ r.map (·.1) = ts /\ xs.length <= n /\ Ok n w l ts /\ M = ss :: s :: ps :: r.map (·.2)
theorem BoX.bo (h : BoX S p s n w l ts M xs st) : Bo S p s n w l ts := by
 obtain ⟨ss, k, ps, q, r, T, eq, er, hx, O, _⟩ := h
 exact ⟨ss, st, k, ps, xs, q, r, T, eq, er, hx, O⟩
theorem BoX.mono (h : BoX S p s n w l ts M xs st) (e : SLe S S') : BoX S' p s n w l ts M xs st := by
 obtain ⟨ss, k, ps, q, r, T, h2⟩ := h
 exact ⟨ss, k, ps, q, r, T.mono e, h2⟩
def Sub (ts' ts : List Pt) : Prop := ∀ t ∈ ts', ∃ u ∈ ts, t.want = u.want /\ t.wt = u.wt /\ ∀ x ∈ t.row, x ∈ u.row
theorem qK3 (ts : List Pt) (a : Nat) : Sub (ts.eraseIdx a) ts := λ t ht => ⟨t, jDx ht, rfl, rfl, λ _ h => h⟩
def qYt (S S' : Sto) (M M' : List Nat) : Prop := Bts M S S' /\ ∀ a ∈ M', a ∈ M \/ S.length <= a
theorem Bts.sle (h : Bts L S S') (k : SLe S' S'') : Bts L S S'' := ⟨jAk h.1 k.len, λ b hb hn => by rw [k.get (jAd hb h.1), h.2 b hb hn]⟩
theorem Bts.off (h : Bts L S S') (k : Bt a S' S'') (ha : S.length <= a \/ a ∈ L) : Bts L S S'' := ⟨jAk h.1 k.1, λ b hb hn => by
 rw [k.2 b (jAd hb h.1) (λ e => by
  rcases ha with z | z
  ·omega
  ·exact hn (e ▸ z)), h.2 b hb hn]⟩
theorem SLe.bts (h : SLe S S') : Bts L S S' := ⟨h.len, λ _ hb _ => h.get hb⟩
section
variable {S : Sto} {p s n w l : Nat} {ts : List Pt} {M : List Nat} {xs : List D} {st : Nat}
theorem qNo (h : BoX S p s n w l ts M xs st) (hn : n <= 900) (h0 : ts ≠ []) : W (F.k52_taken [.ref p, .ref s, .int m] S) λ d S' => ∃ ts' M' st', ts'.length <= ts.length /\ Sub ts' ts /\ BoX S' p s (n + 1) w l ts' M' (xs ++ [.ref st]) st' /\ qYt S S' M M' := by
 obtain ⟨ss, k, ps, q, r, T, eq, er, hx, O, rfl⟩ := h
 have lq : q.length = ts.length := by rw [<- eq]; simp
 have lr : r.length = ts.length := by rw [<- er]; simp
 have ol := O.len
 have lt : 0 < ts.length := List.length_pos_iff.mpr h0
 have hne : ((r.map ptD).length : Int) ≠ 0 := by rw [jBh]; omega
 obtain ⟨f1, f2⟩ := qAm m (show (0 : Int) < ((r.map ptD).length : Int) by rw [jBh]; omega)
 obtain ⟨a, ha⟩ : ∃ a : Nat, m.fmod ((r.map ptD).length : Int) = (a : Int) := ⟨(m.fmod ((r.map ptD).length : Int)).toNat, by omega⟩
 rw [jBh] at f2
 have ha' : a < r.length := by rw [jBh] at ha; omega
 have hy : r[a]? = some r[a] := jDp ha'
 have hpy : (r.map ptD)[a]? = some (ptD r[a]) := by rw [jBy, hy]; rfl
 (unfold F.k52_taken; refine Np.W_fnF rfl ?_; unfold Den.k52_taken; simp_all [])
 simp_all [qA7 T.L.st rfl, qAi T.L.pt.1, qAc hne, ha, qAg, T.P.meth (m := "take") rfl, qCe, qAf T.L.pt.1 hpy]
 unfold ptD
 simp_all [qPf]
 have hm : r[a].1.num ∈ q.map (·.1.num) := by
  rw [qWm, eq, <- er, <- qWm]
  exact jCe.mpr ⟨r[a], jDq ha', rfl⟩
 refine (qS3 T.P (by omega) (by omega) hm).mono ?_
 intro d S1 N
 obtain ⟨st', k', q', T1, b1, n1, n2, n3, e1⟩ := T.step N
 have hta : ts[a]? = some r[a].1 := by rw [<- er, jBy, hy]; rfl
 rw [eq, qDs O.nums hta] at e1
 simp_all [qA7 T1.L.st rfl, qBf T1.L.pt.1]
 refine qPc T1.L.pt.1 hpy (by omega) λ S2 b2 l2 r2 => ?_
 have T2 : Two S2 p s ss st' k' ps (xs ++ [.ref st]) w l q' (r.eraseIdx a) w l := by
  refine T1.setP (by rw [r2, qBx]) b2 (λ x hx => ?_) (λ x hx => ?_) ?_ λ x hx y hy => T1.qr x hx y (jDx hy)
  ·have nr : r ≠ [] := λ z => by rw [z] at ha'; simp at ha'
   exact (qE4 T1.L.pt.1 (T1.P.kp.2 x hx) (qB3 nr)).symm
  ·have hx' := jDx hx
   have nr : r ≠ [] := λ z => by rw [z] at ha'; simp at ha'
   exact ⟨(qE4 T1.L.pt.1 (T1.L.pt.2 x hx') (qB3 nr)).symm, T1.L.pt.2 x hx'⟩
  ·rw [qBx]
   exact T1.L.nd.sublist (jDy ..)
 refine ⟨ts.eraseIdx a, _, st', jDz ts a, qK3 ts a, ⟨ss, k', ps, q', r.eraseIdx a, T2, e1, by rw [qBx, er], by simp; omega, ⟨?_, O.wide, by have := O.laid; omega, ?_, λ t ht => O.each t (jDx ht)⟩, rfl⟩, (b1.bts (by simp)).off b2 (.inr (by simp)), λ z hz => ?_⟩
 ·have := jDz ts a
  omega
 ·rw [qBx]
  exact O.nums.sublist (jDy ..)
 ·left
  rw [qBx] at hz
  simp only [jAp] at hz ⊢
  rcases hz with hz | hz | hz | hz
  ·exact .inl hz
  ·exact .inr (.inl hz)
  ·exact .inr (.inr (.inl hz))
  ·exact .inr (.inr (.inr (jDx hz)))
theorem qMc (h : BoX S p s n w l ts M xs st) (hn : n <= 800) (hm : 0 <= m) (lean : Bool) : W (F.k52_laid [.ref p, .ref s, .int m, .bl lean] S) λ d S' => d = .bl true /\ ∃ ts' M' st', ts'.length <= ts.length + 1 /\ BoX S' p s (n + 1) w (l + 1) ts' M' (xs ++ [.ref st]) st' /\ qYt S S' M M' := by
 obtain ⟨ss, k, ps, q, r, T, eq, er, hx, O, rfl⟩ := h
 have lq : q.length = ts.length := by rw [<- eq]; simp
 have lr : r.length = ts.length := by rw [<- er]; simp
 have ol := O.len
 have ow := O.wide
 obtain ⟨u1, u2, u3, u4, u5, u6, u7, u8⟩ := T.lt
 unfold F.k52_laid
 refine W_fnF rfl ?_
 rw [W_outF]
 unfold Den.k52_laid
 refine qA0 (λ δ' S' => ∃ c row want wt, δ' = [some (.ref p), some (.ref s), some (.int m), some (.bl lean), some (.ref c), some (qAo want), some (qAo wt), none, none] /\ SLe S S' /\ S.length <= c /\ qBu S' c row /\ row.length = w /\ (∀ x ∈ row, Le 150 x) /\ Le 70 want /\ Le 70 wt /\ 0 < wt.num) ?_ ?_
 ·simp_all [qBr T.L.st rfl]
  refine (qNx hm (show w < 900 by omega) lean S).mono ?_
  rintro d S1 ⟨c, row, want, wt, rfl, nc, l1, rc, h1, h2, h3, h4, h5⟩
  simp_all [qSz]
  exact ⟨_, rfl, c, row, want, wt, rfl, l1, nc, rc, h1, h2, h3, h4, h5⟩
 rintro _ S1 ⟨c1, row1, want, wt, rfl, l1, nc1, rc1, hl1, hx1, hwant, hwt, hpos⟩
 have T1 := T.mono l1
 refine qA0 (λ δ' S' => ∃ c row, δ' = [some (.ref p), some (.ref s), some (.int m), some (.bl lean), some (.ref c), some (qAo want), some (qAo wt), none, none] /\ SLe S S' /\ S.length <= c /\ qBu S' c row /\ row.length = w /\ (∀ x ∈ row, Le 150 x)) ?_ ?_
 ·by_cases hr0 : (0 : Int) < ((r.map ptD).length : Int)
  ·by_cases h5 : m.fmod 5 = 1
   ·obtain ⟨f1, f2⟩ := qAm (m.fdiv 5) hr0
    obtain ⟨a, ha⟩ : ∃ a : Nat, (m.fdiv 5).fmod ((r.map ptD).length : Int) = (a : Int) := ⟨((m.fdiv 5).fmod ((r.map ptD).length : Int)).toNat, by omega⟩
    have ha' : a < r.length := by rw [jBh] at ha f2; omega
    have hy : r[a]? = some r[a] := jDp ha'
    have hpy : (r.map ptD)[a]? = some (ptD r[a]) := by rw [jBy, hy]; rfl
    have hym := jDq ha'
    have ry := T1.L.pt.2 _ hym
    have hne : ((r.map ptD).length : Int) ≠ 0 := by omega
    obtain ⟨g1, g2, g3, g4, g5, g6⟩ := O.each r[a].1 (by rw [<- er]; exact jCe.mpr ⟨r[a], hym, rfl⟩)
    simp_all [qA7 T1.L.st rfl, qAi T1.L.pt.1, hr0, qAc (show (5 : Int) ≠ 0 by decide), h5, qAj (show (5 : Int) ≠ 0 by decide), qAc hne, ha, qAf T1.L.pt.1 hpy]
    unfold ptD
    simp_all [qKz, qC4 ry]
    exact ⟨_, rfl, _, _, rfl, l1.push _, l1.len, qAb S1 _, g2, g3⟩
   ·simp_all [qA7 T1.L.st rfl, qAi T1.L.pt.1, hr0, qAc (show (5 : Int) ≠ 0 by decide), h5]
    exact ⟨_, rfl, c1, row1, rfl, l1, nc1, rc1, hl1, hx1⟩
  ·simp_all [qA7 T1.L.st rfl, qAi T1.L.pt.1, hr0]
   exact ⟨_, rfl, c1, row1, rfl, l1, nc1, rc1, hl1, hx1⟩
 rintro _ S2 ⟨c, row, rfl, l2, nc, rc, hl, hx2⟩
 have T2 := T.mono l2
 refine qA0 (λ δ' S' => ∃ hd, δ' = [some (.ref p), some (.ref s), some (.int m), some (.bl lean), some (.ref c), some (qAo want), some (qAo wt), some (.ref hd), none] /\ SLe S2 S' /\ S2.length <= hd /\ qBu S' hd row) ?_ ?_
 ·simp_all []
  refine qA8 (qC4 rc) λ S3 hd l3 n3 r3 => ?_
  exact ⟨_, rfl, hd, rfl, l3, n3, r3⟩
 rintro _ S3 ⟨hd, rfl, l3, n3, r3⟩
 have T3 := T2.mono l3
 have hsm : sm wt := hwt.sm (by decide)
 refine qA0 (λ δ' S' => δ' = [some (.ref p), some (.ref s), some (.int m), some (.bl lean), some (.ref c), some (qAo want), some (qAo wt), some (.ref hd), some (.int (l : Int))] /\ Nx S3 S' p ss st xs q w (l + 1) (q.map (·.1) ++ [⟨l, row, want, wt⟩])) ?_ ?_
 ·by_cases h1 : wt = 1
  ·simp_all [tup2, rat1, eqD_rat, h1, qAg, T3.P.meth (m := "lay") rfl, qCe, fnD]
   rw [h1] at hsm hpos
   refine (qVc T3.P r3 hl (by omega) ow (by omega) hsm hpos (.inl ⟨rfl, rfl⟩)).mono ?_
   rintro d S4 ⟨rfl, N⟩
   exact ⟨_, rfl, rfl, N⟩
  ·simp_all [tup2, rat1, eqD_rat, h1, qAg, T3.P.meth (m := "lay") rfl, qCe]
   refine (qVc T3.P r3 hl (by omega) ow (by omega) hsm hpos (.inr rfl)).mono ?_
   rintro d S4 ⟨rfl, N⟩
   exact ⟨_, rfl, rfl, N⟩
 rintro _ S4 ⟨rfl, N⟩
 obtain ⟨st', k', q', T4, b4, n41, n42, n43, e4⟩ := T3.step N
 rw [eq] at e4
 have v2 := l2.len
 have v3 := l3.len
 have vh := qAp r3
 have vc := qAp rc
 have r4 : qBu S4 hd row := b4.lst (by omega) r3
 have c4 : qBu S4 c row := b4.lst (by omega) (l3.lst rc)
 simp_all [qRu r4 c4, qBf r4, tup2]
 refine qP0 r4 (by simp; omega) λ S5 b5 l5 r5 => ?_
 have T5 := T4.aside b5 (by omega) (by omega) (by omega) (by omega) (λ x hx => by
  rcases n43 x hx with z | ⟨z, hz, e⟩
  ·omega
  ·have := u5 z hz
   omega) (by omega) (by omega) (λ x hx => by have := u8 x hx; omega)
 have c5 : qBu S5 c row := b5.lst (by omega) c4
 simp_all [qA7 T5.L.st rfl, qBf T5.L.pt.1, show ixD (.ref s) (.int 2) S5 = ok (.int (l : Int)) S5 from qAf (i := 2) T5.L.st rfl, qWs]
 refine qP0 T5.L.pt.1 (by simp; omega) λ S6 b6 l6 r6 => ?_
 have cps : c ≠ ps := by omega
 have T6 : Two S6 p s ss st' k' ps (xs ++ [.ref st]) w (l + 1) q' (r ++ [(⟨l, row, want, wt⟩, c)]) w l := by
  refine T5.setP (by rw [r6]; simp [ptD]) b6 (λ x hx => ?_) (λ x hx => ?_) ?_ λ x hx y hy => ?_
  ·by_cases nr : r = []
   ·rcases n43 x hx with z | ⟨z, hz, e⟩
    ·omega
    ·exfalso
     have : r.length = 0 := by rw [nr]; rfl
     have : q.length = 0 := by omega
     rw [List.eq_nil_of_length_eq_zero this] at hz
     cases hz
   ·exact (qE4 T5.L.pt.1 (T5.P.kp.2 x hx) (qB3 nr)).symm
  ·rcases jAq.mp hx with hx | hx
   ·have nr : r ≠ [] := λ z => by rw [z] at hx; cases hx
    exact ⟨(qE4 T5.L.pt.1 (T5.L.pt.2 x hx) (qB3 nr)).symm, T5.L.pt.2 x hx⟩
   ·rw [jCs.mp hx]
    exact ⟨cps, c5⟩
  ·rw [jDt]
   refine List.nodup_append.mpr ⟨T5.L.nd, by simp, λ a ha b hb => ?_⟩
   obtain ⟨y, hy, rfl⟩ := jCe.mp ha
   have := u8 y hy
   obtain rfl : b = c := by simpa using hb
   omega
  ·rcases jAq.mp hy with hy | hy
   ·exact T5.qr x hx y hy
   ·rw [jCs.mp hy]
    rcases n43 x hx with z | ⟨z, hz, e⟩
    ·show x.2 ≠ c
     omega
    ·have := u5 z hz
     show x.2 ≠ c
     omega
 have hl1 : (l : Int) + 1 = ((l + 1 : Nat) : Int) := by omega
 simp_all [show ixD (.ref s) (.int 2) S6 = ok (.int (l : Int)) S6 from qAf (i := 2) T6.L.st rfl, hl1, qGl, qNs]
 refine qPz (i := 2) T6.L.st (by simp) λ S7 b7 l7 r7 => ?_
 have T7 : Two S7 p s ss st' k' ps (xs ++ [.ref st]) w (l + 1) q' (r ++ [(⟨l, row, want, wt⟩, c)]) w (l + 1) := T6.setS r7 b7
 have hl2 : ((l + 1 : Nat) : Int) - 1 = (l : Int) := by omega
 simp_all [show ixD (.ref s) (.int 2) S7 = ok (.int ((l + 1 : Nat) : Int)) S7 from qAf (i := 2) T7.L.st rfl, hl2]
 refine (qDj (n := 7) (show Al S7 7 (.int (l : Int)) (.int (l : Int)) from .inl ⟨_, rfl, rfl⟩)).mono ?_
 rintro d S8 ⟨rfl, l8⟩
 simp_all []
 refine ⟨trivial, ts ++ [⟨l, row, want, wt⟩], _, st', by simp, ⟨ss, k', ps, q', _, T7.mono l8, e4, by rw [jDt, er]; rfl, by simp; omega, ⟨by simp; omega, ow, by have := O.laid; omega, ?_, λ t ht => ?_⟩, rfl⟩, (((((SLe.bts (l2.trans l3)).off b4 (.inr (by simp))).off b5 (.inl (by omega))).off b6 (.inr (by simp))).off b7 (.inr (by simp))).sle l8, λ z hz => ?_⟩
 ·rw [jDt]
  refine List.nodup_append.mpr ⟨O.nums, by simp, λ a ha b hb => ?_⟩
  obtain ⟨t, ht, rfl⟩ := jCe.mp ha
  have := (O.each t ht).1
  obtain rfl : b = l := by simpa using hb
  omega
 ·rcases jAq.mp ht with ht | ht
  ·obtain ⟨g1, g2⟩ := O.each t ht
   exact ⟨by omega, g2⟩
  ·rw [jCs.mp ht]
   exact ⟨jBj _, hl, hx2, hwant, hwt, hpos⟩
 ·rw [jDt] at hz
  simp only [jAp, jAq, jBf, jCc, jCq, or_false] at hz ⊢
  rcases hz with hz | hz | hz | hz | hz
  ·exact .inl (.inl hz)
  ·exact .inl (.inr (.inl hz))
  ·exact .inl (.inr (.inr (.inl hz)))
  ·exact .inl (.inr (.inr (.inr hz)))
  ·exact .inr (by omega)
end
end Nm
end
section
namespace Nm
open Np PySem
theorem qF8 {src : Src} {g : DG} {t : DT} {e : DE} {base : DS} {k : Nat} {S0 : Sto} (vals : D -> List (Option D)) {xs : List D} {P : D -> Prop} (p : D -> Bool) (f : D -> D) (hg : Tg g k vals base P) (hs : ∀ i S', SLe S0 S' -> src.get S' i = some xs[i]?) (hP : ∀ x ∈ xs, P x)
  (step : ∀ x S', x ∈ xs -> SLe S0 S' -> W (t (base ++ vals x) S') λ b S2 => SLe S' S2 /\ b = p x /\ (p x = true -> W (e (base ++ vals x) S2) λ d S3 => d = f x /\ SLe S2 S3)) :
  ∀ n i os S', SLe S0 S' -> os.length = k -> i <= xs.length -> xs.length <= i + n -> W (qAs src g t e n i (base ++ os) S') λ ds S2 => SLe S' S2 /\ ds = ((xs.drop i).filter p).map f
 | 0, i, os, S', hS, ho, hi, hn => by
  unfold qAs
  rw [hs i S' hS, jC6 (by omega), W_ok]
  exact ⟨SLe.rfl, by rw [jDo (by omega)]; rfl⟩
 | n + 1, i, os, S', hS, ho, hi, hn => by
  unfold qAs
  rw [hs i S' hS]
  by_cases h : i < xs.length
  ·have hx : xs[i] ∈ xs := jDq h
   rw [jDp h, jDv h]
   show W (bnd (g xs[i] (base ++ os) S') (qFf t e (qAs src g t e n (i + 1)))) _
   obtain ⟨e1, e2⟩ := hg xs[i] os S' ho (hP _ hx)
   rw [e1, bnd_ok]
   unfold qFf
   rw [W_bnd]
   refine (step _ S' hx hS).mono ?_
   rintro b S2 ⟨l2, rfl, hb⟩
   cases hp : p xs[i] with
   | true =>
    show W (bnd (e (base ++ vals xs[i]) S2) (qC9 (qAs src g t e n (i + 1)) (base ++ vals xs[i]))) _
    rw [W_bnd]
    refine (hb hp).mono ?_
    rintro d S3 ⟨rfl, l3⟩
    unfold qC9
    rw [W_bnd]
    refine (qF8 vals p f hg hs hP step n (i + 1) (vals xs[i]) S3 (hS.trans (l2.trans l3)) e2 h (by omega)).mono ?_
    rintro ds S4 ⟨l4, rfl⟩
    unfold consK
    rw [W_ok]
    exact ⟨l2.trans (l3.trans l4), by rw [List.filter_cons_of_pos hp]; rfl⟩
   | false =>
    show W (qAs src g t e n (i + 1) (base ++ vals xs[i]) S2) _
    refine (qF8 vals p f hg hs hP step n (i + 1) (vals xs[i]) S2 (hS.trans l2) e2 h (by omega)).mono ?_
    rintro ds S4 ⟨l4, rfl⟩
    exact ⟨l2.trans l4, by rw [List.filter_cons_of_neg (by simp [hp])]⟩
  ·rw [jC6 (by omega)]
   show W (some (.ok [] S')) _
   rw [W_ok]
   exact ⟨SLe.rfl, by rw [jDo (by omega)]; rfl⟩
theorem qSf {it : DI} {g : DG} {t : DT} {e : DE} {base : DS} {k : Nat} {S : Sto} {Q : D -> Sto -> Prop} (vals : D -> List (Option D)) (xs : List D) (P : D -> Prop) (p : D -> Bool) (f : D -> D) (hg : Tg g k vals base P) (hP : ∀ x ∈ xs, P x)
  (hit : W (it base S) λ src S' => xs.length <= src.len S' /\ src.len S' <= 1000000 /\ SLe S S' /\ ∀ i S'', SLe S' S'' -> src.get S'' i = some xs[i]?)
  (step : ∀ x S', x ∈ xs -> SLe S S' -> W (t (base ++ vals x) S') λ b S2 => SLe S' S2 /\ b = p x /\ (p x = true -> W (e (base ++ vals x) S2) λ d S3 => d = f x /\ SLe S2 S3))
  (fin : ∀ S' b, SLe S S' -> S.length <= b -> zH S' b = some ((xs.filter p).map f) -> Q (.ref b) S') : W (qDw it k g t e base S) Q := by
 obtain ⟨src, S0, e0, h1, h2, h3, h4⟩ := hit.out
 unfold qDw
 rw [e0, bnd_ok]
 unfold qMs
 rw [if_pos h2, W_bnd, qM9]
 refine (qF8 vals p f hg h4 hP (λ x S' hx hS => step x S' hx (h3.trans hS)) _ 0 (jBq k none) S0 SLe.rfl (by simp) (jBk _) (by omega)).mono ?_
 rintro ds S2 ⟨l2, rfl⟩
 exact W.intro rfl (fin _ _ ((h3.trans l2).push _) (h3.trans l2).len (by rw [qAb]; rfl))
def Sm (ts us : List Pt) : Prop := us.map (·.row) = ts.map (·.row) /\ us.map (·.want) = ts.map (·.want) /\ us.map (·.wt) = ts.map (·.wt)
theorem Sm.len (h : Sm ts us) : us.length = ts.length := by
 have := congrArg jBt h.1
 simpa using this
theorem qTa (hl : S.length <= S'.length) (h : ∀ a, a < S.length -> S'[a]? = S[a]?) : SLe S S' := by
 refine ⟨S'.drop S.length, ?_⟩
 refine List.ext_getElem? λ i => ?_
 by_cases hi : i < S.length
 ·rw [h i hi, jBx hi]
 ·rw [jBv (by omega), List.getElem?_drop]
  congr 1
  omega
theorem qTb (l : SLe S S') (b : Bt a S' S'') (h : S.length <= a) : SLe S S'' := qTa (jAk l.len b.1) λ i hi => by
 rw [b.2 i (jAd hi l.len) (by omega), l.get hi]
section
variable {S : Sto} {p ss st k : Nat} {xs : List D} {w l : Nat} {q : List (Pt × Nat)}
theorem qH3 (h : Pl S p ss st k xs w l q) : F.Plane_mark [.ref p] S = ok (.int (xs.length : Int)) S := by
 refine qEy ?_
 (unfold F.Plane_mark; refine Np.W_fnF rfl ?_; unfold Den.Plane_mark; simp_all [])
 simp_all [h.f1, qAi h.sl]
 exact ⟨by simp, trivial⟩
end
end Nm
end
section
namespace Nm
open Np PySem
def Er (m : R D) (c : Str) (S : Sto) : Prop := ∃ S', SLe S S' /\ m = er c S'
section
variable {S : Sto} {p ss st k : Nat} {xs : List D} {w l : Nat} {q : List (Pt × Nat)}
def qHn (S : Sto) (d : D) (n : Nat) : Prop := (Kn S d /\ qSo S d = false) \/ ∃ b ys, d = .ref b /\ zH S b = some ys /\ ys.length <= 1000 /\ (ys.length ≠ n \/ ((∀ y ∈ ys, Kn2 S y) /\ ∃ x ∈ ys, qBi x = false))
theorem qL1 {d : D} {n : Nat} (h : qHn S d n) : W (F.is_row [d, .int (n : Int)] S) λ r S' => r = .bl false /\ SLe S S' := by
 (unfold F.is_row; refine Np.W_fnF rfl ?_; unfold Den.is_row; simp_all [])
 rcases h with ⟨h1, h2⟩ | ⟨b, ys, rfl, hb, hl, h⟩
 ·simp_all [qR1 h1, h2]
  exact ⟨trivial, SLe.rfl⟩
 ·by_cases hn : ys.length = n
  ·rcases h with h | ⟨hk, x, hx, hr⟩
   ·exact absurd hn h
   have c1 := qVr (base := [some (.ref b), some (.int (n : Int))]) (it := itE itL (vr 0)) (e := fnE F.is_ratio (zZ (vr 2) aNil)) (f := λ x => .bl (qBi x)) (by simp only [Np.itA, Np.itE, Np.zZ, Np.aConsK, Np.aNil, Np.consK, Np.vr, Np.cst, jC0, jCg, Np.bnd_ok]; exact qCv hb) hb (by omega) λ x hx => by
    refine qEy ?_
    simp_all [qCw (hk x hx)]
   simp only [jBa, jCr, jDd] at c1
   simp_all [qBl hb, qAi hb, hn, c1, qD3 (qAb S _) (qF5 qBi ys)]
   refine ⟨?_, SLe.app _⟩
   congr 1
   rw [<- Bool.not_eq_true, jCp]
   intro h
   rw [h x hx] at hr
   cases hr
  ·have : ¬ ((ys.length : Int) = (n : Int)) := by omega
   simp_all [qBl hb, qAi hb, this]
   exact ⟨trivial, SLe.rfl⟩
theorem qHn.mono {S' : Sto} {d : D} {n : Nat} (h : qHn S d n) (e : SLe S S') : qHn S' d n := by
 rcases h with ⟨h1, h2⟩ | ⟨b, ys, rfl, hb, hl, h⟩
 ·refine .inl ⟨h1.mono e, ?_⟩
  cases d with
  | ref a =>
   rcases h1 with ⟨zs, z⟩ | ⟨zs, z⟩
   ·simp [qSo, zH, z] at h2
   ·have : S'[a]? = some (.dct zs) := by rw [e.get (jAs.mp z).1]; exact z
    simp [qSo, zH, this]
  | _ => rfl
 ·refine .inr ⟨b, ys, rfl, e.lst hb, hl, ?_⟩
  rcases h with h | ⟨hk, h⟩
  ·exact .inl h
  ·exact .inr ⟨λ y hy => (hk y hy).mono e, h⟩
def qSh (S : Sto) (d : D) : Prop := d ≠ .non /\ ((Kn2 S d /\ qBi d = false) \/ ∃ v : Rat, d = qAo v /\ sm v /\ v.num <= 0)
theorem qRt {d : D} (h : qSh S d) : F.is_weight [d] S = ok (.bl false) S := by
 refine qEy ?_
 (unfold F.is_weight; refine Np.W_fnF rfl ?_; unfold Den.is_weight; simp_all [])
 rcases h.2 with ⟨h1, h2⟩ | ⟨v, rfl, hs, hv⟩
 ·simp_all [qCw h1, h2]
 ·have h0 : sm 0 := ⟨by decide, by decide⟩
  have h1 : ¬ ((0 : Rat).num * (v.den : Int) < v.num * ((0 : Rat).den : Int)) := by
   rw [show (0 : Rat).num = 0 from rfl, show (0 : Rat).den = 1 from rfl]
   omega
  simp_all [qBb, rat0, qG2 h0 hs, h1]
theorem qOo {r a b : D} (h : qHn S r w) : W (F.is_point [.tup [r, a, b], .int (w : Int)] S) λ d S' => d = .bl false /\ SLe S S' := by
 (unfold F.is_point; refine Np.W_fnF rfl ?_; unfold Den.is_point; simp_all [])
 simp_all [show (((3 : Nat) : Int) = 3) from rfl, qQa, qKg, qP9]
 refine (qL1 h).mono ?_
 rintro d S' ⟨rfl, l⟩
 simp_all []
 exact ⟨trivial, l⟩
theorem qOn {r : Nat} {row : List Rat} {a b : D} (h : qBu S r row) (hl : row.length = w) (h2 : w <= 12) (hk : Kn2 S a) (ha : qBi a = false) : W (F.is_point [.tup [.ref r, a, b], .int (w : Int)] S) λ d S' => d = .bl false /\ SLe S S' := by
 subst hl
 (unfold F.is_point; refine Np.W_fnF rfl ?_; unfold Den.is_point; simp_all [])
 simp_all [show (((3 : Nat) : Int) = 3) from rfl, qQa, qKg, qP9]
 refine (qC5 h (by omega)).mono ?_
 rintro d S' ⟨rfl, l⟩
 simp_all [qCw (hk.mono l), ha, qKg, qP9]
 exact ⟨trivial, l⟩
theorem qSh.mono {S' : Sto} {d : D} (h : qSh S d) (e : SLe S S') : qSh S' d := by
 refine ⟨h.1, ?_⟩
 rcases h.2 with ⟨h1, h2⟩ | h
 ·exact .inl ⟨h1.mono e, h2⟩
 ·exact .inr h
theorem qOm {r : Nat} {row : List Rat} {v : Rat} {b : D} (h : qBu S r row) (hl : row.length = w) (h2 : w <= 12) (hb : qSh S b) : W (F.is_point [.tup [.ref r, qAo v, b], .int (w : Int)] S) λ d S' => d = .bl false /\ SLe S S' := by
 subst hl
 (unfold F.is_point; refine Np.W_fnF rfl ?_; unfold Den.is_point; simp_all [])
 simp_all [show (((3 : Nat) : Int) = 3) from rfl, qQa, qKg, qP9]
 refine (qC5 h (by omega)).mono ?_
 rintro d S' ⟨rfl, l⟩
 simp_all [qBb, qRt (hb.mono l), qKg, qP9]
 exact ⟨trivial, l⟩
theorem qMb (h : Pl S p ss st k xs w l q) {row want wt : D} (hw : wt ≠ .non) (hp : W (F.is_point [.tup [row, want, wt], .int (w : Int)] S) λ r S' => r = .bl false /\ SLe S S') : Er (X.Plane_lay [.ref p, row, want, wt] S) "NoPoint" S := by
 obtain ⟨r, S', e, rfl, l⟩ := hp.out
 refine ⟨S', l, ?_⟩
 have n : qOx wt .non S = ok (.bl false) S := by cases wt <;> first | rfl | exact absurd rfl hw
 unfold X.Plane_lay fnX DenX.Plane_lay
 simp [startD, seqS, qA4, qGa, asgS, asgK, setG, nxS, ifS, ifE, qVl, tv, notT, notK, op1, op2, op2K, vr, cst, fnE, zZ, aConsK, aNil, consK, h.f1, h.f2, h.f3, h.f4, n, qDd, e, qBp, qAy, bnd_ok, qBe, qAu, truV_bl, ifK_t, seqK_nx]
theorem qKn {d : D} (h : Kn S d) (hn : ∀ i, d = .int i -> i < 0 \/ 12 < i) : F.is_wide [d] S = ok (.bl false) S := by
 refine qEy ?_
 (unfold F.is_wide; refine Np.W_fnF rfl ?_; unfold Den.is_wide; simp_all [])
 simp_all [qBa h]
 cases hw : qCs d with
 | false => simp_all []
 | true =>
  obtain ⟨i, rfl⟩ := qBv hw
  rcases hn i rfl with h0 | h0
  ·simp_all [show ¬ ((0 : Int) <= i) by omega]
  ·simp_all [show (0 : Int) <= i by omega, show ¬ (i <= (12 : Int)) by omega]
theorem qL8 {i : Int} : ∀ {fs : List Nat}, (∀ n ∈ fs, (n : Int) ≠ i) -> qKh (.int i) (fs.map λ (n : Nat) => Np.T.int (n : Int)) = false
 | [], _ => rfl
 | n :: fs, h => by
  have h1 : ¬ i = (n : Int) := λ e => h n (by simp) e.symm
  have : eqT (.int i) (.int (n : Int)) = false := by simp [eqT, h1]
  simp only [jBf, qKh, this, Bool.false_or]
  exact qL8 λ m hm => h m (jAo _ hm)
theorem qOk {a : Nat} {i : Int} {fs : List Nat} (h : zH S a = some (fs.map qE2)) (hn : ∀ n ∈ fs, (n : Int) ≠ i) : qCc (.int i) (.ref a) S = ok (.bl true) S := by
 have e : rdl (rd 8 S) (fs.map qE2) = some (fs.map λ (i : Nat) => Np.T.int (i : Int)) := qFn qE2 (λ i => Np.T.int (i : Int)) (λ i => qC3 8 S i) fs
 have h8 : rd 8 S (.int i) = some (.int i) := qC3 8 S i
 unfold qCc inA
 simp only [h, h8, e, qL8 hn]
 simp
theorem qQb (h : Pl S p ss st k xs w l q) (hl : q.length <= 1000) {d : D} (hk : Kn S d) (hn : ∀ i, d = .int i -> ∀ x ∈ q, (x.1.num : Int) ≠ i) : Er (X.Plane_take [.ref p, d] S) "NoPoint" S := by
 cases hw : qCs d with
 | false =>
  refine ⟨S, SLe.rfl, ?_⟩
  unfold X.Plane_take fnX DenX.Plane_take
  simp [startD, seqS, qA4, qGa, asgS, asgK, setG, nxS, ifS, tv, notT, notK, orT, qOf, op1, op2, op2K, vr, cst, fnE, zZ, aConsK, aNil, consK, h.f1, h.f2, qDd, qBa hk, hw, qAy, bnd_ok, qBe, qAu, truV_bl, ifK_t, seqK_nx]
 | true =>
  obtain ⟨i, rfl⟩ := qBv hw
  have hn := hn i rfl
  have c1 : qA1 (itE itL (op1 (qAt "State" "kept") (vr 2))) 1 (setG 4) (op2 ixD (vr 4) (cst (.int 0))) [some (.ref p), some (.int i), some (.ref st), none] S = ok (.ref S.length) (S ++ [.lst ((q.map (·.1.num)).map qE2)]) := by
   refine (qC8 (λ x => [some x]) (xs := q.map ptD) (f := qSk) (qDm [some (.ref p), some (.int i), some (.ref st), none]) (src := .one k) (by simp only [itE, op1, vr, jC0, jCg, bnd_ok, h.f5, qCv h.kp.1]) (Has.one h.kp.1) (by rw [qB6 h.kp.1]; simp; omega) (λ _ _ => trivial) λ x hx => by
    obtain ⟨y, _, rfl⟩ := jCe.mp hx
    rfl).trans ?_
   simp [jCh, Function.comp_def, qSk, ptD, qE2]
  refine ⟨S ++ [.lst ((q.map (·.1.num)).map qE2)], SLe.app _, ?_⟩
  have nn : qCc (.int i) (.ref S.length) (S ++ [.lst ((q.map (·.1.num)).map qE2)]) = ok (.bl true) (S ++ [.lst ((q.map (·.1.num)).map qE2)]) := qOk (qAb S _) λ n hm => by
   obtain ⟨x, hx, rfl⟩ := jCe.mp hm
   exact hn x hx
  generalize S ++ [O.lst ((q.map (·.1.num)).map qE2)] = S2 at c1 nn ⊢
  unfold X.Plane_take fnX DenX.Plane_take
  simp [startD, seqS, qA4, qGa, asgS, asgK, setG, nxS, ifS, tv, notT, notK, orT, qOf, op1, op2, op2K, vr, cst, fnE, zZ, aConsK, aNil, consK, h.f1, h.f2, qDd, qBa hk, hw, c1, nn, qAy, bnd_ok, qBe, qAu, truV_bl, ifK_t, seqK_nx]
theorem qIl (h : Pl S p ss st k xs w l q) {d : D} (hd : w = 12 \/ w < 12 /\ qHn S d q.length) : Er (X.Plane_widen [.ref p, d] S) "NoColumn" S := by
 have w1 : (w : Int) + 1 = ((w + 1 : Nat) : Int) := by omega
 rcases hd with hd | ⟨h12, hd⟩
 ·refine ⟨S, SLe.rfl, ?_⟩
  have e : F.is_wide [.int ((w : Int) + 1)] S = ok (.bl false) S := qKn (S := S) (d := .int ((w : Int) + 1)) trivial λ i hi => .inr (by cases hi; omega)
  unfold X.Plane_widen fnX DenX.Plane_widen
  simp [startD, seqS, qA4, qGa, asgS, asgK, setG, nxS, ifS, tv, notT, notK, op1, op2, op2K, vr, cst, fnE, zZ, aConsK, aNil, consK, h.f1, h.f2, h.f3, qDd, qCb, e, qAy, bnd_ok, qBe, qAu, truV_bl, ifK_t, seqK_nx]
 ·obtain ⟨r, S', e, rfl, l'⟩ := (qL1 hd).out
  refine ⟨S', l', ?_⟩
  have e0 : F.is_wide [.int ((w : Int) + 1)] S = ok (.bl true) S := by rw [w1]; exact qDg (by omega) S
  have e1 : qDq [.ref k] S = ok (.int (q.length : Int)) S := by rw [qAi h.kp.1, jBh]
  unfold X.Plane_widen fnX DenX.Plane_widen
  simp [startD, seqS, qA4, qGa, asgS, asgK, setG, nxS, ifS, tv, notT, notK, op1, op2, op2K, vr, cst, fnE, zZ, aConsK, aNil, consK, h.f1, h.f2, h.f3, h.f5, qDd, qCb, e0, e1, e, qAy, bnd_ok, qBe, qAu, truV_bl, ifK_t, ifK_f, seqK_nx]
theorem qL5 (h : Pl S p ss st k xs 0 l q) : Er (X.Plane_narrow [.ref p] S) "NoColumn" S := by
 refine ⟨S, SLe.rfl, ?_⟩
 have e : eqD (.int ((0 : Nat) : Int)) (.int 0) S = ok (.bl true) S := rfl
 unfold X.Plane_narrow fnX DenX.Plane_narrow
 simp [startD, seqS, qA4, qGa, asgS, asgK, setG, nxS, ifS, tv, op1, op2, op2K, vr, cst, h.f1, h.f2, h.f3, qDd, e, qAy, bnd_ok, qBe, qAu, truV_bl, ifK_t, seqK_nx]
 rw [show eqD (.int 0) (.int 0) S = ok (.bl true) S from rfl]
 rfl
theorem qSb (h : Pl S p ss st k xs w l q) {d : D} (hk : Kn S d) (hn : ∀ i, d = .int i -> i < 0 \/ (xs.length : Int) < i) : Er (X.Plane_back [.ref p, d] S) "NoMark" S := by
 refine ⟨S, SLe.rfl, ?_⟩
 unfold X.Plane_back fnX DenX.Plane_back
 cases hw : qCs d with
 | false => simp [startD, seqS, qA4, qGa, nxS, ifS, tv, notT, notK, orT, qOf, op1, op2, op2K, vr, cst, fnE, zZ, aConsK, aNil, consK, qBa hk, hw, qAy, bnd_ok, qBe, qAu, truV_bl, ifK_t, seqK_nx]
 | true =>
  obtain ⟨i, rfl⟩ := qBv hw
  rcases hn i rfl with h0 | h0
  ·simp [startD, seqS, qA4, qGa, nxS, ifS, tv, notT, notK, orT, qOf, op1, op2, op2K, vr, cst, fnE, zZ, aConsK, aNil, consK, qBa hk, hw, qAy, bnd_ok, qBe, qAu, truV_bl, ifK_t, seqK_nx, chn, chnK, chnK2, chnT, qSr, leD, show ¬ ((0 : Int) <= i) by omega]
  ·simp [startD, seqS, qA4, qGa, nxS, ifS, tv, notT, notK, orT, qOf, op1, op2, op2K, vr, cst, fnE, zZ, aConsK, aNil, consK, qBa hk, hw, qAy, bnd_ok, qBe, qAu, truV_bl, ifK_t, seqK_nx, chn, chnK, chnK2, chnT, qSr, leD, show (0 : Int) <= i by omega, qAg, h.meth (m := "mark") rfl, qCe, qH3 h, show ¬ (i <= (xs.length : Int)) by omega]
theorem qNz {d : D} (hk : Kn S d) (hn : ∀ i, d = .int i -> i < 0 \/ 12 < i) : Er (mkA "Plane" X.Plane___init__ [d] S) "NoColumn" S := by
 refine ⟨S ++ [.ins "Plane" []], SLe.app _, ?_⟩
 have e : F.is_wide [d] (S ++ [.ins "Plane" []]) = ok (.bl false) (S ++ [.ins "Plane" []]) := qKn (hk.mono (SLe.app _)) hn
 have e2 : X.Plane___init__ [.ref S.length, d] (S ++ [.ins "Plane" []]) = er "NoColumn" (S ++ [.ins "Plane" []]) := by
  unfold X.Plane___init__ fnX DenX.Plane___init__
  simp [startD, seqS, qA4, qGa, nxS, ifS, tv, notT, notK, op1, op2, op2K, vr, cst, fnE, zZ, aConsK, aNil, consK, e, qAy, bnd_ok, qBe, qAu, truV_bl, ifK_t, seqK_nx]
 unfold mkA
 rw [e2]
 rfl
end
end Nm
end
section
namespace Nm
open Np PySem
theorem eqS {x y : Str} {b : Bool} (hx : x.cps.all (· < 0x110000) = true) (hy : y.cps.all (· < 0x110000) = true) (h : (x == y) = b) (S : Sto) : eqD (.str x) (.str y) S = ok (.bl b) S := by rw [qR6 hx hy, h]
section
variable {S : Sto} {p ss st k : Nat} {xs : List D} {w l : Nat} {q : List (Pt × Nat)} {t : Nat} {cl : Str}
theorem qFz {a b c : D} (h : Pl S p ss st k xs w l q) (ht : zH S t = some [a, b, c]) (he : Er (X.Plane_lay [.ref p, a, b, c] S) cl S) : Er (X._law_done [.ref p, .str "lay", .ref t] S) cl S := by
 obtain ⟨S', l', e⟩ := he
 refine ⟨S', l', ?_⟩
 have e1 := eqS (x := "lay") (y := "lay") (b := true) (by decide +kernel) (by decide +kernel) (by decide +kernel) S
 unfold X._law_done fnX DenX._law_done
 simp [startD, ifS, tv, dropS, qAg, h.meth (m := "lay") rfl, qCe, op2, op2K, vr, cst, zZ, aConsK, aNil, consK, qBr ht rfl, qA7 ht rfl, show ixD (.ref t) (.int 2) S = ok c S from qAf (i := 2) ht rfl, e1, e, bnd_ok, qBe, qAu, truV_bl, ifK_t]
theorem qMp {a : D} (h : Pl S p ss st k xs w l q) (ht : zH S t = some [a]) (he : Er (X.Plane_take [.ref p, a] S) cl S) : Er (X._law_done [.ref p, .str "take", .ref t] S) cl S := by
 obtain ⟨S', l', e⟩ := he
 refine ⟨S', l', ?_⟩
 have e1 := eqS (x := "take") (y := "lay") (b := false) (by decide +kernel) (by decide +kernel) (by decide +kernel) S
 have e2 := eqS (x := "take") (y := "take") (b := true) (by decide +kernel) (by decide +kernel) (by decide +kernel) S
 unfold X._law_done fnX DenX._law_done
 simp [startD, ifS, tv, dropS, qAg, h.meth (m := "take") rfl, qCe, op2, op2K, vr, cst, zZ, aConsK, aNil, consK, qBr ht rfl, e1, e2, e, bnd_ok, qBe, qAu, truV_bl, ifK_t, ifK_f]
theorem qFd {a : D} (h : Pl S p ss st k xs w l q) (ht : zH S t = some [a]) (he : Er (X.Plane_widen [.ref p, a] S) cl S) : Er (X._law_done [.ref p, .str "widen", .ref t] S) cl S := by
 obtain ⟨S', l', e⟩ := he
 refine ⟨S', l', ?_⟩
 have e1 := eqS (x := "widen") (y := "lay") (b := false) (by decide +kernel) (by decide +kernel) (by decide +kernel) S
 have e2 := eqS (x := "widen") (y := "take") (b := false) (by decide +kernel) (by decide +kernel) (by decide +kernel) S
 have e3 := eqS (x := "widen") (y := "widen") (b := true) (by decide +kernel) (by decide +kernel) (by decide +kernel) S
 unfold X._law_done fnX DenX._law_done
 simp [startD, ifS, tv, dropS, qAg, h.meth (m := "widen") rfl, qCe, op2, op2K, vr, cst, zZ, aConsK, aNil, consK, qBr ht rfl, e1, e2, e3, e, bnd_ok, qBe, qAu, truV_bl, ifK_t, ifK_f]
theorem qIe (h : Pl S p ss st k xs w l q) (he : Er (X.Plane_narrow [.ref p] S) cl S) : Er (X._law_done [.ref p, .str "narrow", .ref t] S) cl S := by
 obtain ⟨S', l', e⟩ := he
 refine ⟨S', l', ?_⟩
 have e1 := eqS (x := "narrow") (y := "lay") (b := false) (by decide +kernel) (by decide +kernel) (by decide +kernel) S
 have e2 := eqS (x := "narrow") (y := "take") (b := false) (by decide +kernel) (by decide +kernel) (by decide +kernel) S
 have e3 := eqS (x := "narrow") (y := "widen") (b := false) (by decide +kernel) (by decide +kernel) (by decide +kernel) S
 have e4 := eqS (x := "narrow") (y := "narrow") (b := true) (by decide +kernel) (by decide +kernel) (by decide +kernel) S
 unfold X._law_done fnX DenX._law_done
 simp [startD, ifS, tv, dropS, qAg, h.meth (m := "narrow") rfl, qCe, op2, op2K, vr, cst, aNil, e1, e2, e3, e4, e, bnd_ok, qBe, qAu, truV_bl, ifK_t, ifK_f]
theorem qMq {a : D} (h : Pl S p ss st k xs w l q) (ht : zH S t = some [a]) (he : Er (X.Plane_back [.ref p, a] S) cl S) : Er (X._law_done [.ref p, .str "back", .ref t] S) cl S := by
 obtain ⟨S', l', e⟩ := he
 refine ⟨S', l', ?_⟩
 have e1 := eqS (x := "back") (y := "lay") (b := false) (by decide +kernel) (by decide +kernel) (by decide +kernel) S
 have e2 := eqS (x := "back") (y := "take") (b := false) (by decide +kernel) (by decide +kernel) (by decide +kernel) S
 have e3 := eqS (x := "back") (y := "widen") (b := false) (by decide +kernel) (by decide +kernel) (by decide +kernel) S
 have e4 := eqS (x := "back") (y := "narrow") (b := false) (by decide +kernel) (by decide +kernel) (by decide +kernel) S
 have e5 := eqS (x := "back") (y := "back") (b := true) (by decide +kernel) (by decide +kernel) (by decide +kernel) S
 unfold X._law_done fnX DenX._law_done
 simp [startD, ifS, tv, dropS, qAg, h.meth (m := "back") rfl, qCe, op2, op2K, vr, cst, zZ, aConsK, aNil, consK, qBr ht rfl, e1, e2, e3, e4, e5, e, bnd_ok, qBe, qAu, truV_bl, ifK_t, ifK_f]
theorem qKb {a : D} (ht : zH S t = some [a]) (he : Er (mkA "Plane" X.Plane___init__ [a] S) cl S) : Er (X._law_done [.ref p, .str "plane", .ref t] S) cl S := by
 obtain ⟨S', l', e⟩ := he
 refine ⟨S', l', ?_⟩
 have e1 := eqS (x := "plane") (y := "lay") (b := false) (by decide +kernel) (by decide +kernel) (by decide +kernel) S
 have e2 := eqS (x := "plane") (y := "take") (b := false) (by decide +kernel) (by decide +kernel) (by decide +kernel) S
 have e3 := eqS (x := "plane") (y := "widen") (b := false) (by decide +kernel) (by decide +kernel) (by decide +kernel) S
 have e4 := eqS (x := "plane") (y := "narrow") (b := false) (by decide +kernel) (by decide +kernel) (by decide +kernel) S
 have e5 := eqS (x := "plane") (y := "back") (b := false) (by decide +kernel) (by decide +kernel) (by decide +kernel) S
 unfold X._law_done fnX DenX._law_done
 simp [startD, ifS, tv, dropS, mkE, op2, op2K, vr, cst, zZ, aConsK, aNil, consK, qBr ht rfl, e1, e2, e3, e4, e5, e, bnd_ok, qBe, qAu, truV_bl, ifK_t, ifK_f]
end
def Due (cl : Str) (i : Int) : Prop := (cl = "NoPoint" /\ i = 0) \/ (cl = "NoColumn" /\ i = 1) \/ (cl = "NoMark" /\ i = 2)
theorem qRx {S : Sto} {cl : Str} {i : Int} (h : Due cl i) : W (F.k56_kinds [.exc cl] S) λ d S' => ∃ a, d = .ref a /\ SLe S S' /\ zH S' a = some [.bl (decide (i = 0)), .bl (decide (i = 1)), .bl (decide (i = 2)), .bl true, .bl false] := by
 have key : qG5 ["NoPoint"] ["NoColumn", "NoMark"] (.exc cl) = (λ S => ok (.bl (decide (i = 0))) S) /\ qG5 ["NoColumn"] ["NoMark", "NoPoint"] (.exc cl) = (λ S => ok (.bl (decide (i = 1))) S) /\ qG5 ["NoMark"] ["NoColumn", "NoPoint"] (.exc cl) = (λ S => ok (.bl (decide (i = 2))) S) /\ qSp ["NoColumn", "NoMark", "NoPoint"] (.exc cl) = (λ S => ok (.bl true) S) /\ qMe ["NoColumn", "NoMark", "NoPoint"] (.exc cl) = (λ S => ok (.bl false) S) := by
  rcases h with ⟨rfl, rfl⟩ | ⟨rfl, rfl⟩ | ⟨rfl, rfl⟩ <;> exact ⟨rfl, rfl, rfl, rfl, rfl⟩
 obtain ⟨k1, k2, k3, k4, k5⟩ := key
 (unfold F.k56_kinds; refine Np.W_fnF rfl ?_; unfold Den.k56_kinds; simp_all [])
 simp_all [k1, k2, k3]
 refine qA8 (qAh (by simp) _) λ S1 a l1 n1 r1 => ?_
 simp_all [qBf r1, k4]
 refine qWa r1 (by simp) λ S2 e2 b2 _ r2 => ?_
 simp_all [k5]
 refine qA8 (qAh (by simp) _) λ S3 b l3 n3 r3 => ?_
 refine qA8 (qV8 (l3.lst r2) r3 (by simp)) λ S4 c l4 n4 r4 => ?_
 exact ⟨c, rfl, (b2 _ l1 n1).trans (l3.trans l4), r4⟩
theorem qZn {S : Sto} {a b : Nat} {b1 b2 b3 b4 b5 : Bool} (ha : zH S a = some [.bl b1, .bl b2, .bl b3, .bl b4, .bl b5]) (hb : zH S b = some [.bl b1, .bl b2, .bl b3, .bl b4, .bl b5]) : eqD (.ref a) (.ref b) S = ok (.bl true) S := by
 have e : ∀ c, zH S c = some [.bl b1, .bl b2, .bl b3, .bl b4, .bl b5] -> rd 9 S (.ref c) = some (.lst [.bl b1, .bl b2, .bl b3, .bl b4, .bl b5]) := λ c h => by
  unfold rd
  rw [h]
  rfl
 unfold eqD
 rw [e a ha, e b hb]
 show ok (D.bl (qEx _ _)) S = _
 simp [qEx, eqT]
theorem qHu {S : Sto} {d t : D} {p : Nat} {cl : Str} {i : Int} (he : Er (X._law_done [.ref p, d, t] S) cl S) (hc : Due cl i) : W (F.k56_refused [.ref p, d, t, .int i] S) λ r S' => r = .bl true /\ SLe S S' := by
 obtain ⟨S1, l1, e⟩ := he
 (unfold F.k56_refused; refine Np.W_fnF rfl ?_; unfold Den.k56_refused; simp_all [])
 have t1 : qP8 X._law_done 5 ["NoColumn", "NoMark", "NoPoint"] (setS 4 (vr 5)) [some (.ref p), some d, some t, some (.int i), some .non, none] [.ref p, d, t] S = ok (.nx [some (.ref p), some d, some t, some (.int i), some (.exc cl), none]) S1 := by
  unfold qP8
  rw [e]
  rcases hc with ⟨rfl, rfl⟩ | ⟨rfl, rfl⟩ | ⟨rfl, rfl⟩ <;> rfl
 simp_all [qWh, t1, show qOx (.exc cl) .non S1 = ok (.bl false) S1 from rfl]
 refine (qRx hc).mono ?_
 rintro _ S2 ⟨a, rfl, l2, r2⟩
 refine qA8 (qAh (by simp) _) λ S3 b l3 n3 r3 => ?_
 rw [qZn (l3.lst r2) r3, W_ok]
 exact ⟨rfl, l1.trans (l2.trans l3)⟩
end Nm
end
section
namespace Nm
open Np PySem
theorem qH4 {S : Sto} {a : Nat} {xs : List D} (h : zH S a = some xs) : S[a]? = some (.lst xs) := by
 unfold zH at h
 split at h
 ·rename_i e
  cases h
  exact e
 ·cases h
theorem p20 (S : Sto) : qGs (.int 10) (.int 20) S = ok (.int (10 ^ 20)) S := qHx (by decide) S
theorem qPw {S : Sto} {ds : List D} (h : ∀ x ∈ ds, Kn S x) : Kn2 S (.tup ds) := ⟨trivial, h⟩
def Odd (S : Sto) (d : D) : Prop := Kn2 S d /\ qBi d = false /\ ∃ b, qWi d S = some b /\ (b = true -> d ≠ .non)
theorem qH0 (n : Int) (S : Sto) : W (F.k56_odd [.int n] S) λ d S' => SLe S S' /\ Odd S' d := by
 obtain ⟨g1, g2⟩ := qAm (n.fdiv 12) (show (0 : Int) < 10 ^ 20 by decide)
 (unfold F.k56_odd; refine Np.W_fnF rfl ?_; unfold Den.k56_odd; simp_all [])
 simp_all [qAj (show (12 : Int) ≠ 0 by decide), p20, qAc (show (10 ^ 20 : Int) ≠ 0 by decide)]
 generalize (n.fdiv 12).fmod (10 ^ 20) = x at g1 g2
 have m2 : ∀ S, qGx (.int 2) (.int x) S = ok (.int (2 * x)) S := λ S => qAw (by
  have := qEm (n := 70) g1 (by omega)
  have e : (2 : Int).natAbs.log2 = 1 := by decide
  omega) S
 simp_all [m2, tup2, qWg, qWf]
 refine qA8 (qAh (by simp) _) λ S1 a l1 n1 r1 => ?_
 refine qA8 (qAh (by simp) _) λ S2 b l2 n2 r2 => ?_
 refine qHm r2 (by decide) (by simp) λ y hy => ?_
 have ra := l2.lst r1
 have l := l1.trans l2
 simp only [jAp, jCq, or_false] at hy
 have kI : ∀ i : Int, Kn S2 (.int i) := λ _ => trivial
 rcases hy with rfl | rfl | rfl | rfl | rfl | rfl | rfl | rfl | rfl | rfl | rfl | rfl
 ·refine ⟨l, qPw (by simp [Kn]), ?_, true, rfl, λ _ => by simp⟩
  have : ¬ jDe (2 + 2 * x) 2 = 1 := λ h => by
   have e : (2 + 2 * x) = 2 * (1 + x) := by omega
   rw [e] at h
   have h2 : (2 : Nat) ∣ jDe (2 * (1 + x)) 2 := Int.dvd_gcd (Int.dvd_mul_right _ _) (Int.dvd_refl _)
   omega
  simp [qBi, this]
 ·exact ⟨l, qPw (by simp [Kn]), by decide, true, rfl, λ _ => by simp⟩
 ·refine ⟨l, qPw (by simp [Kn]), ?_, true, rfl, λ _ => by simp⟩
  have : ¬ (1 : Int) <= -1 - x := by omega
  simp [qBi, this]
 ·exact ⟨l, qPw (by simp [Kn]), by decide, true, rfl, λ _ => by simp⟩
 ·exact ⟨l, ⟨.inl ⟨_, qH4 ra⟩, λ _ h => by cases h⟩, rfl, true, by simp [qWi, ra], λ _ => by simp⟩
 ·exact ⟨l, ⟨trivial, λ _ h => by cases h⟩, rfl, true, rfl, λ _ => by simp⟩
 ·exact ⟨l, ⟨trivial, λ _ h => by cases h⟩, rfl, _, rfl, λ _ => by simp⟩
 ·exact ⟨l, ⟨trivial, λ _ h => by cases h⟩, rfl, true, by show (if ("1" : Str).length <= 1000000 then some (((("1" : Str).length : Int)) != 0) else none) = some true; decide +kernel, λ _ => by simp⟩
 ·exact ⟨l, ⟨trivial, λ _ h => by cases h⟩, rfl, false, rfl, λ h => by cases h⟩
 ·exact ⟨l, qPw (by simp [Kn]), rfl, true, rfl, λ _ => by simp⟩
 ·exact ⟨l, qPw (by simp [Kn]), rfl, true, rfl, λ _ => by simp⟩
 ·exact ⟨l, qPw (by simp [Kn]), rfl, true, rfl, λ _ => by simp⟩
theorem Bt.kn {a : Nat} {S S' : Sto} {zs : List D} {d : D} (b : Bt a S S') (ha : zH S' a = some zs) (h : Kn S d) : Kn S' d := by
 cases d with
 | ref c =>
  by_cases e : c = a
  ·subst e
   exact .inl ⟨zs, qH4 ha⟩
  ·have : ∀ o, S[c]? = some o -> S'[c]? = some o := λ o z => by rw [b.2 c (jAs.mp z).1 e]; exact z
   rcases h with ⟨xs, z⟩ | ⟨kvs, z⟩
   ·exact .inl ⟨xs, this _ z⟩
   ·exact .inr ⟨kvs, this _ z⟩
 | _ => exact h
theorem qTf (v : Rat) (S : Sto) : Kn2 S (qAo v) := qPw (by simp [Kn])
theorem qMo {S : Sto} {k : Nat} {xs : List D} {m : Int} {Q : D -> Sto -> Prop} (hx : xs.length = k) (fin : ∀ d S', SLe S S' -> qHn S' d k -> Q d S') : W (qA5 [.tup xs, .non, .str "", .int 0, .ref S.length] (S ++ [.dct []])) λ a S2 => W (qCd (.int m) (.int 5) S2) λ x S3 => W (ixD a x S3) Q := by
 refine qA8 (qAh (by simp) _) λ S2 b l2 n2 r2 => ?_
 refine qHm r2 (by decide) (by simp) λ y hy => ?_
 have l : SLe S S2 := (SLe.app _).trans l2
 have d2 : S2[S.length]? = some (.dct []) := by
  rw [l2.get (by simp)]
  simp
 simp only [jAp, jCq, or_false] at hy
 refine fin y S2 l (.inl ?_)
 rcases hy with rfl | rfl | rfl | rfl | rfl
 ·exact ⟨trivial, rfl⟩
 ·exact ⟨trivial, rfl⟩
 ·exact ⟨trivial, rfl⟩
 ·exact ⟨trivial, rfl⟩
 ·exact ⟨.inr ⟨_, d2⟩, by simp [qSo, zH, d2]⟩
theorem qGw (n : Int) {k : Nat} (hk : k < 900) (S : Sto) : W (F.k56_odd_row [.int n, .int (k : Int)] S) λ d S' => SLe S S' /\ qHn S' d k := by
 obtain ⟨g1, g2⟩ := qAm n (show (0 : Int) < 4 by decide)
 (unfold F.k56_odd_row; refine Np.W_fnF rfl ?_; unfold Den.k56_odd_row; simp_all [])
 simp_all [qFc (show (4 : Int) ≠ 0 by decide), qKw, qAj (show (999 : Int) ≠ 0 by decide)]
 refine (qD8 _ hk S).mono ?_
 rintro _ S1 ⟨c, xs, rfl, hc, l1, rc, hl, hx⟩
 generalize n.fmod 4 = y at g1 g2
 generalize n.fdiv 4 = m
 have hlm : (xs.map qAo).length = k := by rw [jBh, hl]
 have : y = 0 \/ y = 1 \/ y = 2 \/ y = 3 := by omega
 rcases this with rfl | rfl | rfl | rfl
 ·simp_all [tup2]
  refine qA8 (qAh (by simp) _) λ S2 b l2 n2 r2 => ?_
  refine qA8 (qV8 (l2.lst rc) r2 (by simp; omega)) λ S3 e l3 n3 r3 => ?_
  exact ⟨l1.trans (l2.trans l3), .inr ⟨e, _, rfl, r3, by simp; omega, .inl (by simp; omega)⟩⟩
 ·by_cases h0 : (0 : Int) < (k : Int)
  ·simp_all [jD0, h0, slE, slK, qQe rc]
   have l2 : SLe S1 (S1 ++ [.lst (qIf (xs.map qAo) (some 1) none)]) := SLe.app _
   have r2 := qAb S1 (qIf (xs.map qAo) (some 1) none)
   have hc : (qIf (xs.map qAo) (some 1) none).length = k - 1 := by
    rw [show qIf (xs.map qAo) (some 1) none = qIf (xs.map qAo) (some ((1 : Nat) : Int)) none from rfl, qVp, jB4, hlm]
   exact ⟨l1.trans l2, .inr ⟨_, _, rfl, r2, by omega, .inl (by omega)⟩⟩
  ·have hk0 : (k : Int) = 0 := by omega
   simp_all [jD0, Int.reduceLT, h0, hk0, qFj rc, qCx]
   exact qMo hlm λ d S' l h => ⟨l1.trans l, h⟩
 ·simp_all [jD0, qFj rc, qCx]
  exact qMo hlm λ d S' l h => ⟨l1.trans l, h⟩
 ·by_cases h0 : (k : Int) = 0
  ·have hk0 : (k : Int) = 0 := by omega
   simp_all [jD0, h0, hk0, qFj rc, qCx]
   exact qMo hlm λ d S' l h => ⟨l1.trans l, h⟩
  ·obtain ⟨f1, f2⟩ := qAm m (show (0 : Int) < (k : Int) by omega)
   obtain ⟨j, hj⟩ : ∃ j : Nat, m.fmod (k : Int) = (j : Int) := ⟨(m.fmod (k : Int)).toNat, by omega⟩
   simp_all [jD0, h0, qAj (show (12 : Int) ≠ 0 by decide)]
   refine (qH0 _ S1).mono ?_
   rintro d S2 ⟨l2, ho⟩
   have rc2 := l2.lst rc
   simp_all [qAc h0, hj, qGl, qNs]
   refine qPz rc2 (i := j) (by omega) λ S3 b3 e3 r3 => ?_
   simp_all []
   refine ⟨qTb (l1.trans l2) b3 hc, .inr ⟨c, _, rfl, r3, by simp; omega, .inr ⟨λ y hy => ?_, d, List.mem_set (by omega) _, ho.2.1⟩⟩⟩
   rcases jDr hy with hy | rfl
   ·obtain ⟨v, _, rfl⟩ := jCe.mp hy
    exact qTf v S3
   ·exact ⟨b3.kn r3 ho.1.1, λ z hz => b3.kn r3 (ho.1.2 z hz)⟩
def qYc (S' : Sto) (p : Nat) (d : D) : Prop := ∃ c t deed i cl, d = .ref c /\ zH S' c = some [.str deed, .ref t, .int i] /\ Er (X._law_done [.ref p, .str deed, .ref t] S') cl S' /\ Due cl i
theorem qB1 {S S1 : Sto} {p : Nat} {deed : Str} {as : List D} {i : Int} {Q : D -> Sto -> Prop} (l1 : SLe S S1) (hl : as.length <= 3) (he : ∀ S' t, SLe S1 S' -> zH S' t = some as -> ∃ cl, Er (X._law_done [.ref p, .str deed, .ref t] S') cl S' /\ Due cl i) (fin : ∀ d S', SLe S S' -> qYc S' p d -> Q d S') : W (qA5 as S1) λ a S2 => W (qA5 [.str deed, a, .int i] S2) Q := by
 refine qA8 (qAh (by omega) _) λ S2 t l2 n2 r2 => ?_
 refine qA8 (qAh (by simp) _) λ S3 c l3 n3 r3 => ?_
 obtain ⟨cl, h1, h2⟩ := he S3 t (l2.trans l3) (l3.lst r2)
 exact fin _ S3 (l1.trans (l2.trans l3)) ⟨c, t, deed, i, cl, rfl, r3, h1, h2⟩
def qMj (nums : List Nat) : D -> Bool
 | .int i => !decide (i.toNat ∈ nums)
 | _ => false
theorem qPk (v : Rat) : qAo v ≠ .non := by simp [qAo]
theorem qQk {y : Int} (hx : y < 0) (h2 : -(10 ^ 21) < y) : ∃ v : Rat, D.tup [.int y, .int 1] = qAo v /\ sm v /\ v.num <= 0 := by
 refine ⟨(y : Rat), by simp [qAo], ?_, by simp; omega⟩
 refine Le.sm (n := 80) ⟨?_, ?_⟩ (by decide)
 ·simp; omega
 ·simp
theorem qXq {S : Sto} {d : D} (h : Odd S d) : ∃ d', (∀ δ, qUr (cst (.str "1")) δ d S = ok d' S) /\ qSh S d' := by
 obtain ⟨h1, h2, b, h3, h4⟩ := h
 cases b with
 | true => exact ⟨d, λ δ => by unfold qUr; rw [h3], h4 rfl, .inl ⟨h1, h2⟩⟩
 | false => exact ⟨.str "1", λ δ => by unfold qUr; rw [h3]; rfl, by simp, .inl ⟨⟨trivial, λ _ z => by cases z⟩, rfl⟩⟩
theorem qL0 {S : Sto} {v : D} {as : List D} {m k : Int} {Q : D -> Sto -> Prop} (hk : 0 < k) (hl : (as.length : Int) + 2 = k) (h3 : as.length <= 10) (fin : ∀ x S', SLe S S' -> (x ∈ as \/ (Kn S' x /\ ∀ i, x ≠ .int i)) -> Q x S') : W (qA5 [v] S) λ a S2 => W (qA5 (as ++ [a, .ref S2.length]) (S2 ++ [.dct []])) λ b S3 => W (qCd (.int m) (.int k) S3) λ x S4 => W (ixD b x S4) Q := by
 refine qA8 (qAh (by simp) _) λ S2 a l2 n2 r2 => ?_
 refine qA8 (qAh (by simp; omega) _) λ S3 b l3 n3 r3 => ?_
 refine qHm r3 hk (by simp; omega) λ x hx => ?_
 have l : SLe S2 S3 := (SLe.app _).trans l3
 have d3 : S3[S2.length]? = some (.dct []) := by
  rw [l3.get (by simp)]
  simp
 refine fin x S3 (l2.trans l) ?_
 rcases jAq.mp hx with h | h
 ·exact .inl h
 ·simp only [jAp, jCq, or_false] at h
  rcases h with rfl | rfl
  ·exact .inr ⟨.inl ⟨_, qH4 (l.lst r2)⟩, λ i => by simp⟩
  ·exact .inr ⟨.inr ⟨_, d3⟩, λ i => by simp⟩
theorem qIv {S S1 : Sto} {p : Nat} {m : Int} {Q : D -> Sto -> Prop} (l1 : SLe S S1) (fin : ∀ d S', SLe S S' -> qYc S' p d -> Q d S') : W (qA5 [.int 2] S1) λ a S2 => W (qA5 [.int (-1 - (m.fdiv 8).fmod (10 ^ 20)), .int (13 + (m.fdiv 8).fmod (10 ^ 20)), .bl true, .non, .str "3", .tup [.int 2], a, .ref S2.length] (S2 ++ [.dct []])) λ b S3 => W (qCd (.int m) (.int 8) S3) λ x S4 => W (ixD b x S4) λ x S5 => W (qA5 [x] S5) λ a S2 => W (qA5 [.str "plane", a, .int 1] S2) Q := by
 obtain ⟨f1, f2⟩ := qAm (m.fdiv 8) (show (0 : Int) < 10 ^ 20 by decide)
 refine qL0 (as := [.int (-1 - (m.fdiv 8).fmod (10 ^ 20)), .int (13 + (m.fdiv 8).fmod (10 ^ 20)), .bl true, .non, .str "3", .tup [.int 2]]) (by decide) (by simp) (by simp) λ x S2 l2 hx => ?_
 refine qB1 (l1.trans l2) (by simp) (λ S3 t l3 r3 => ?_) fin
 have key : Kn S3 x /\ ∀ i, x = .int i -> i < 0 \/ 12 < i := by
  rcases hx with hx | ⟨h1, h2⟩
  ·simp only [jAp, jCq, or_false] at hx
   rcases hx with rfl | rfl | rfl | rfl | rfl | rfl
   ·exact ⟨trivial, λ i e => by cases e; omega⟩
   ·exact ⟨trivial, λ i e => by cases e; omega⟩
   ·exact ⟨trivial, λ i e => by cases e⟩
   ·exact ⟨trivial, λ i e => by cases e⟩
   ·exact ⟨trivial, λ i e => by cases e⟩
   ·exact ⟨trivial, λ i e => by cases e⟩
  ·exact ⟨h1.mono l3, λ i e => absurd e (h2 i)⟩
 exact ⟨_, qKb r3 (qNz key.1 key.2), .inr (.inl ⟨rfl, rfl⟩)⟩
theorem qAe {t : DT} {A B : DSt} {δ : DS} {S : Sto} {Q : Fl -> Sto -> Prop} (h : t δ S = ok false S) (k : W (B δ S) Q) : W (seqS (ifS t A nxS) B δ S) Q := by
 unfold seqS ifS
 rw [h]
 exact k
theorem qDt {t : DT} {A B : DSt} {δ : DS} {S : Sto} {Q : D -> Sto -> Prop} (h : t δ S = ok true S) (k : W (A δ S) λ fl S' => ∃ d, fl = .rt d /\ Q d S') : W (seqS (ifS t A nxS) B δ S) (outQ Q) := by
 unfold seqS ifS
 rw [h, bnd_ok, ifK_t, W_bnd]
 refine k.mono ?_
 rintro _ S' ⟨d, rfl, q⟩
 exact W.intro rfl q
theorem qBt {δ : DS} {i : Nat} {y j : Int} {b : Bool} (S : Sto) (h : δ[i]? = some (some (.int y))) (hn : decide (y = j) = b) : tv (op2 eqD (vr i) (cst (.int j))) δ S = ok b S := by
 have e : vr i δ S = ok (.int y) S := by unfold vr; rw [h]
 unfold tv op2
 rw [e]
 show bnd (eqD (.int y) (.int j) S) qPe = _
 rw [eqD_int, hn]
 rfl
theorem qIo {A B : DT} {δ : DS} {S : Sto} (h : A δ S = ok false S) : andT A B δ S = ok false S := by
 unfold andT
 rw [h]
 rfl
theorem qGi {A B : DT} {δ : DS} {S : Sto} {b : Bool} (h : A δ S = ok true S) (k : B δ S = ok b S) : andT A B δ S = ok b S := by
 unfold andT
 rw [h]
 exact k
theorem qS4 {δ : DS} {s : Nat} {y j : Int} {b : Bool} {S : Sto} (h : δ[0]? = some (some (.ref s))) (hs : ixD (.ref s) (.int 0) S = ok (.int y) S) (hn : decide (y = j) = b) : tv (op2 eqD (op2 ixD (vr 0) (cst (.int 0))) (cst (.int j))) δ S = ok b S := by
 have e : vr 0 δ S = ok (.ref s) S := by unfold vr; rw [h]
 have e2 : op2 ixD (vr 0) (cst (.int 0)) δ S = ok (.int y) S := by
  unfold op2
  rw [e]
  exact hs
 have e3 : op2 eqD (op2 ixD (vr 0) (cst (.int 0))) (cst (.int j)) δ S = ok (.bl (decide (y = j))) S := by
  rw [op2, e2]
  exact eqD_int y j S
 unfold tv
 rw [e3, hn]
 rfl
theorem qSa {S : Sto} {p s n w l : Nat} {ts : List Pt} {M : List Nat} {xs : List D} {st : Nat} (h : BoX S p s n w l ts M xs st) (hn : n <= 700) {m : Int} : W (F.k56_bad [.ref s, .int (xs.length : Int), .int m] S) λ d S' => SLe S S' /\ qYc S' p d := by
 obtain ⟨ss, k, ps, q, r, T, eq, er, hx, O, eM⟩ := h
 have lq : q.length = ts.length := by rw [<- eq]; simp
 have lr : r.length = ts.length := by rw [<- er]; simp
 have ol := O.len
 have ow := O.wide
 obtain ⟨g1, g2⟩ := qAm m (show (0 : Int) < 8 by decide)
 unfold F.k56_bad
 refine W_fnF rfl ?_
 rw [W_outF]
 unfold Den.k56_bad
 refine qA0 (λ δ' S' => S' = S /\ δ' = [some (.ref s), some (.int (xs.length : Int)), some (.int (m.fdiv 8)), some (.int (m.fmod 8)), none, none, none]) ?_ ?_
 ·simp_all [qFc (show (8 : Int) ≠ 0 by decide), qKw]
  exact ⟨_, rfl, trivial, rfl⟩
 rintro _ S0 ⟨e0, rfl⟩
 obtain rfl : S = S0 := e0.symm
 generalize m.fmod 8 = y at g1 g2
 generalize m.fdiv 8 = m
 refine qA0 (λ δ' S' => ∃ c row, δ' = [some (.ref s), some (.int (xs.length : Int)), some (.int m), some (.int y), some (.ref c), none, none] /\ SLe S S' /\ qBu S' c row /\ row.length = w) ?_ ?_
 ·simp_all [qAj (show (999 : Int) ≠ 0 by decide), qBr T.L.st rfl]
  refine (qD8 _ (show w < 900 by omega) S).mono ?_
  rintro _ S1 ⟨c, row, rfl, hc, l1, rc, hl, hx⟩
  exact ⟨_, rfl, c, row, rfl, l1, rc, hl⟩
 rintro _ S1 ⟨c, row, rfl, l1, rc, hl⟩
 have T1 := T.mono l1
 have s0 := qBr T1.L.st rfl
 have s1 := qA7 T1.L.st rfl
 have dP : Due "NoPoint" 0 := .inl ⟨rfl, rfl⟩
 have dC : Due "NoColumn" 1 := .inr (.inl ⟨rfl, rfl⟩)
 have dM : Due "NoMark" 2 := .inr (.inr ⟨rfl, rfl⟩)
 have : y = 0 \/ y = 1 \/ y = 2 \/ y = 3 \/ y = 4 \/ y = 5 \/ y = 6 \/ y = 7 := by omega
 rcases this with rfl | rfl | rfl | rfl | rfl | rfl | rfl | rfl
 ·refine qDt (qBt S1 rfl rfl) ?_
  simp_all [s0, tup2]
  refine (qGw m (show w < 900 by omega) S1).mono ?_
  rintro d S2 ⟨l2, hd⟩
  refine qB1 (l1.trans l2) (by simp) (λ S3 t l3 r3 => ?_) λ d S' l h => ⟨_, rfl, l, h⟩
  have T3 := T1.mono (l2.trans l3)
  exact ⟨_, qFz T3.P r3 (qMb T3.P (qPk 1) (qOo (hd.mono l3))), dP⟩
 ·refine qAe (qBt S1 rfl rfl) ?_
  refine qDt (qBt S1 rfl rfl) ?_
  simp_all []
  refine (qH0 m S1).mono ?_
  rintro d S2 ⟨l2, hd⟩
  refine qB1 (l1.trans l2) (by simp) (λ S3 t l3 r3 => ?_) λ d S' l h => ⟨_, rfl, l, h⟩
  have T3 := T1.mono (l2.trans l3)
  exact ⟨_, qFz T3.P r3 (qMb T3.P (by simp) (qOn ((l2.trans l3).lst rc) hl ow (hd.1.mono l3) hd.2.1)), dP⟩
 ·refine qAe (qBt S1 rfl rfl) ?_
  refine qAe (qBt S1 rfl rfl) ?_
  refine qDt (qBt S1 rfl rfl) ?_
  obtain ⟨f1, f2⟩ := qAm m (show (0 : Int) < 10 ^ 20 by decide)
  simp_all [p20, qAc (show (10 ^ 20 : Int) ≠ 0 by decide), qAj (show (4 : Int) ≠ 0 by decide), tup2, orA]
  refine (qH0 _ S1).mono ?_
  rintro d S2 ⟨l2, hd⟩
  obtain ⟨d', e', hw'⟩ := qXq hd
  simp_all [e']
  refine qA8 (qAh (by simp) _) λ S3 b l3 n3 r3 => ?_
  refine qHm r3 (by decide) (by simp) λ z hz => ?_
  have nz : qSh S3 z := by
   simp only [jAp, jCq, or_false] at hz
   rcases hz with rfl | rfl | rfl | rfl
   ·exact ⟨qPk 0, .inr ⟨0, rfl, sm0, by decide⟩⟩
   ·exact ⟨by simp, .inr ⟨mkRat (-1) 2, by simp only [qAo]; rw [show (mkRat (-1) 2).num = -1 by decide, show (mkRat (-1) 2).den = 2 by decide]; rfl, Le.sm (n := 4) ⟨by decide, by decide⟩ (by decide), by decide⟩⟩
   ·exact ⟨by simp, .inr (qQk (by omega) (by omega))⟩
   ·exact hw'.mono l3
  refine qB1 (l1.trans (l2.trans l3)) (by simp) (λ S4 t l4 r4 => ?_) λ d S' l h => ⟨_, rfl, l, h⟩
  have T4 := T1.mono (l2.trans (l3.trans l4))
  exact ⟨_, qFz T4.P r4 (qMb T4.P nz.1 (qOm (v := 0) ((l2.trans (l3.trans l4)).lst rc) hl ow (nz.mono l4))), dP⟩
 ·refine qAe (qBt S1 rfl rfl) ?_
  refine qAe (qBt S1 rfl rfl) ?_
  refine qAe (qBt S1 rfl rfl) ?_
  refine qDt (qBt S1 rfl rfl) ?_
  have hrng : qEa [.int ((l : Int) + 2)] S1 = ok (.fix (qB7 0 (l + 2))) S1 := by rw [show (l : Int) + 2 = ((l + 2 : Nat) : Int) by omega]; exact qC2 (by have := O.laid; omega) S1
  simp_all []
  refine qSf (base := [_, _, _, _, _, _, _]) _ ((jAg (l + 2)).map λ i => D.int (i : Nat)) _ (qMj (r.map (·.1.num))) (λ x => x) (qDm _) (λ _ _ => trivial) ?_ ?_ ?_
  ·simp_all [show ixD (.ref s) (.int 2) S1 = ok (.int (l : Int)) S1 from qAf (i := 2) T1.L.st rfl, hrng, qCn]
   have := O.laid
   exact ⟨jAy _, by show jBt _ <= _; simp; omega, SLe.rfl, λ i S'' _ => rfl⟩
  ·intro x S2 hx l2
   obtain ⟨i, hi, rfl⟩ := jCe.mp hx
   have T2 := T1.mono l2
   have c1 : qA1 (itE itL (op2 ixD (vr 0) (cst (.int 1)))) 1 (setG 8) (op2 ixD (vr 8) (cst (.int 0))) [some (.ref s), some (.int (xs.length : Int)), some (.int m), some (.int 3), some (.ref c), none, none, some (.int (i : Int))] S2 = ok (.ref S2.length) (S2 ++ [.lst ((r.map (·.1.num)).map qE2)]) := by
    refine (qC8 (λ x => [some x]) (xs := r.map ptD) (f := qSk) (qDm [some (.ref s), some (.int (xs.length : Int)), some (.int m), some (.int 3), some (.ref c), none, none, some (.int (i : Int))]) (src := .one ps) (by simp only [itE, op2, op2K, cst, vr, jDc, jCb, jC0, jCg, bnd_ok, qA7 T2.L.st rfl, qCv T2.L.pt.1]) (Has.one T2.L.pt.1) (by rw [qB6 T2.L.pt.1]; simp; omega) (λ _ _ => trivial) λ x hx => by
     obtain ⟨y, _, rfl⟩ := jCe.mp hx
     rfl).trans ?_
    simp [jCh, Function.comp_def, qSk, ptD, qE2]
   have nn := qEh (k := i) (qAb S2 ((r.map (·.1.num)).map qE2))
   have la : SLe S2 (S2 ++ [Np.O.lst ((r.map (·.1.num)).map qE2)]) := SLe.app _
   generalize S2 ++ [Np.O.lst ((r.map (·.1.num)).map qE2)] = S3 at c1 nn la
   have tt : tv (op2 qCc (vr 7) (qA1 (itE itL (op2 ixD (vr 0) (cst (.int 1)))) 1 (setG 8) (op2 ixD (vr 8) (cst (.int 0))))) [some (.ref s), some (.int (xs.length : Int)), some (.int m), some (.int 3), some (.ref c), none, none, some (.int (i : Int))] S2 = ok (!decide (i ∈ r.map (·.1.num))) S3 := by
    unfold tv op2
    show bnd (bnd (qA1 (itE itL (op2 ixD (vr 0) (cst (.int 1)))) 1 (setG 8) (op2 ixD (vr 8) (cst (.int 0))) _ S2) (qCc (.int (i : Int)))) qPe = _
    rw [c1, bnd_ok, nn]
    rfl
   refine W.intro tt ⟨la, by simp [qMj], λ _ => W.intro rfl ⟨rfl, SLe.rfl⟩⟩
  ·intro S2 b l2 n2 r2
   rw [List.map_id'] at r2
   generalize hgs : ((jAg (l + 2)).map λ i => D.int (i : Nat)).filter (qMj (r.map (·.1.num))) = gs at r2
   have hg0 : D.int ((l + 1 : Nat) : Int) ∈ gs := by
    rw [<- hgs]
    refine jAi.mpr ⟨jCe.mpr ⟨l + 1, by simp, rfl⟩, ?_⟩
    simp only [qMj, jCz, Bool.not_eq_true', decide_eq_false_iff_not]
    intro hm
    obtain ⟨x, hx, ex⟩ := jCe.mp hm
    have := (O.each x.1 (by rw [<- er]; exact jCe.mpr ⟨x, hx, rfl⟩)).1
    omega
   have hgp : (0 : Int) < (gs.length : Int) := by
    have := List.length_pos_of_mem hg0
    omega
   obtain ⟨f1, f2⟩ := qAm (m.fdiv 8) (show (0 : Int) < 10 ^ 20 by decide)
   simp_all [qAj (show (8 : Int) ≠ 0 by decide), p20, qAc (show (10 ^ 20 : Int) ≠ 0 by decide), qAi r2]
   refine qHm r2 hgp rfl λ g hg => ?_
   simp_all [qWg, qCx]
   refine qL0 (as := [.int (-1 - (m.fdiv 8).fmod (10 ^ 20)), g, .bl true, .non, .str "0", .tup [.int 0]]) (by decide) (by simp) (by simp) λ x S3 l3 hx => ?_
   refine qB1 (l1.trans (l2.trans l3)) (by simp) (λ S4 t l4 r4 => ?_) λ d S' l h => ⟨_, rfl, l, h⟩
   have T4 := T1.mono (l2.trans (l3.trans l4))
   have key : Kn S4 x /\ ∀ i, x = .int i -> ∀ y ∈ q, (y.1.num : Int) ≠ i := by
    rcases hx with hx | ⟨h1, h2⟩
    ·simp only [jAp, jCq, or_false] at hx
     rcases hx with rfl | rfl | rfl | rfl | rfl | rfl
     ·exact ⟨trivial, λ i e => by cases e; omega⟩
     ·rw [<- hgs] at hg
      obtain ⟨h1, h2⟩ := jAi.mp hg
      obtain ⟨j, _, rfl⟩ := jCe.mp h1
      refine ⟨trivial, λ i e y hy z => ?_⟩
      cases e
      simp only [qMj, jCz, Bool.not_eq_true', decide_eq_false_iff_not] at h2
      refine h2 ?_
      rw [qWm, er, <- eq, <- qWm]
      exact jCe.mpr ⟨y, hy, by omega⟩
     ·exact ⟨trivial, λ i e => by cases e⟩
     ·exact ⟨trivial, λ i e => by cases e⟩
     ·exact ⟨trivial, λ i e => by cases e⟩
     ·exact ⟨trivial, λ i e => by cases e⟩
    ·exact ⟨h1.mono l4, λ i e => absurd e (h2 i)⟩
   exact ⟨_, qMp T4.P r4 (qQb T4.P (by omega) key.1 key.2), dP⟩
 ·refine qAe (qBt S1 rfl rfl) ?_
  refine qAe (qBt S1 rfl rfl) ?_
  refine qAe (qBt S1 rfl rfl) ?_
  refine qAe (qBt S1 rfl rfl) ?_
  refine qDt (qBt S1 rfl rfl) ?_
  simp_all [s1, qAi T1.L.pt.1, jBh]
  refine (qGw m (show r.length < 900 by omega) S1).mono ?_
  rintro d S2 ⟨l2, hd⟩
  refine qB1 (l1.trans l2) (by simp) (λ S3 t l3 r3 => ?_) λ d S' l h => ⟨_, rfl, l, h⟩
  have T3 := T1.mono (l2.trans l3)
  refine ⟨_, qFd T3.P r3 (qIl T3.P ?_), dC⟩
  by_cases h12 : w = 12
  ·exact .inl h12
  ·exact .inr ⟨by omega, by rw [show q.length = r.length by omega]; exact hd.mono l3⟩
 ·refine qAe (qBt S1 rfl rfl) ?_
  refine qAe (qBt S1 rfl rfl) ?_
  refine qAe (qBt S1 rfl rfl) ?_
  refine qAe (qBt S1 rfl rfl) ?_
  refine qAe (qBt S1 rfl rfl) ?_
  by_cases h0 : (w : Int) = 0
  ·have h00 : w = 0 := by omega
   subst h00
   refine qDt (qGi (qBt S1 rfl rfl) (qS4 rfl s0 rfl)) ?_
   simp_all []
   refine qB1 l1 (by simp) (λ S3 t l3 r3 => ?_) λ d S' l h => ⟨_, rfl, l, h⟩
   have T3 := T1.mono l3
   exact ⟨_, qIe T3.P (qL5 T3.P), dC⟩
  ·by_cases h12 : (w : Int) = 12
   ·refine qAe (qGi (qBt S1 rfl rfl) (qS4 rfl s0 (decide_eq_false (by omega)))) ?_
    refine qDt (qGi (qBt S1 rfl rfl) (qS4 rfl s0 (decide_eq_true (by omega)))) ?_
    simp_all [s1, qAi T1.L.pt.1, jBh]
    refine (qD8 _ (show r.length < 900 by omega) S1).mono ?_
    rintro _ S2 ⟨c2, row2, rfl, hc2, l2, rc2, hl2, hx2⟩
    refine qB1 (l1.trans l2) (by simp) (λ S3 t l3 r3 => ?_) λ d S' l h => ⟨_, rfl, l, h⟩
    have T3 := T1.mono (l2.trans l3)
    exact ⟨_, qFd T3.P r3 (qIl T3.P (.inl (by omega))), dC⟩
   ·refine qAe (qGi (qBt S1 rfl rfl) (qS4 rfl s0 (decide_eq_false (by omega)))) ?_
    refine qAe (qGi (qBt S1 rfl rfl) (qS4 rfl s0 (decide_eq_false (by omega)))) ?_
    refine qAe (qBt S1 rfl rfl) ?_
    simp_all [qAj (show (8 : Int) ≠ 0 by decide), p20, qAc (show (10 ^ 20 : Int) ≠ 0 by decide), qWg, qCx]
    exact qIv l1 λ d S' l h => ⟨l, h⟩
 ·refine qAe (qBt S1 rfl rfl) ?_
  refine qAe (qBt S1 rfl rfl) ?_
  refine qAe (qBt S1 rfl rfl) ?_
  refine qAe (qBt S1 rfl rfl) ?_
  refine qAe (qBt S1 rfl rfl) ?_
  refine qAe (qIo (qBt S1 rfl rfl)) ?_
  refine qAe (qIo (qBt S1 rfl rfl)) ?_
  refine qDt (qBt S1 rfl rfl) ?_
  obtain ⟨f1, f2⟩ := qAm (m.fdiv 7) (show (0 : Int) < 10 ^ 20 by decide)
  simp_all [qAj (show (7 : Int) ≠ 0 by decide), p20, qAc (show (10 ^ 20 : Int) ≠ 0 by decide), qCx]
  refine qL0 (as := [.int (-1 - (m.fdiv 7).fmod (10 ^ 20)), .int ((xs.length : Int) + 1 + (m.fdiv 7).fmod (10 ^ 20)), .bl false, .non, .str "0"]) (by decide) (by simp) (by simp) λ x S2 l2 hx => ?_
  refine qB1 (l1.trans l2) (by simp) (λ S3 t l3 r3 => ?_) λ d S' l h => ⟨_, rfl, l, h⟩
  have T3 := T1.mono (l2.trans l3)
  have key : Kn S3 x /\ ∀ i, x = .int i -> i < 0 \/ (xs.length : Int) < i := by
   rcases hx with hx | ⟨h1, h2⟩
   ·simp only [jAp, jCq, or_false] at hx
    rcases hx with rfl | rfl | rfl | rfl | rfl
    ·exact ⟨trivial, λ i e => by cases e; omega⟩
    ·exact ⟨trivial, λ i e => by cases e; omega⟩
    ·exact ⟨trivial, λ i e => by cases e⟩
    ·exact ⟨trivial, λ i e => by cases e⟩
    ·exact ⟨trivial, λ i e => by cases e⟩
   ·exact ⟨h1.mono l3, λ i e => absurd e (h2 i)⟩
  exact ⟨_, qMq T3.P r3 (qSb T3.P key.1 key.2), dM⟩
 ·refine qAe (qBt S1 rfl rfl) ?_
  refine qAe (qBt S1 rfl rfl) ?_
  refine qAe (qBt S1 rfl rfl) ?_
  refine qAe (qBt S1 rfl rfl) ?_
  refine qAe (qBt S1 rfl rfl) ?_
  refine qAe (qIo (qBt S1 rfl rfl)) ?_
  refine qAe (qIo (qBt S1 rfl rfl)) ?_
  refine qAe (qBt S1 rfl rfl) ?_
  simp_all [qAj (show (8 : Int) ≠ 0 by decide), p20, qAc (show (10 ^ 20 : Int) ≠ 0 by decide), qWg, qCx]
  exact qIv l1 λ d S' l h => ⟨l, h⟩
def Iv (S : Sto) (p s n w a : Nat) : Prop := ∃ l ts M xs st, BoX S p s n w l ts M xs st /\ xs.length = a
theorem Iv.mono {S S' : Sto} {p s n w a : Nat} (h : Iv S p s n w a) (e : SLe S S') : Iv S' p s n w a := by
 obtain ⟨l, ts, M, xs, st, B, ha⟩ := h
 exact ⟨l, ts, M, xs, st, B.mono e, ha⟩
theorem qF7 (i : Int) (S : Sto) : W (F.k52_alike 7 [.int i, .int i] S) λ d S' => d = .bl true /\ SLe S S' := qDj (n := 7) (show Al S 7 (.int i) (.int i) from .inl ⟨_, rfl, rfl⟩)
theorem qXz {S : Sto} {b : Nat} {x y z : D} (h : zH S b = some [x, y, z]) (g1 g2 g3 : DG) (δ : DS) : qSn [g1, g2, g3] (.ref b) δ S = tupGs [g1, g2, g3] [x, y, z] δ S := by
 unfold qSn
 simp only [h]
 rfl
theorem qO6 (ns : List Int) (k : Nat) : ∃ c : Int, ∀ S, F.k11_cell_at [.scr (ns.map D.int), .int (k : Int)] S = ok (.int c) S := by
 by_cases h : k < ns.length
 ·refine ⟨ns[k], λ S => qEy ?_⟩
  (unfold F.k11_cell_at; refine Np.W_fnF rfl ?_; unfold Den.k11_cell_at; simp_all [])
  have h1 : (k : Int) < ((ns.map D.int).length : Int) := by rw [jBh]; omega
  have hk : (ns.map D.int)[k]? = some (.int ns[k]) := by simp [h]
  simp_all [lenD_scr, h1, qRz hk]
 ·refine ⟨0, λ S => qEy ?_⟩
  (unfold F.k11_cell_at; refine Np.W_fnF rfl ?_; unfold Den.k11_cell_at; simp_all [])
  have h1 : ¬ (k : Int) < ((ns.map D.int).length : Int) := by rw [jBh]; omega
  simp_all [lenD_scr, h1]
theorem k56_holds (ns : List Int) (hs : Scr ns) : W (F.k56_law [.scr (ns.map D.int)] []) λ d _ => d = .bl true := by
 unfold F.k56_law
 refine W_fnF rfl ?_
 rw [W_outF]
 unfold Den.k56_law
 obtain ⟨c0, e0⟩ := qO6 ns 0
 obtain ⟨c1, e1⟩ := qO6 ns 1
 have e0 : ∀ S, F.k11_cell_at [.scr (ns.map D.int), .int 0] S = ok (.int c0) S := e0
 have e1 : ∀ S, F.k11_cell_at [.scr (ns.map D.int), .int 1] S = ok (.int c1) S := e1
 have e4 : (4 : Int) ≠ 0 := by decide
 have e6 : (6 : Int) ≠ 0 := by decide
 refine qA0 (λ δ' S' => S' = [] /\ ∃ w : Nat, w <= 3 /\ δ' = [some (.scr (ns.map D.int)), some (.int (w : Int)), none, none, none, none, none, none, none]) ?_ ?_
 ·obtain ⟨f1, f2⟩ := qAm c0 (show (0 : Int) < 4 by decide)
  simp_all [e0, qAc e4]
  exact ⟨_, rfl, trivial, (c0.fmod 4).toNat, by omega, by rw [Int.toNat_of_nonneg f1]⟩
 rintro _ S0 ⟨rfl, w0, hw0, rfl⟩
 refine qA0 (λ δ' S' => S' = [] /\ ∃ w : Nat, w <= 12 /\ δ' = [some (.scr (ns.map D.int)), some (.int (w : Int)), none, none, none, none, none, none, none]) ?_ ?_
 ·by_cases h : (c0.fdiv 4).fmod 4 = 1
  ·simp_all [e0, qAj e4, qAc e4, h]
   exact ⟨_, rfl, trivial, 12, by omega, rfl⟩
  ·simp_all [e0, qAj e4, qAc e4, h]
   exact ⟨_, rfl, trivial, w0, by omega, rfl⟩
 rintro _ S0 ⟨rfl, w, hw, rfl⟩
 refine qA0 (λ δ' S' => ∃ p ss st k, δ' = [some (.scr (ns.map D.int)), some (.int (w : Int)), some (.ref p), none, none, none, none, none, none] /\ Pl S' p ss st k [] w 0 []) ?_ ?_
 ·simp_all [mkE]
  refine (qNy hw []).mono ?_
  rintro d S1 ⟨ss, st, k, rfl, _, P, _⟩
  exact ⟨_, rfl, _, ss, st, k, rfl, P⟩
 rintro _ S1 ⟨p, ss, st, k, rfl, P⟩
 refine qA0 (λ δ' S' => ∃ s, δ' = [some (.scr (ns.map D.int)), some (.int (w : Int)), some (.ref p), some (.ref s), none, none, none, none, none] /\ Iv S' p s 1 w 0) ?_ ?_
 ·simp_all []
  (unfold F.k52_fresh; refine Np.W_fnF rfl ?_; unfold Den.k52_fresh; simp_all [])
  refine qA8 (qAh (by simp) _) λ S1 ps l1 n1 r1 => ?_
  refine qA8 (qAh (by simp) _) λ S2 s l2 n2 r2 => ?_
  have u := qAp P.kp.1
  exact ⟨_, rfl, s, rfl, 0, [], _, [], st, ⟨ss, k, ps, [], [], ⟨(P.mono l1).mono l2, ⟨r2, ⟨l2.lst r1, λ _ h => by cases h⟩, by simp⟩, by omega, λ _ h => by cases h⟩, rfl, rfl, by simp, ⟨by simp, hw, by omega, by simp, λ _ h => by cases h⟩, rfl⟩, rfl⟩
 rintro _ S2 ⟨s, rfl, V2⟩
 refine qA0 (λ δ' S' => S' = S2 /\ δ' = [some (.scr (ns.map D.int)), some (.int (w : Int)), some (.ref p), some (.ref s), some (.int ((0 : Nat) : Int)), none, none, none, none]) ?_ ?_
 ·simp_all []
  exact ⟨_, rfl, trivial, rfl⟩
 rintro _ S' ⟨rfl, rfl⟩
 refine qA0 (λ δ' S' => ∃ a n o5, n <= 10 /\ δ' = [some (.scr (ns.map D.int)), some (.int (w : Int)), some (.ref p), some (.ref s), some (.int ((a : Nat) : Int)), o5, none, none, none] /\ Iv S' p s n w a) ?_ ?_
 ·obtain ⟨f1, f2⟩ := qAm c1 (show (0 : Int) < 6 by decide)
  obtain ⟨b, hb⟩ : ∃ b : Nat, c1.fmod 6 = (b : Int) := ⟨(c1.fmod 6).toNat, by omega⟩
  simp_all [e1, qAc e6, hb, qC2 (show b < 1000000 by omega), qCn]
  refine qJi ((jAg b).map λ i => D.int (i : Nat)) (λ i δ S5 => ∃ o5, δ = [some (.scr (ns.map D.int)), some (.int (w : Int)), some (.ref p), some (.ref s), some (.int ((i : Nat) : Int)), o5, none, none, none] /\ Iv S5 p s (i + 1) w i) (jAy _) ⟨_, rfl, V2⟩ (λ i δ S' _ => rfl) ?_ ?_
  ·rintro i x δ S5 hx ⟨o5, rfl, l, ts, M, xs, st, B, ha⟩
   obtain ⟨rfl, hi⟩ := qB2 hx
   obtain ⟨ci, ei⟩ := qO6 ns (2 + i)
   obtain ⟨m, m0, em⟩ := qD0 (k := (i : Int)) (by omega) (by omega) ci S5
   simp_all [show (2 : Int) + (i : Int) = ((2 + i : Nat) : Int) by omega, ei, em]
   refine (qMc B (by omega) m0 false).mono ?_
   rintro _ S6 ⟨rfl, ts', M', st', _, B6, _⟩
   simp_all [show (i : Int) + 1 = ((i + 1 : Nat) : Int) by omega]
   exact ⟨_, rfl, _, ts', M', _, st', B6, by simp [ha]⟩
  ·rintro δ S5 ⟨o5, rfl, V5⟩
   exact ⟨_, rfl, _, _, o5, by simp; omega, rfl, V5⟩
 rintro _ S5 ⟨a, n, o5, hn, rfl, V5⟩
 refine qA0 (λ δ' S' => ∃ a n, n <= 11 /\ δ' = [some (.scr (ns.map D.int)), some (.int (w : Int)), some (.ref p), some (.ref s), some (.int ((a : Nat) : Int)), o5, none, none, none] /\ Iv S' p s n w a) ?_ ?_
 ·obtain ⟨l, ts, M, xs, st, B, ha⟩ := V5
  have B' := B
  obtain ⟨ss, k, ps, q, r, T, eq, er, hx, O, eM⟩ := B'
  by_cases h : (1 : Int) < ((r.map ptD).length : Int)
  ·have h0 : ts ≠ [] := λ z => by
    rw [<- er] at z
    rw [jBh, List.map_eq_nil_iff.mp z] at h
    simp at h
   simp_all [qA7 T.L.st rfl, qAi T.L.pt.1, h, e1, qAj e6, qAc (show (99 : Int) ≠ 0 by decide)]
   refine (qNo B (by omega) h0).mono ?_
   rintro _ S6 ⟨ts', M', st', _, _, B6, _⟩
   simp_all [show (a : Int) + 1 = ((a + 1 : Nat) : Int) by omega]
   exact ⟨_, rfl, a + 1, n + 1, by omega, rfl, l, ts', M', _, st', B6, by simp [ha]⟩
  ·simp_all [qA7 T.L.st rfl, qAi T.L.pt.1, h]
   exact ⟨_, rfl, a, n, by omega, rfl, l, ts, M, xs, st, B, ha⟩
 rintro _ S6 ⟨a, n, hn, rfl, V6⟩
 refine qA0 (λ δ' S' => ∃ o5 o6 o7 o8, δ' = [some (.scr (ns.map D.int)), some (.int (w : Int)), some (.ref p), some (.ref s), some (.int ((a : Nat) : Int)), o5, o6, o7, o8] /\ Iv S' p s n w a) ?_ ?_
 ·have hb : ∃ b : Nat, b <= 49 /\ ∃ c : Int, qSm [.int 10, .int ((ns.map D.int).length : Int)] S6 = ok (.int c) S6 /\ qSl [.int 49, .int c] S6 = ok (.int (b : Int)) S6 := by
   generalize (ns.map D.int).length = L
   have e1 : qSm [.int 10, .int (L : Int)] S6 = ok (.int (if (L : Int) > 10 then (L : Int) else 10)) S6 := rfl
   have e2 : ∀ c : Int, qSl [.int 49, .int c] S6 = ok (.int (if c < 49 then c else 49)) S6 := λ _ => rfl
   by_cases h1 : (L : Int) > 10
   ·rw [if_pos h1] at e1
    by_cases h2 : (L : Int) < 49
    ·exact ⟨L, by omega, _, e1, by rw [e2, if_pos h2]⟩
    ·exact ⟨49, by omega, _, e1, by rw [e2, if_neg h2]; rfl⟩
   ·rw [if_neg h1] at e1
    exact ⟨10, by omega, _, e1, rfl⟩
  obtain ⟨b, hb1, c, hb2, hb3⟩ := hb
  have hrng : qHt [.int 9, .int (b : Int)] S6 = ok (.fix ((jDk 9 (b - 9)).map λ i => D.int (i : Nat))) S6 := qK7 (p := 9) (by decide) (by omega) S6
  unfold forS
  rw [W_bnd]
  refine W.intro (a := Src.fix ((jDk 9 (b - 9)).map λ i => D.int (i : Nat))) (S := S6) ?_ ?_
  ·unfold itA
   refine Eq.trans ?_ hrng
   simp only [zZ, aConsK, aNil, consK, fnE, cst, vr, jC0, jCg, bnd_ok, lenD_scr, hb2, hb3]
  refine qJi _ (λ i δ S7 => ∃ o5 o6 o7 o8, δ = [some (.scr (ns.map D.int)), some (.int (w : Int)), some (.ref p), some (.ref s), some (.int ((a : Nat) : Int)), o5, o6, o7, o8] /\ Iv S7 p s n w a) (jAy _) ⟨_, _, _, _, rfl, V6⟩ (λ i δ S' _ => rfl) ?_ ?_
  ·rintro i x δ S7 hx ⟨o5, o6, o7, o8, rfl, V7⟩
   obtain ⟨rfl, hi⟩ := qTe hx
   obtain ⟨ci, ei⟩ := qO6 ns (9 + i)
   obtain ⟨m, m0, em⟩ := qD0 (k := ((9 + i : Nat) : Int)) (by omega) (by omega) ci S7
   refine W.intro (a := [some (.scr (ns.map D.int)), some (.int (w : Int)), some (.ref p), some (.ref s), some (.int ((a : Nat) : Int)), some (.int ((9 + i : Nat) : Int)), o6, o7, o8]) (S := S7) rfl ?_
   refine qA0 (λ δ' S' => Iv S' p s n w a /\ ∃ t deed j cl, δ' = [some (.scr (ns.map D.int)), some (.int (w : Int)), some (.ref p), some (.ref s), some (.int ((a : Nat) : Int)), some (.int ((9 + i : Nat) : Int)), some (.str deed), some (.ref t), some (.int j)] /\ Er (X._law_done [.ref p, .str deed, .ref t] S') cl S' /\ Due cl j) ?_ ?_
   ·obtain ⟨l, ts, M, xs, st, B, rfl⟩ := V7
    simp_all [ei, em]
    refine (qSa B (by omega)).mono ?_
    rintro _ S8 ⟨l8, c, t, deed, j, cl, rfl, r8, h1, h2⟩
    simp_all [qXz r8]
    exact ⟨_, rfl, ⟨l, ts, M, xs, st, B.mono l8, rfl⟩, t, deed, j, cl, rfl, h1, h2⟩
   rintro _ S8 ⟨V8, t, deed, j, cl, rfl, h1, h2⟩
   simp_all []
   refine (qHu h1 h2).mono ?_
   rintro _ S9 ⟨rfl, l9⟩
   obtain ⟨l, ts, M, xs, st, B, ha⟩ := V8.mono l9
   simp_all []
   refine (qIp B.bo (by omega)).mono ?_
   rintro _ S10 ⟨rfl, l10⟩
   have B10 := B.mono l10
   have B' := B10
   obtain ⟨ss, k, ps, q, r, T, eq, er, hx, O, eM⟩ := B'
   simp_all [qAg, T.P.meth (m := "mark") rfl, qCe, qH3 T.P, ha]
   refine (qF7 _ S10).mono ?_
   rintro _ S11 ⟨rfl, l11⟩
   simp_all []
   exact ⟨_, _, _, _, rfl, l, ts, M, xs, st, B10.mono l11, ha⟩
  ·rintro δ S7 ⟨o5, o6, o7, o8, rfl, V7⟩
   exact ⟨_, rfl, o5, o6, o7, o8, rfl, V7⟩
 rintro _ S7 ⟨o5, o6, o7, o8, rfl, V7⟩
 refine qA0 (λ δ' S' => δ' = [some (.scr (ns.map D.int)), some (.int (w : Int)), some (.ref p), some (.ref s), some (.int ((a : Nat) : Int)), o5, o6, o7, o8] /\ Iv S' p s (n + 1) w (a + 1)) ?_ ?_
 ·obtain ⟨l, ts, M, xs, st, B, ha⟩ := V7
  obtain ⟨m, m0, em⟩ := qD0 (k := 7) (by omega) (by omega) 7 S7
  simp_all [em]
  refine (qMc B (by omega) m0 false).mono ?_
  rintro _ S8 ⟨rfl, ts', M', st', _, B8, _⟩
  simp_all []
  exact ⟨_, rfl, rfl, _, ts', M', _, st', B8, by simp [ha]⟩
 rintro _ S8 ⟨rfl, l, ts, M, xs, st, B, ha⟩
 have B' := B
 obtain ⟨ss, k, ps, q, r, T, eq, er, hx, O, eM⟩ := B'
 have lq : q.length = ts.length := by rw [<- eq]; simp
 have lr : r.length = ts.length := by rw [<- er]; simp
 have ol := O.len
 by_cases h12 : (w : Int) < 12
 ·simp_all [h12, qAg, T.P.meth (m := "widen") rfl, qA7 T.L.st rfl, qAi T.L.pt.1, jBh]
  refine (qD8 _ (show r.length < 900 by omega) S8).mono ?_
  rintro _ S9 ⟨c2, row2, rfl, hc2, l2, rc2, hl2, hx2⟩
  have T9 := T.mono l2
  simp_all [qCe]
  refine (qP5 T9.P rc2 (by omega) (by omega) (λ x hx => ?_) (by omega) (by omega)).mono ?_
  ·have := (O.each x.1 (by rw [<- eq]; exact jCe.mpr ⟨x, hx, rfl⟩)).2.1
   omega
  rintro _ S10 ⟨st', k', q', _, P', _⟩
  simp_all [qAg, P'.meth (m := "width") rfl, qCe, qIk P', show (w : Int) + 1 = ((w + 1 : Nat) : Int) by omega]
  refine (qF7 _ S10).mono ?_
  rintro _ S11 ⟨rfl, l11⟩
  have P11 := P'.mono l11
  simp_all [qAg, P11.meth (m := "mark") rfl, qCe, qH3 P11, show (a : Int) + 2 = ((xs ++ [D.ref st]).length : Int) by simp; omega]
  refine (qF7 _ S11).mono ?_
  rintro _ S12 ⟨rfl, l12⟩
  simp_all []
 ·simp_all [h12]
  refine (qIp B.bo (by omega)).mono ?_
  rintro _ S10 ⟨rfl, l10⟩
  simp_all []
end Nm
end
section
namespace Tm
open PySem PySem.Spec PyProof.Rows L2 Np
def top (i : Nat) : Stmt := PySem.Challenge.pw_nearplane_k56_refused_changes_nothing.main.body.getD i (.Pass ⟨0, 0, 0, 0⟩)
def mt (i j : Nat) : Stmt := match top i with
 | .ClassDef _ _ _ b _ _ _ _ _ _ _ => b.getD j (.Pass ⟨0, 0, 0, 0⟩)
 | _ => .Pass ⟨0, 0, 0, 0⟩
theorem qV6 : bootBuiltins "abs" = some (.builtin "abs") := by decide +kernel
theorem qV5 : bootBuiltins "all" = some (.builtin "all") := by decide +kernel
theorem qR9 : bootBuiltins "bool" = some (.type "bool") := by decide +kernel
theorem qM2 : bootBuiltins "divmod" = some (.builtin "divmod") := by decide +kernel
theorem qV4 : bootBuiltins "int" = some (.type "int") := by decide +kernel
theorem qBh : bootBuiltins "isinstance" = some (.builtin "isinstance") := by decide +kernel
theorem qV3 : bootBuiltins "len" = some (.builtin "len") := by decide +kernel
theorem qM1 : bootBuiltins "list" = some (.type "list") := by decide +kernel
theorem qV2 : bootBuiltins "max" = some (.builtin "max") := by decide +kernel
theorem qV1 : bootBuiltins "min" = some (.builtin "min") := by decide +kernel
theorem qJg : bootBuiltins "tuple" = some (.type "tuple") := by decide +kernel
set_option hygiene false
local macro_rules
  | `(tactic| symm_saturate) => `(tactic| first
    | (with_reducible show PDE _ _ _ (op2 ixD _ _)); refine qXg qZe zR ?_ ?_ (λ _ _ => rfl)
    | (with_reducible show PDE _ _ _ (op2 qCb _ _)); refine qJz qRq qU8 ?_ ?_
    | (with_reducible show PDE _ _ _ (op2 qCd _ _)); refine qJz qRp qU3 ?_ ?_
    | (with_reducible show PDE _ _ _ (op2 qBz _ _)); refine qJz (qOh hr ht rfl rfl rfl) qRs ?_ ?_
    | (with_reducible show PDE _ _ _ (op2 qGj _ _)); refine qJz qUs qU0 ?_ ?_
    | (with_reducible show PDE _ _ _ (op2 qGx _ _)); refine qJz qRn qU2 ?_ ?_
    | (with_reducible show PDE _ _ _ (op2 qGs _ _)); refine qJz qUu qU1 ?_ ?_
    | (with_reducible show PDE _ _ _ (op2 eqD _ _)); refine qLv (qPs hr) qU7 ?_ ?_ (zW _)
    | (with_reducible show PDE _ _ _ (op2 geD _ _)); refine qLv qXs qXw ?_ ?_ (zW _)
    | (with_reducible show PDE _ _ _ (op2 ltD _ _)); refine qLv qUw qU4 ?_ ?_ (zW _))
local macro_rules
  | `(tactic| false_or_by_contra) => `(tactic| first
    | (with_reducible show PDE _ _ _ (fnE qA5 _)); refine qUf ?_
    | (with_reducible show PDE _ _ _ (fnE qBp _)); refine qT8 ?_
    | (with_reducible show PDE _ _ _ (fnE qDq _)); refine zX qMx qVw rfl m_len qV3 ?_
    | (with_reducible show PDE _ _ _ (fnE qNg _)); refine zX (qHg hr ht rfl rfl rfl) qVx rfl m_divmod qM2 ?_
    | (with_reducible show PDE _ _ _ (fnE qOt _)); refine qGu qHd qVv rfl m_list qM1 ?_
    | (with_reducible show PDE _ _ _ (fnE qSt _)); refine zX qO9 qVz rfl m_abs qV6 ?_
    | (with_reducible show PDE _ _ _ (fnE qSs _)); refine zX (qM0 rfl) qVy rfl m_all qV5 ?_
    | (with_reducible show PDE _ _ _ (fnE qS2 _)); refine qGu qF3 qVs rfl m_tuple qJg ?_
    | (with_reducible show PDE _ _ _ (fnE qSm _)); refine zX (qMw rfl) qVu rfl m_max qV2 ?_
    | (with_reducible show PDE _ _ _ (fnE qSl _)); refine zX (qMv rfl) qVt rfl m_min qV1 ?_
    | (with_reducible show PDE _ _ _ (fnE _ _)); refine qXm (by assumption) hr rfl zQ ?_)
local macro_rules
  | `(tactic| subst_vars) => `(tactic| first
    | (with_reducible show PDE _ _ _ (op1 (qAt _ _) _)); refine qXl (by assumption) ?_
    | (with_reducible show PDE _ _ _ (op1 qDd _)); refine qXc qSw qSx ?_
    | (with_reducible show PDE _ _ _ (op1 (qCh .tup) _)); refine qIy (hv := qBh) .tup qJg rfl m_isinstance rfl m_tuple ?_
    | (with_reducible show PDE _ _ _ (op1 (qCh .lst) _)); refine qIy (hv := qBh) .lst qM1 rfl m_isinstance rfl m_list ?_
    | (with_reducible show PDE _ _ _ (op1 (qG5 _ _) _)); refine qQ9 rfl m_isinstance rfl (by assumption) (jD1.mpr ⟨by assumption, (jD2 _) ⟩) (jD1.mpr ⟨by assumption, (jD1.mpr ⟨by assumption, (jD2 _) ⟩) ⟩) ?_
    | (with_reducible show PDE _ _ _ (op1 (qCh .int) _)); refine qIy (hv := qBh) .int qV4 rfl m_isinstance rfl m_int ?_
    | (with_reducible show PDE _ _ _ (op1 (qCh .bool) _)); refine qIy (hv := qBh) .bool qR9 rfl m_isinstance rfl m_bool ?_
    | (with_reducible show PDE _ _ _ (op1 (qSp _) _)); refine qRa rfl m_isinstance rfl m_ValueError (jD1.mpr ⟨by assumption, (jD1.mpr ⟨by assumption, (jD1.mpr ⟨by assumption, (jD2 _) ⟩) ⟩) ⟩) ?_
    | (with_reducible show PDE _ _ _ (op1 (qMe _) _)); refine qRb rfl m_isinstance rfl rfl rfl rfl rfl rfl (by assumption) ?_)
local macro_rules
  | `(tactic| subst_eqs) => `(tactic| first
    | (with_reducible show PDS _ _ _ (retS _)); refine zO ?_
    | (with_reducible show PDS _ _ _ (ifS _ _ _)); refine qXh ?_ ?_ ?_
    | (with_reducible show PDS _ _ _ (dropS _)); refine qRg ?_
    | (with_reducible show PDS _ _ _ (qA4 _)); refine qQ7 ?_
    | (with_reducible show PDS _ _ _ (asgS _ _)); refine qUo ?_ ?_
    | (with_reducible show PDS _ _ _ (qDv _ _ _ _)); refine qXi (by assumption) ?_ ?_
    | exact qOc
    | (with_reducible show PDS _ _ _ (qAy _)); exact qLs qQm rfl (by assumption)
    | (with_reducible show PDS _ _ _ (setS _ (qA1 _ _ _ _))); refine qXe rfl ?_ (λ nd _ _ _ _ _ => ?_) (λ _ _ _ _ _ => ?_) nd
    | (with_reducible show PDS _ _ _ (forS _ _ _)); refine qUh PassesOwn.never rfl ?_ ?_ ?_
    | (with_reducible show PDS _ _ _ (setS _ (qDw _ _ _ _ _))); refine qXd rfl ?_ (λ nd _ _ _ _ _ => ?_) (λ _ _ _ _ _ => ?_) (λ _ _ _ _ _ => ?_) nd
    | (with_reducible show PDS _ _ _ (qCy _ _)); refine qN8 PassesOwn.never ?_ ?_
    | (with_reducible show PDS _ _ _ (parS _ _ _ _)); refine qUa _ _ rfl nd ?_ ?_
    | (with_reducible show PDS _ _ _ (qWh _ _ _ _ _)); refine qQ4 5 (by assumption) hr rfl nd rfl (jD1.mpr ⟨by assumption, (jD1.mpr ⟨by assumption, (jD1.mpr ⟨by assumption, (jD2 _) ⟩) ⟩) ⟩) ?_ (λ ea => ?_)
    | (with_reducible show PDS _ _ _ (setS _ _)); refine pd_set _ nd ?_)
local macro_rules
  | `(tactic| ac_nf) => `(tactic| first
    | (with_reducible show PDT _ _ (.BoolOp _ _ _) _); refine qXb ?_
    | (with_reducible show PDT _ _ _ (tv (op2 eqD _ _))); refine zV (qPs hr) qU7 ?_ ?_ (zW _)
    | (with_reducible show PDT _ _ _ (notT _)); refine qUd ?_
    | (with_reducible show PDT _ _ _ (tv (op2 neD _ _))); refine zV (qUv hr) qXu ?_ ?_ (zW _)
    | (with_reducible show PDT _ _ _ (tv (op2 gtD _ _))); refine zV qXr qXv ?_ ?_ (zW _)
    | (with_reducible show PDT _ _ _ (tv (op2 qOx _ _))); refine zV qUx qU5 ?_ ?_ (zW _)
    | (with_reducible show PDT _ _ _ (tv (op2 qCc _ _))); refine zV (qLz hr) qOi ?_ ?_ rfl
    | (with_reducible show PDT _ _ _ (tv (chn _ _ _ _ _))); refine qLe qOg qOj qOg qOj ?_ ?_ ?_
    | (with_reducible show PDT _ _ _ (tv (op2 ltD _ _))); refine zV qUw qU4 ?_ ?_ (zW _)
    | (with_reducible show PDT _ _ _ (tv _)); refine qQo ?_)
local macro_rules
  | `(tactic| and_intros) => `(tactic| first
    | (with_reducible show PDE _ _ (.BoolOp _ [_] _) _); refine qQ6 ?_
    | (with_reducible show PDE _ _ (.Name _ _) (cst _)); exact qZb rfl (by assumption)
    | (with_reducible show PDE _ _ _ (vr _)); exact zA _
    | (with_reducible show PDE _ _ _ (op2 _ _ _)); symm_saturate
    | (with_reducible show PDE _ _ _ (fnE _ _)); false_or_by_contra
    | (with_reducible show PDE _ _ _ (op1 _ _)); subst_vars
    | exact zF
    | exact qT9
    | exact qXo
    | (with_reducible show PDE _ _ _ (mkE _ _ _)); refine qUj (by assumption) hr rfl zQ ?_
    | (with_reducible show PDE _ _ _ (opM qFg _ _)); refine qLw ?_ ?_
    | (with_reducible show PDE _ _ _ (andV _ _)); refine qRj ?_ ?_
    | exact qUe
    | (with_reducible show PDE _ _ _ (qAg _ _ _ _ aNil)); refine qUm (by assumption) hr zQ ?_
    | (with_reducible show PDE _ _ _ (qA1 _ _ _ _)); refine qXn rfl ?_ (λ nd _ _ _ _ _ => ?_) (λ _ _ _ _ _ => ?_)
    | (with_reducible show PDE _ _ _ (slE _ _ _)); refine qN9 ?_ ?_ ?_
    | exact qRh
    | (with_reducible show PDE _ _ _ (qAg _ _ _ _ (zZ _ _))); refine qUk (by assumption) hr qRl ?_ ?_
    | (with_reducible show PDE _ _ _ (notV _)); refine qQ8 ?_
    | (with_reducible show PDE _ _ _ (ifE _ _ _)); refine qUg ?_ ?_ ?_
    | (with_reducible show PDE _ _ _ (chn _ _ _ _ _)); refine qOe qOg qOj qOg qOj ?_ ?_ ?_
    | (with_reducible show PDE _ _ _ (qAg _ _ (fnD _ _) _ _)); refine qUl (by assumption) hr zQ ?_ ?_
    | (with_reducible show PDE _ _ _ (opM qDo _ _)); refine qOb ?_ ?_
    | (with_reducible show PDE _ _ _ (orA _ _)); refine qUb ?_ ?_
    | (with_reducible show PDE _ _ _ (qAg _ _ _ _ aNil)); refine qRf (by assumption) hr qRl ?_
    | (with_reducible show PDE _ _ _ (mkE _ _ _)); refine qUi (by assumption) hr rfl qRl ?_
    | (with_reducible show PDE _ _ _ (qAg _ _ _ _ (zZ _ _))); refine qXk (by assumption) hr zQ ?_ ?_)
local macro_rules
  | `(tactic| ac_rfl) => `(tactic| (first
    | (with_reducible show PDE _ _ _ _); and_intros
    | (with_reducible show PDA _ _ _ (zZ _ _)); refine zB ?_ ?_
    | exact zE
    | (with_reducible show PDT _ _ _ _); ac_nf
    | (with_reducible show PDS _ _ _ _); subst_eqs
    | refine zD ?_ ?_
    | refine zJ ?_
    | exact qQz
    | (with_reducible show PDW _ _ (.BoolOp .Or [_] _) _); refine qUc ?_
    | (with_reducible show PDW _ _ (.BoolOp .And [_] _) _); refine qRk ?_
    | (with_reducible show PDG _ _ _ (setG _)); exact zL _ nd
    | (with_reducible show qNi _ _ _ (_ :: _)); refine zU ?_ ?_
    | (with_reducible show PDW _ _ _ (orT _ _)); refine qXf ?_ ?_
    | exact qN7
    | (with_reducible show PDG _ _ _ (qHo _)); refine qQ1 rfl ?_
    | (with_reducible show PDI _ _ _ _ (itE itL _)); refine qN6 ?_
    | exact qT6
    | (with_reducible show PDO _ _ _ (atP _)); refine qT7 ?_
    | (with_reducible show PDW _ _ _ (andT _ _)); refine qUp ?_ ?_
    | (with_reducible show PDI _ _ _ _ (itA qEa _)); refine qJx rfl m_range ?_
    | (with_reducible show PDG _ _ _ (qGl _ _)); refine qQ2 ?_ ?_
    | (with_reducible show PDI _ _ _ _ (itA qGd _)); refine qQ0 rfl m_zip ?_ ?_
    | (with_reducible show PDI _ _ _ _ (itA qJl _)); refine qN5 rfl m_zip ?_ ?_
    | (with_reducible show PDI _ _ _ _ (itA qHt _)); refine qJw rfl m_range ?_ ?_
    | (with_reducible show PDG _ _ _ (qSn _)); refine qQ3 rfl ?_) <;> ac_rfl)
set_option hygiene true
section
variable {P : Program} {w : World} {K : PySem.W.Frag} {mg : Str -> Option Value} {base : Heap}
variable (ht : P.given.tree = none)
  (f0 : Ff K mg "Plane" "states")
  (f1 : Ff K mg "State" "kept")
  (f2 : Ff K mg "State" "laid")
  (f3 : Ff K mg "State" "wide")
  (m_ValueError : mg "ValueError" = none)
  (m_abs : mg "abs" = none)
  (m_all : mg "all" = none)
  (m_bool : mg "bool" = none)
  (m_divmod : mg "divmod" = none)
  (m_int : mg "int" = none)
  (m_isinstance : mg "isinstance" = none)
  (m_len : mg "len" = none)
  (m_list : mg "list" = none)
  (m_max : mg "max" = none)
  (m_min : mg "min" = none)
  (m_range : mg "range" = none)
  (m_tuple : mg "tuple" = none)
  (m_zip : mg "zip" = none)
  (a0 : qKf K mg "MOST_COLUMNS" (.int 12))
  (a1 : qKf K mg "NOUGHT" (.tup [(.int 0), (.int 1)]))
  (a2 : qKf K mg "ONE" (.tup [(.int 1), (.int 1)]))
  (eNoColumn : Fxc K mg "NoColumn")
  (eNoMark : Fxc K mg "NoMark")
  (eNoPoint : Fxc K mg "NoPoint")
  (q0 : Ky K mg "NoMark" "NoMark")
  (q1 : Kn K mg "NoColumn" "NoMark")
  (q2 : Kn K mg "NoPoint" "NoMark")
  (q3 : Kc mg "NoMark" "NoMark")
  (q4 : Ky K mg "NoColumn" "NoColumn")
  (q5 : Kn K mg "NoMark" "NoColumn")
  (q6 : Kn K mg "NoPoint" "NoColumn")
  (q7 : Kc mg "NoColumn" "NoColumn")
  (q8 : Ky K mg "NoPoint" "NoPoint")
  (q9 : Kn K mg "NoColumn" "NoPoint")
  (q10 : Kn K mg "NoMark" "NoPoint")
  (q11 : Kc mg "NoPoint" "NoPoint")
  (q12 : Kv K mg "NoColumn" "ValueError")
  (q13 : Kv K mg "NoMark" "ValueError")
  (q14 : Kv K mg "NoPoint" "ValueError")
  (q15 : Kt K mg ["NoColumn", "NoMark", "NoPoint"] ["NoDeed", "NoInverse", "NoLine", "NoName", "NoRatio", "NotSure"])
  (q16 : Xm K mg "NoColumn" "PlaneError")
  (q17 : Xm K mg "NoMark" "PlaneError")
  (q18 : Xm K mg "NoPoint" "PlaneError")
  (h0 : Fk P w K mg base 1 "is_whole" F.k02_whole)
  (h1 : Fk P w K mg base 1 "greatest_common" F.greatest_common)
  (h2 : Fk P w K mg base 2 "is_ratio" F.is_ratio)
  (h3 : Fk P w K mg base 1 "less" F.less)
  (h4 : Fk P w K mg base 3 "is_row" F.is_row)
  (h5 : Fk P w K mg base 2 "is_wide" F.is_wide)
  (h6 : Fk P w K mg base 3 "is_weight" F.is_weight)
  (h7 : Fk P w K mg base 4 "is_point" F.is_point)
  (h8 : Fn P w K mg base 1 "State" F.State___init__)
  (L9 : Fnx P w K mg base 3 "Plane" X.Plane___init__)
  (h9 : Fn P w K mg base 3 "Plane" F.Plane___init__)
  (L10 : Fmx P w K mg base 5 "Plane" "lay" X.Plane_lay)
  (B10 : Fme P w K mg base 5 "Plane" "lay" [] F.Plane_lay)
  (D10 : Fme P w K mg base 5 "Plane" "lay" [.none] F.Plane_lay)
  (L11 : Fmx P w K mg base 3 "Plane" "take" X.Plane_take)
  (h11 : Fme P w K mg base 3 "Plane" "take" [] F.Plane_take)
  (h12 : Fk P w K mg base 1 "with_row" F.with_row)
  (L13 : Fmx P w K mg base 4 "Plane" "widen" X.Plane_widen)
  (h13 : Fme P w K mg base 4 "Plane" "widen" [] F.Plane_widen)
  (L14 : Fmx P w K mg base 3 "Plane" "narrow" X.Plane_narrow)
  (h14 : Fme P w K mg base 3 "Plane" "narrow" [] F.Plane_narrow)
  (h15 : Fme P w K mg base 2 "Plane" "points" [] F.Plane_points)
  (h16 : Fme P w K mg base 1 "Plane" "width" [] F.Plane_width)
  (h17 : Fme P w K mg base 1 "Plane" "mark" [] F.Plane_mark)
  (L18 : Fmx P w K mg base 2 "Plane" "back" X.Plane_back)
  (h18 : Fme P w K mg base 2 "Plane" "back" [] F.Plane_back)
  (h19 : Fk P w K mg base 1 "_law_cell" F.k11_cell_at)
  (h20 : Fk P w K mg base 1 "_law_mixed" F.k52_mixed)
  (h21 : Fk P w K mg base 1 "_law_lowest" F.k52_lowest)
  (h22 : Fk P w K mg base 2 "_law_plus" F.k52_plus)
  (h23 : Fk P w K mg base 2 "_law_ratio" F.k52_ratio)
  (h24 : Fk P w K mg base 3 "_law_row" F.k52_row)
  (h25 : Fk P w K mg base 4 "_law_point" F.k52_point)
  (h26 : Fk P w K mg base 1 "_law_fresh" F.k52_fresh)
  (h27 : Fk P w K mg base 8 "_law_alike" (F.k52_alike 7))
  (h28 : Fk P w K mg base 9 "_law_stands" F.k52_stands)
  (h29 : Fk P w K mg base 9 "_law_laid" F.k52_laid)
  (h30 : Fk P w K mg base 4 "_law_taken" F.k52_taken)
  (h31 : Fk P w K mg base 1 "_law_kinds" F.k56_kinds)
  (L32 : Fkx P w K mg base 6 "_law_done" X._law_done)
  (h32 : Fk P w K mg base 6 "_law_done" F.k56_done)
  (h33 : Fk P w K mg base 7 "_law_refused" F.k56_refused)
  (h34 : Fk P w K mg base 1 "_law_odd" F.k56_odd)
  (h35 : Fk P w K mg base 4 "_law_odd_row" F.k56_odd_row)
  (h36 : Fk P w K mg base 5 "_law_bad" F.k56_bad)
include m_bool m_int m_isinstance in
theorem t0 : Bo P w K mg base "is_whole" (top 15) ["thing"] 0 Den.k02_whole := λ _ _ _ _ _ _ hr nd => by delta Den.k02_whole; ac_rfl
theorem t1 : Bo P w K mg base "greatest_common" (top 17) ["one", "other", "larger", "smaller", "rest"] 0 Den.greatest_common := λ _ _ _ _ _ _ hr nd => by delta Den.greatest_common; ac_rfl
include m_abs m_isinstance m_len m_tuple h0 h1 in
theorem t2 : Bo P w K mg base "is_ratio" (top 16) ["thing"] 1 Den.is_ratio := λ _ _ _ _ _ _ hr nd => by delta Den.is_ratio; ac_rfl
theorem t3 : Bo P w K mg base "less" (top 18) ["one", "other"] 0 Den.less := λ _ _ _ _ _ _ hr nd => by delta Den.less; ac_rfl
include m_all m_isinstance m_len m_list h2 in
theorem t4 : Bo P w K mg base "is_row" (top 20) ["thing", "long"] 2 Den.is_row := λ _ _ _ _ _ _ hr nd => by delta Den.is_row; ac_rfl
include a0 h0 in
theorem t5 : Bo P w K mg base "is_wide" (top 23) ["thing"] 1 Den.is_wide := λ _ _ _ _ _ _ hr nd => by delta Den.is_wide; ac_rfl
include a1 h2 h3 in
theorem t6 : Bo P w K mg base "is_weight" (top 25) ["thing"] 2 Den.is_weight := λ _ _ _ _ _ _ hr nd => by delta Den.is_weight; ac_rfl
include m_isinstance m_len m_tuple h2 h4 h6 in
theorem t7 : Bo P w K mg base "is_point" (top 24) ["thing", "wide"] 3 Den.is_point := λ _ _ _ _ _ _ hr nd => by delta Den.is_point; ac_rfl
include f1 f2 f3 in
theorem t8 : Bo P w K mg base "State.__init__" (mt 27 0) ["self", "wide", "laid", "kept"] 0 Den.State___init__ := λ _ _ _ _ _ _ hr nd => by delta Den.State___init__; ac_rfl
include f0 eNoColumn h5 h8 in
theorem x9 : BoX P w K mg base "Plane.__init__" (mt 28 0) ["self", "wide"] 2 DenX.Plane___init__ := λ _ _ _ _ _ _ _ hr nd => by delta DenX.Plane___init__; ac_rfl
include f0 h5 h8 in
theorem t9 : Bo P w K mg base "Plane.__init__" (mt 28 0) ["self", "wide"] 2 Den.Plane___init__ := λ _ _ _ _ _ _ hr nd => by delta Den.Plane___init__; ac_rfl
include f0 f1 f2 f3 m_list a2 eNoPoint h7 h8 in
theorem x10 : BoX P w K mg base "Plane.lay" (mt 28 1) ["self", "row", "want", "weight", "state", "number", "heavy", "point"] 4 DenX.Plane_lay := λ _ _ _ _ _ _ _ hr nd => by delta DenX.Plane_lay; ac_rfl
include f0 f1 f2 f3 m_list a2 h7 h8 in
theorem t10 : Bo P w K mg base "Plane.lay" (mt 28 1) ["self", "row", "want", "weight", "state", "number", "heavy", "point"] 4 Den.Plane_lay := λ _ _ _ _ _ _ hr nd => by delta Den.Plane_lay; ac_rfl
include f0 f1 f2 f3 eNoPoint h0 h8 in
theorem x11 : BoX P w K mg base "Plane.take" (mt 28 2) ["self", "number", "state", "kept"] 2 DenX.Plane_take := λ _ _ _ _ _ _ _ hr nd => by delta DenX.Plane_take; ac_rfl
include f0 f1 f2 f3 h0 h8 in
theorem t11 : Bo P w K mg base "Plane.take" (mt 28 2) ["self", "number", "state", "kept"] 2 Den.Plane_take := λ _ _ _ _ _ _ hr nd => by delta Den.Plane_take; ac_rfl
theorem t12 : Bo P w K mg base "with_row" (top 29) ["point", "row"] 0 Den.with_row := λ _ _ _ _ _ _ hr nd => by delta Den.with_row; ac_rfl
include f0 f1 f2 f3 m_len m_zip eNoColumn h4 h5 h8 h12 in
theorem x13 : BoX P w K mg base "Plane.widen" (mt 28 3) ["self", "column", "state", "kept"] 3 DenX.Plane_widen := λ _ _ _ _ _ _ _ hr nd => by delta DenX.Plane_widen; ac_rfl
include f0 f1 f2 f3 m_len m_zip h4 h5 h8 h12 in
theorem t13 : Bo P w K mg base "Plane.widen" (mt 28 3) ["self", "column", "state", "kept"] 3 Den.Plane_widen := λ _ _ _ _ _ _ hr nd => by delta Den.Plane_widen; ac_rfl
include f0 f1 f2 f3 eNoColumn h8 h12 in
theorem x14 : BoX P w K mg base "Plane.narrow" (mt 28 4) ["self", "state", "kept"] 2 DenX.Plane_narrow := λ _ _ _ _ _ _ _ hr nd => by delta DenX.Plane_narrow; ac_rfl
include f0 f1 f2 f3 h8 h12 in
theorem t14 : Bo P w K mg base "Plane.narrow" (mt 28 4) ["self", "state", "kept"] 2 Den.Plane_narrow := λ _ _ _ _ _ _ hr nd => by delta Den.Plane_narrow; ac_rfl
include f0 f1 m_list h12 in
theorem t15 : Bo P w K mg base "Plane.points" (mt 28 5) ["self"] 1 Den.Plane_points := λ _ _ _ _ _ _ hr nd => by delta Den.Plane_points; ac_rfl
include f0 f3 in
theorem t16 : Bo P w K mg base "Plane.width" (mt 28 6) ["self"] 0 Den.Plane_width := λ _ _ _ _ _ _ hr nd => by delta Den.Plane_width; ac_rfl
include f0 m_len in
theorem t17 : Bo P w K mg base "Plane.mark" (mt 28 13) ["self"] 0 Den.Plane_mark := λ _ _ _ _ _ _ hr nd => by delta Den.Plane_mark; ac_rfl
include f0 eNoMark h0 h17 in
theorem x18 : BoX P w K mg base "Plane.back" (mt 28 14) ["self", "mark"] 1 DenX.Plane_back := λ _ _ _ _ _ _ _ hr nd => by delta DenX.Plane_back; ac_rfl
include f0 h0 h17 in
theorem t18 : Bo P w K mg base "Plane.back" (mt 28 14) ["self", "mark"] 1 Den.Plane_back := λ _ _ _ _ _ _ hr nd => by delta Den.Plane_back; ac_rfl
include m_len in
theorem t19 : Bo P w K mg base "_law_cell" (top 31) ["_law_script", "_law_k"] 0 Den.k11_cell_at := λ _ _ _ _ _ _ hr nd => by delta Den.k11_cell_at; ac_rfl
include m_range in
theorem t20 : Bo P w K mg base "_law_mixed" (top 32) ["_law_cell_here", "_law_k", "_law_number", "_law_found", "_law_turn"] 0 Den.k52_mixed := λ _ _ _ _ _ _ hr nd => by delta Den.k52_mixed; ac_rfl
include ht m_abs in
theorem t21 : Bo P w K mg base "_law_lowest" (top 33) ["_law_top", "_law_bottom", "_law_one", "_law_other"] 0 Den.k52_lowest := λ _ _ _ _ _ _ hr nd => by delta Den.k52_lowest; ac_rfl
include h21 in
theorem t22 : Bo P w K mg base "_law_plus" (top 34) ["_law_one", "_law_other"] 1 Den.k52_plus := λ _ _ _ _ _ _ hr nd => by delta Den.k52_plus; ac_rfl
include ht m_divmod h21 in
theorem t23 : Bo P w K mg base "_law_ratio" (top 35) ["_law_number", "_law_far", "_law_kind"] 1 Den.k52_ratio := λ _ _ _ _ _ _ hr nd => by delta Den.k52_ratio; ac_rfl
include m_range h20 h23 in
theorem t24 : Bo P w K mg base "_law_row" (top 36) ["_law_number", "_law_wide", "_law_row_here", "_law_k"] 2 Den.k52_row := λ _ _ _ _ _ _ hr nd => by delta Den.k52_row; ac_rfl
include ht m_divmod h22 h23 h24 in
theorem t25 : Bo P w K mg base "_law_point" (top 37) ["_law_number", "_law_wide", "_law_lean", "_law_want", "_law_weight", "_law_row_here"] 3 Den.k52_point := λ _ _ _ _ _ _ hr nd => by delta Den.k52_point; ac_rfl
theorem t26 : Bo P w K mg base "_law_fresh" (top 38) ["_law_wide"] 0 Den.k52_fresh := λ _ _ _ _ _ _ hr nd => by delta Den.k52_fresh; ac_rfl
include m_all m_bool m_int m_isinstance m_len m_list m_tuple m_zip in
theorem t27 {n : Nat} (ih : Fk P w K mg base (n + 1) "_law_alike" (F.k52_alike n)) : Bo P w K mg base "_law_alike" (top 39) ["_law_found", "_law_due"] (n + 1) (Den.k52_alike (F.k52_alike n)) := λ _ _ _ _ _ _ hr nd => by delta Den.k52_alike; ac_rfl
include h15 h16 h27 in
theorem t28 : Bo P w K mg base "_law_stands" (top 40) ["_law_plane", "_law_state"] 8 Den.k52_stands := λ _ _ _ _ _ _ hr nd => by delta Den.k52_stands; ac_rfl
include ht m_len m_list B10 D10 h25 h27 in
theorem t29 : Bo P w K mg base "_law_laid" (top 41) ["_law_plane", "_law_state", "_law_number", "_law_lean", "_law_row_here", "_law_want", "_law_weight", "_law_handed", "_law_told"] 8 Den.k52_laid := λ _ _ _ _ _ _ hr nd => by delta Den.k52_laid; ac_rfl
include m_len h11 in
theorem t30 : Bo P w K mg base "_law_taken" (top 42) ["_law_plane", "_law_state", "_law_number", "_law_at"] 3 Den.k52_taken := λ _ _ _ _ _ _ hr nd => by delta Den.k52_taken; ac_rfl
include m_ValueError m_isinstance q0 q1 q2 q3 q4 q5 q6 q7 q8 q9 q10 q11 q12 q13 q14 q15 in
theorem t31 : Bo P w K mg base "_law_kinds" (top 43) ["_law_caught", "_law_found"] 0 Den.k56_kinds := λ _ _ _ _ _ _ hr nd => by delta Den.k56_kinds; ac_rfl
include L9 L10 L11 L13 L14 L18 in
theorem x32 : BoX P w K mg base "_law_done" (top 44) ["_law_plane", "_law_deed", "_law_things"] 5 DenX._law_done := λ _ _ _ _ _ _ _ hr nd => by delta DenX._law_done; ac_rfl
include h9 B10 h11 h13 h14 h18 in
theorem t32 : Bo P w K mg base "_law_done" (top 44) ["_law_plane", "_law_deed", "_law_things"] 5 Den.k56_done := λ _ _ _ _ _ _ hr nd => by delta Den.k56_done; ac_rfl
include q16 q17 q18 h31 L32 in
theorem t33 : Bo P w K mg base "_law_refused" (top 45) ["_law_plane", "_law_deed", "_law_things", "_law_due", "_law_caught", "e"] 6 Den.k56_refused := λ _ _ _ _ _ _ hr nd => by delta Den.k56_refused; ac_rfl
include ht in
theorem t34 : Bo P w K mg base "_law_odd" (top 46) ["_law_number", "_law_far", "_law_some"] 0 Den.k56_odd := λ _ _ _ _ _ _ hr nd => by delta Den.k56_odd; ac_rfl
include ht m_divmod m_tuple h24 h34 in
theorem t35 : Bo P w K mg base "_law_odd_row" (top 47) ["_law_number", "_law_long", "_law_way", "_law_row_here"] 3 Den.k56_odd_row := λ _ _ _ _ _ _ hr nd => by delta Den.k56_odd_row; ac_rfl
include ht m_divmod m_len m_range h24 h34 h35 in
theorem t36 : Bo P w K mg base "_law_bad" (top 48) ["_law_state", "_law_marks", "_law_number", "_law_way", "_law_good", "_law_some", "_law_gone"] 4 Den.k56_bad := λ _ _ _ _ _ _ hr nd => by delta Den.k56_bad; ac_rfl
include ht m_len m_max m_min m_range h9 h13 h16 h17 h19 h20 h24 h26 h27 h28 h29 h30 h33 h36 in
theorem t37 : Bo P w K mg base "law" (top 49) ["_law_script", "_law_wide", "_law_plane", "_law_state", "_law_marks", "_law_k", "_law_deed", "_law_things", "_law_due"] 9 Den.k56_law := λ _ _ _ _ _ _ hr nd => by delta Den.k56_law; ac_rfl
end
theorem qJa {K : PySem.W.Frag} {mg : Str -> Option Value} {x : Str} {c : Addr} {dd : Option Addr} {t0 t1 : Tok} {n : Nat} {sl : Array (Option Value)} {i j : Int} (hm : mg x = some (.ref c)) (l : K.lookup c = some ⟨.type "tuple", dd, .seq #[.int i t0, .int j t1] n, sl⟩) : qKf K mg x (.tup [.int i, .int j]) :=
 ⟨_, .ref c, hm, rfl, λ H W => ⟨c, [.int i, .int j], rfl, .inr ⟨_, _, _, l, rfl, rfl, by show 2 <= sizeLine; decide, .cons ⟨_, rfl⟩ (.cons ⟨_, rfl⟩ .nil)⟩, ⟨_, _, rfl, rfl, ⟨_, _, rfl, rfl, rfl⟩⟩⟩⟩
theorem all_mk {P : Program} {w : World} {K : PySem.W.Frag} {h : Heap} {mg : Str -> Option Value} {fa : Addr} (ht : P.given.tree = none) (X : K.In h) (G : h.Ns mainGlobals mg) (hfa : mg "law" = some (.ref fa))
 {z0 : Tok}
 {C1 : Addr} {d1 : Option Addr} {z1 u1 : Tok} {n1 : Nat} {s1 : Array (Option Value)}
 {C2 : Addr} {d2 : Option Addr} {z2 u2 : Tok} {n2 : Nat} {s2 : Array (Option Value)}
 (cPlane : Gc K "Plane")
 (cState : Gc K "State")
 (nPlane : Gn K "Plane")
 (nState : Gn K "State")
 (f0 : Gf K "Plane" "states")
 (f1 : Gf K "State" "kept")
 (f2 : Gf K "State" "laid")
 (f3 : Gf K "State" "wide")
 (m_ValueError : jC2 K mainGlobals "ValueError" = some none)
 (m_abs : jC2 K mainGlobals "abs" = some none)
 (m_all : jC2 K mainGlobals "all" = some none)
 (m_bool : jC2 K mainGlobals "bool" = some none)
 (m_divmod : jC2 K mainGlobals "divmod" = some none)
 (m_int : jC2 K mainGlobals "int" = some none)
 (m_isinstance : jC2 K mainGlobals "isinstance" = some none)
 (m_len : jC2 K mainGlobals "len" = some none)
 (m_list : jC2 K mainGlobals "list" = some none)
 (m_max : jC2 K mainGlobals "max" = some none)
 (m_min : jC2 K mainGlobals "min" = some none)
 (m_range : jC2 K mainGlobals "range" = some none)
 (m_tuple : jC2 K mainGlobals "tuple" = some none)
 (m_zip : jC2 K mainGlobals "zip" = some none)
 (a0 : jC2 K mainGlobals "MOST_COLUMNS" = some (some (.int 12 z0)))
 (a1 : jC2 K mainGlobals "NOUGHT" = some (some (.ref C1))) (l1 : K.lookup C1 = some ⟨.type "tuple", d1, .seq #[.int 0 z1, .int 1 u1] n1, s1⟩)
 (a2 : jC2 K mainGlobals "ONE" = some (some (.ref C2))) (l2 : K.lookup C2 = some ⟨.type "tuple", d2, .seq #[.int 1 z2, .int 1 u2] n2, s2⟩)
 (eNoColumn : Gxc K "NoColumn")
 (eNoMark : Gxc K "NoMark")
 (eNoPoint : Gxc K "NoPoint")
 (q0 : GKy K "NoMark" "NoMark")
 (q1 : GKn K "NoColumn" "NoMark")
 (q2 : GKn K "NoPoint" "NoMark")
 (q3 : GKc K "NoMark" "NoMark")
 (q4 : GKy K "NoColumn" "NoColumn")
 (q5 : GKn K "NoMark" "NoColumn")
 (q6 : GKn K "NoPoint" "NoColumn")
 (q7 : GKc K "NoColumn" "NoColumn")
 (q8 : GKy K "NoPoint" "NoPoint")
 (q9 : GKn K "NoColumn" "NoPoint")
 (q10 : GKn K "NoMark" "NoPoint")
 (q11 : GKc K "NoPoint" "NoPoint")
 (q12 : GKv K "NoColumn" "ValueError")
 (q13 : GKv K "NoMark" "ValueError")
 (q14 : GKv K "NoPoint" "ValueError")
 (q15 : GKt K ["NoColumn", "NoMark", "NoPoint"] ["NoDeed", "NoInverse", "NoLine", "NoName", "NoRatio", "NotSure"])
 (q16 : GXm K "NoColumn" "PlaneError")
 (q17 : GXm K "NoMark" "PlaneError")
 (q18 : GXm K "NoPoint" "PlaneError")
 (h0 : Ga K "is_whole" (top 15))
 (h1 : Ga K "greatest_common" (top 17))
 (h2 : Ga K "is_ratio" (top 16))
 (h3 : Ga K "less" (top 18))
 (h4 : Ga K "is_row" (top 20))
 (h5 : Ga K "is_wide" (top 23))
 (h6 : Ga K "is_weight" (top 25))
 (h7 : Ga K "is_point" (top 24))
 (h8 : Gm K "State" "__init__" "State.__init__" (mt 27 0))
 (h9 : Gm K "Plane" "__init__" "Plane.__init__" (mt 28 0))
 (h10 : Gd K "Plane" "lay" "Plane.lay" (mt 28 1))
 (h11 : Gm K "Plane" "take" "Plane.take" (mt 28 2))
 (h12 : Ga K "with_row" (top 29))
 (h13 : Gm K "Plane" "widen" "Plane.widen" (mt 28 3))
 (h14 : Gm K "Plane" "narrow" "Plane.narrow" (mt 28 4))
 (h15 : Gm K "Plane" "points" "Plane.points" (mt 28 5))
 (h16 : Gm K "Plane" "width" "Plane.width" (mt 28 6))
 (h17 : Gm K "Plane" "mark" "Plane.mark" (mt 28 13))
 (h18 : Gm K "Plane" "back" "Plane.back" (mt 28 14))
 (h19 : Ga K "_law_cell" (top 31))
 (h20 : Ga K "_law_mixed" (top 32))
 (h21 : Ga K "_law_lowest" (top 33))
 (h22 : Ga K "_law_plus" (top 34))
 (h23 : Ga K "_law_ratio" (top 35))
 (h24 : Ga K "_law_row" (top 36))
 (h25 : Ga K "_law_point" (top 37))
 (h26 : Ga K "_law_fresh" (top 38))
 (h27 : Ga K "_law_alike" (top 39))
 (h28 : Ga K "_law_stands" (top 40))
 (h29 : Ga K "_law_laid" (top 41))
 (h30 : Ga K "_law_taken" (top 42))
 (h31 : Ga K "_law_kinds" (top 43))
 (h32 : Ga K "_law_done" (top 44))
 (h33 : Ga K "_law_refused" (top 45))
 (h34 : Ga K "_law_odd" (top 46))
 (h35 : Ga K "_law_odd_row" (top 47))
 (h36 : Ga K "_law_bad" (top 48))
 (hL : Ga K "law" (top 49)) : ∃ fd : FuncData, (∀ (s : Shared) (v : Value), BindsTo s fd ⟨[v], []⟩ [("_law_script", v)]) /\ ∀ base : Heap, qCf P w K mg base CX0 10 fa fd ["_law_script"] (spF ⟨K, mg⟩ F.k56_law) := by
 have f0 := f0.ff cPlane X G
 have f1 := f1.ff cState X G
 have f2 := f2.ff cState X G
 have f3 := f3.ff cState X G
 have m_ValueError := jD3 X G m_ValueError
 have m_abs := jD3 X G m_abs
 have m_all := jD3 X G m_all
 have m_bool := jD3 X G m_bool
 have m_divmod := jD3 X G m_divmod
 have m_int := jD3 X G m_int
 have m_isinstance := jD3 X G m_isinstance
 have m_len := jD3 X G m_len
 have m_list := jD3 X G m_list
 have m_max := jD3 X G m_max
 have m_min := jD3 X G m_min
 have m_range := jD3 X G m_range
 have m_tuple := jD3 X G m_tuple
 have m_zip := jD3 X G m_zip
 have a0 : qKf K mg "MOST_COLUMNS" (.int 12) := ⟨_, (.int 12), jC3 X G a0, ⟨z0, rfl⟩, λ H W => rfl⟩
 have a1 := qJa (jC3 X G a1) l1
 have a2 := qJa (jC3 X G a2) l2
 have eNoColumn := eNoColumn.ff X G
 have eNoMark := eNoMark.ff X G
 have eNoPoint := eNoPoint.ff X G
 have q0 := q0.ff X G
 have q1 := q1.ff X G
 have q2 := q2.ff X G
 have q3 := q3.ff X G
 have q4 := q4.ff X G
 have q5 := q5.ff X G
 have q6 := q6.ff X G
 have q7 := q7.ff X G
 have q8 := q8.ff X G
 have q9 := q9.ff X G
 have q10 := q10.ff X G
 have q11 := q11.ff X G
 have q12 := q12.ff X G
 have q13 := q13.ff X G
 have q14 := q14.ff X G
 have q15 := q15.ff X G
 have q16 := q16.ff X G
 have q17 := q17.ff X G
 have q18 := q18.ff X G
 obtain ⟨f', a, oc, od, kV, dc, pm, an, cd, ct, sl, l, c, kp⟩ := hL
 have e := hfa.symm.trans (jC3 X G a)
 cases e
 have R := zY (st := (top 49)) l c kp
 refine ⟨jB2 "law" "law" (zI (top 49)) (zG (top 49)) (zC (top 49)) .none kV dc pm an cd ct, λ s v => .of_eq rfl, λ base => ?_⟩
 have h0 := h0.fk (F := F.k02_whole) (i := 1) P w base X G (t0 m_bool m_int m_isinstance)
 have h1 := h1.fk (F := F.greatest_common) (i := 2) P w base X G t1
 have h2 := h2.fk (F := F.is_ratio) (i := 1) P w base X G (t2 m_abs m_isinstance m_len m_tuple h0 h1)
 have h3 := h3.fk (F := F.less) (i := 2) P w base X G t3
 have h4 := h4.fk (F := F.is_row) (i := 2) P w base X G (t4 m_all m_isinstance m_len m_list h2)
 have h5 := h5.fk (F := F.is_wide) (i := 1) P w base X G (t5 a0 h0)
 have h6 := h6.fk (F := F.is_weight) (i := 1) P w base X G (t6 a1 h2 h3)
 have h7 := h7.fk (F := F.is_point) (i := 2) P w base X G (t7 m_isinstance m_len m_tuple h2 h4 h6)
 have h8 := h8.fn (F := F.State___init__) (i := 4) P w base nState X G (t8 f1 f2 f3)
 have L9 := h9.fnx (F := _root_.X.Plane___init__) (i := 2) P w base nPlane X G (x9 f0 eNoColumn h5 h8)
 have h9 := h9.fn (F := F.Plane___init__) (i := 2) P w base nPlane X G (t9 f0 h5 h8)
 have L10 : Fmx P w K mg base 5 "Plane" "lay" _root_.X.Plane_lay := h10.fmx (F := _root_.X.Plane_lay) (i := 4) P w base cPlane X G (x10 f0 f1 f2 f3 m_list a2 eNoPoint h7 h8)
 have B10 : Fme P w K mg base 5 "Plane" "lay" [] F.Plane_lay := h10.fm P w base 4 cPlane X G (t10 f0 f1 f2 f3 m_list a2 h7 h8)
 have D10 : Fme P w K mg base 5 "Plane" "lay" [.none] F.Plane_lay := h10.fm P w base 3 cPlane X G (t10 f0 f1 f2 f3 m_list a2 h7 h8)
 have L11 := h11.fmx (F := _root_.X.Plane_take) (i := 2) P w base cPlane X G (x11 f0 f1 f2 f3 eNoPoint h0 h8)
 have h11 := h11.fm (F := F.Plane_take) (i := 2) P w base cPlane X G (t11 f0 f1 f2 f3 h0 h8)
 have h12 := h12.fk (F := F.with_row) (i := 2) P w base X G t12
 have L13 := h13.fmx (F := _root_.X.Plane_widen) (i := 2) P w base cPlane X G (x13 f0 f1 f2 f3 m_len m_zip eNoColumn h4 h5 h8 h12)
 have h13 := h13.fm (F := F.Plane_widen) (i := 2) P w base cPlane X G (t13 f0 f1 f2 f3 m_len m_zip h4 h5 h8 h12)
 have L14 := h14.fmx (F := _root_.X.Plane_narrow) (i := 1) P w base cPlane X G (x14 f0 f1 f2 f3 eNoColumn h8 h12)
 have h14 := h14.fm (F := F.Plane_narrow) (i := 1) P w base cPlane X G (t14 f0 f1 f2 f3 h8 h12)
 have h15 := h15.fm (F := F.Plane_points) (i := 1) P w base cPlane X G (t15 f0 f1 m_list h12)
 have h16 := h16.fm (F := F.Plane_width) (i := 1) P w base cPlane X G (t16 f0 f3)
 have h17 := h17.fm (F := F.Plane_mark) (i := 1) P w base cPlane X G (t17 f0 m_len)
 have L18 := h18.fmx (F := _root_.X.Plane_back) (i := 2) P w base cPlane X G (x18 f0 eNoMark h0 h17)
 have h18 := h18.fm (F := F.Plane_back) (i := 2) P w base cPlane X G (t18 f0 h0 h17)
 have h19 := h19.fk (F := F.k11_cell_at) (i := 2) P w base X G (t19 m_len)
 have h20 := h20.fk (F := F.k52_mixed) (i := 2) P w base X G (t20 m_range)
 have h21 := h21.fk (F := F.k52_lowest) (i := 2) P w base X G (t21 ht m_abs)
 have h22 := h22.fk (F := F.k52_plus) (i := 2) P w base X G (t22 h21)
 have h23 := h23.fk (F := F.k52_ratio) (i := 1) P w base X G (t23 ht m_divmod h21)
 have h24 := h24.fk (F := F.k52_row) (i := 2) P w base X G (t24 m_range h20 h23)
 have h25 := h25.fk (F := F.k52_point) (i := 3) P w base X G (t25 ht m_divmod h22 h23 h24)
 have h26 := h26.fk (F := F.k52_fresh) (i := 1) P w base X G t26
 have h27 : ∀ n, Fk P w K mg base (n + 1) "_law_alike" (F.k52_alike n) := λ n => by
  induction n with
  | zero => exact h27.fk0 (N := ["_law_found", "_law_due"]) (i := 2) P w base X G
  | succ n ih => exact h27.fk P w base X G (t27 m_all m_bool m_int m_isinstance m_len m_list m_tuple m_zip ih)
 have h27 := h27 7
 have h28 := h28.fk (F := F.k52_stands) (i := 2) P w base X G (t28 h15 h16 h27)
 have h29 := h29.fk (F := F.k52_laid) (i := 4) P w base X G (t29 ht m_len m_list B10 D10 h25 h27)
 have h30 := h30.fk (F := F.k52_taken) (i := 3) P w base X G (t30 m_len h11)
 have h31 := h31.fk (F := F.k56_kinds) (i := 1) P w base X G (t31 m_ValueError m_isinstance q0 q1 q2 q3 q4 q5 q6 q7 q8 q9 q10 q11 q12 q13 q14 q15)
 have L32 := h32.fkx (F := _root_.X._law_done) (i := 3) P w base X G (x32 L9 L10 L11 L13 L14 L18)
 have h32 := h32.fk (F := F.k56_done) (i := 3) P w base X G (t32 h9 B10 h11 h13 h14 h18)
 have h33 := h33.fk (F := F.k56_refused) (i := 4) P w base X G (t33 q16 q17 q18 h31 L32)
 have h34 := h34.fk (F := F.k56_odd) (i := 1) P w base X G (t34 ht)
 have h35 := h35.fk (F := F.k56_odd_row) (i := 2) P w base X G (t35 ht m_divmod m_tuple h24 h34)
 have h36 := h36.fk (F := F.k56_bad) (i := 3) P w base X G (t36 ht m_divmod m_len m_range h24 h34 h35)
 exact Bo.ok (i := 1) (t37 ht m_len m_max m_min m_range h9 h13 h16 h17 h19 h20 h24 h26 h27 h28 h29 h30 h33 h36) R.g ⟨rfl, rfl, rfl, by decide +kernel, rfl, by decide +kernel, by decide +kernel⟩ rfl rfl
end Tm
end
section
namespace Tm
open PySem PySem.Spec PyProof.Rows L2 Np
def qS9 (K : PySem.W.Frag) : Sp := λ vs H Q _ => ∃ (a : Addr) (ns : List Int), vs = [.ref a] /\ qWd H /\ SqL K H a (ns.map V.int) /\ ns.length <= 63 /\ (∀ z ∈ ns, z.natAbs.log2 < 1048577) /\ ∀ H', Q (.bl true) H'
theorem qGn {G : Gx} {H : Hp} {W : Wd} : ∀ ns : List Int, qAl G H W (ns.map D.int) (ns.map V.int)
 | [] => rfl
 | n :: ns => ⟨.int n, _, rfl, rfl, qGn ns⟩
theorem qW4 {K : PySem.W.Frag} {H : Hp} {a : Addr} {xs : List V} (hO : qWd H) (h : SqL K H a xs) : Sc K H a xs := by
 rcases h with (h | ⟨o, h⟩) | h
 ·rcases hO a with q | ⟨o, ys, q⟩ <;> rw [q] at h <;> cases h
 ·exact .inl ⟨o, h⟩
 ·exact .inr (.inr h)
theorem qVd {K : PySem.W.Frag} {mg : Str -> Option Value} (vs : List V) (H : Hp) (Q : VK) (E : XK) (h : qS9 K vs H Q E) : spF ⟨K, mg⟩ F.k56_law vs H Q E := by
 obtain ⟨a, ns, rfl, hO, hS, hl, hz, q⟩ := h
 obtain ⟨d, S', e, rfl⟩ := (Nm.k56_holds ns ⟨hl, hz⟩).out
 refine ⟨⟨λ _ => 0, []⟩, [.scr (ns.map D.int)], .ok (.bl true) S', ⟨λ i j hi => by simp at hi, λ i o hi => by simp at hi⟩, ⟨.ref a, [], rfl, ⟨a, _, rfl, qW4 hO hS, qGn ns⟩, rfl⟩, e, λ H' W' _ _ v rv => ?_⟩
 have rv : v = .bl true := rv
 subst rv
 exact q H'
theorem walk {l : PySem.W.OpenLaw} {q : Program} {loose : List Str} {XP : (Str -> Option Value) -> Heap -> Prop} {YP : World -> Heap -> Prop} {d : DefRec} {K : Params -> PySem.W.Frag} (hn : l.most = some 63) (hdf : d.params.defaults = [])
  (hY : ∀ (w : World) (h : Heap), YP w h -> (K w.params).In h)
  (F : ∀ (w : World) (mg : Str -> Option Value) (fa : Addr) (h : Heap), (K w.params).In h -> h.Ns mainGlobals mg -> mg d.name = some (.ref fa) ->
   ∃ fd : FuncData, (∀ (s : Shared) (u : Value), BindsTo s fd ⟨[u], []⟩ [("_law_script", u)]) /\ ∀ base : Heap, qCf l.prog w (K w.params) mg base CX0 10 fa fd ["_law_script"] (spF ⟨K w.params, mg⟩ F.k56_law))
  (hq : PyProof.Rows.importsNone q = true) :
  PySem.W.WalkO q loose XP YP l.row.toRowW d [] (λ f vs => PySem.call f vs) :=
 L2.walk_of (n := 63) (k := 10) (x := "_law_script") (CX := λ _ => CX0) (sp := λ w => qS9 (K w.params)) hn (by decide) hdf ⟨rfl, by decide, by decide⟩ hY (λ w mg fa h a b c => let ⟨fd, p, q⟩ := F w mg fa h a b c; ⟨fd, p, λ base _ _ => (q base).imp qVd⟩) hq (λ _ _ a ns hl hz hO hS => ⟨a, ns, rfl, hO, hS, hl, hz, λ _ => rfl⟩) λ _ _ _ _ _ z => z
abbrev M0 : Value := (.str "nearplane.ratios" 358)
abbrev M1 : Value := (.str "nearplane.rows" 399)
abbrev M2 : Value := (.str "nearplane.fits" 407)
abbrev M3 : Value := (.str "nearplane.planes" 433)
abbrev M4 : Value := (.str "law_nearplane_k56_refused_changes_nothing" 607)
noncomputable def KK : PySem.Params -> PySem.W.Frag := λ P =>
 (nat_lit 3, ⟨(.type "dict"), none, (.dict [kh P "__name__" 165 (.str "law_nearplane_k56_refused_changes_nothing" 607), kh P "__doc__" 166 .none, kh P "__package__" 167 .none, kh P "__loader__" 168 (.builtin "__main__.__loader__#opaque"), kh P "__spec__" 169 .none, kh P "__annotations__" 170 (.ref 6), kh P "__builtins__" 171 (.ref 4), kh P "__file__" 173 (.str "/claim/cut.py" 172), kh P "__cached__" 174 .none, kh P "_wall" 193 (.ref 21), kh P "PlaneError" 213 (.ref 31), kh P "NoRatio" 229 (.ref 44), kh P "NoDeed" 245 (.ref 56), kh P "NoInverse" 261 (.ref 68), kh P "NoPoint" 277 (.ref 80), kh P "NotSure" 293 (.ref 92), kh P "NoColumn" 309 (.ref 104), kh P "NoMark" 325 (.ref 116), kh P "NoName" 341 (.ref 128), kh P "NoLine" 357 (.ref 140), kh P "NOUGHT" 362 (.ref 143), kh P "ONE" 365 (.ref 144), kh P "is_whole" 372 (.ref 151), kh P "is_ratio" 379 (.ref 158), kh P "greatest_common" 390 (.ref 165), kh P "less" 398 (.ref 172), kh P "is_row" 406 (.ref 177), kh P "MOST_COLUMNS" 410 (.int (12) 409), kh P "is_wide" 417 (.ref 184), kh P "is_point" 425 (.ref 191), kh P "is_weight" 432 (.ref 198), kh P "State" 467 (.ref 215), kh P "Plane" 598 (.ref 327), kh P "with_row" 606 (.ref 338), kh P "_law_cell" 616 (.ref 345), kh P "_law_mixed" 627 (.ref 352), kh P "_law_lowest" 637 (.ref 359), kh P "_law_plus" 645 (.ref 366), kh P "_law_ratio" 654 (.ref 373), kh P "_law_row" 664 (.ref 380), kh P "_law_point" 676 (.ref 387), kh P "_law_fresh" 683 (.ref 394), kh P "_law_alike" 689 (.ref 399), kh P "_law_stands" 697 (.ref 406), kh P "_law_laid" 712 (.ref 413), kh P "_law_taken" 722 (.ref 420), kh P "_law_kinds" 730 (.ref 427), kh P "_law_done" 739 (.ref 434), kh P "_law_refused" 751 (.ref 441), kh P "_law_odd" 760 (.ref 448), kh P "_law_odd_row" 770 (.ref 455), kh P "_law_bad" 776 (.ref 460), kh P "law" 791 (.ref 467)].toArray 53), [].toArray⟩) ::
 (nat_lit 30, ⟨(.type "dict"), none, (.dict [kh P "__module__" 203 (.str "nearplane.errors" 194), kh P "__firstlineno__" 207 (.int (5) 206), kh P "__static_attributes__" 208 (.ref 29), kh P "__weakref__" 210 (.ref 32), kh P "__doc__" 211 .none].toArray 3), [].toArray⟩) ::
 (nat_lit 31, ⟨(.type "type"), none, (.cls ⟨"PlaneError", [(.type "ValueError")], [(.ref 31), (.type "ValueError"), (.type "Exception"), (.type "BaseException"), (.type "object")], 30, "PlaneError", true, [], [(.ref 44), (.ref 56), (.ref 68), (.ref 80), (.ref 92), (.ref 104), (.ref 116), (.ref 128), (.ref 140)], false, none, false⟩), [(some (.ref 22)), none, (some (.str "PlaneError" 196)), (some (.str "PlaneError" 204)), (some (.builtin "ValueError.__new__")), (some (.bool true))].toArray⟩) ::
 (nat_lit 43, ⟨(.type "dict"), none, (.dict [kh P "__module__" 221 (.str "nearplane.errors" 194), kh P "__firstlineno__" 225 (.int (7) 224), kh P "__static_attributes__" 226 (.ref 42), kh P "__doc__" 227 .none].toArray 2), [].toArray⟩) ::
 (nat_lit 44, ⟨(.type "type"), none, (.cls ⟨"NoRatio", [(.ref 31)], [(.ref 44), (.ref 31), (.type "ValueError"), (.type "Exception"), (.type "BaseException"), (.type "object")], 43, "NoRatio", true, [], [], false, none, false⟩), [(some (.ref 35)), none, (some (.str "NoRatio" 214)), (some (.str "NoRatio" 222)), (some (.builtin "ValueError.__new__")), (some (.bool true))].toArray⟩) ::
 (nat_lit 55, ⟨(.type "dict"), none, (.dict [kh P "__module__" 237 (.str "nearplane.errors" 194), kh P "__firstlineno__" 241 (.int (9) 240), kh P "__static_attributes__" 242 (.ref 54), kh P "__doc__" 243 .none].toArray 2), [].toArray⟩) ::
 (nat_lit 56, ⟨(.type "type"), none, (.cls ⟨"NoDeed", [(.ref 31)], [(.ref 56), (.ref 31), (.type "ValueError"), (.type "Exception"), (.type "BaseException"), (.type "object")], 55, "NoDeed", true, [], [], false, none, false⟩), [(some (.ref 47)), none, (some (.str "NoDeed" 230)), (some (.str "NoDeed" 238)), (some (.builtin "ValueError.__new__")), (some (.bool true))].toArray⟩) ::
 (nat_lit 67, ⟨(.type "dict"), none, (.dict [kh P "__module__" 253 (.str "nearplane.errors" 194), kh P "__firstlineno__" 257 (.int (11) 256), kh P "__static_attributes__" 258 (.ref 66), kh P "__doc__" 259 .none].toArray 2), [].toArray⟩) ::
 (nat_lit 68, ⟨(.type "type"), none, (.cls ⟨"NoInverse", [(.ref 31)], [(.ref 68), (.ref 31), (.type "ValueError"), (.type "Exception"), (.type "BaseException"), (.type "object")], 67, "NoInverse", true, [], [], false, none, false⟩), [(some (.ref 59)), none, (some (.str "NoInverse" 246)), (some (.str "NoInverse" 254)), (some (.builtin "ValueError.__new__")), (some (.bool true))].toArray⟩) ::
 (nat_lit 79, ⟨(.type "dict"), none, (.dict [kh P "__module__" 269 (.str "nearplane.errors" 194), kh P "__firstlineno__" 273 (.int (13) 272), kh P "__static_attributes__" 274 (.ref 78), kh P "__doc__" 275 .none].toArray 2), [].toArray⟩) ::
 (nat_lit 80, ⟨(.type "type"), none, (.cls ⟨"NoPoint", [(.ref 31)], [(.ref 80), (.ref 31), (.type "ValueError"), (.type "Exception"), (.type "BaseException"), (.type "object")], 79, "NoPoint", true, [], [], false, none, false⟩), [(some (.ref 71)), none, (some (.str "NoPoint" 262)), (some (.str "NoPoint" 270)), (some (.builtin "ValueError.__new__")), (some (.bool true))].toArray⟩) ::
 (nat_lit 91, ⟨(.type "dict"), none, (.dict [kh P "__module__" 285 (.str "nearplane.errors" 194), kh P "__firstlineno__" 289 (.int (15) 288), kh P "__static_attributes__" 290 (.ref 90), kh P "__doc__" 291 .none].toArray 2), [].toArray⟩) ::
 (nat_lit 92, ⟨(.type "type"), none, (.cls ⟨"NotSure", [(.ref 31)], [(.ref 92), (.ref 31), (.type "ValueError"), (.type "Exception"), (.type "BaseException"), (.type "object")], 91, "NotSure", true, [], [], false, none, false⟩), [(some (.ref 83)), none, (some (.str "NotSure" 278)), (some (.str "NotSure" 286)), (some (.builtin "ValueError.__new__")), (some (.bool true))].toArray⟩) ::
 (nat_lit 103, ⟨(.type "dict"), none, (.dict [kh P "__module__" 301 (.str "nearplane.errors" 194), kh P "__firstlineno__" 305 (.int (17) 304), kh P "__static_attributes__" 306 (.ref 102), kh P "__doc__" 307 .none].toArray 2), [].toArray⟩) ::
 (nat_lit 104, ⟨(.type "type"), none, (.cls ⟨"NoColumn", [(.ref 31)], [(.ref 104), (.ref 31), (.type "ValueError"), (.type "Exception"), (.type "BaseException"), (.type "object")], 103, "NoColumn", true, [], [], false, none, false⟩), [(some (.ref 95)), none, (some (.str "NoColumn" 294)), (some (.str "NoColumn" 302)), (some (.builtin "ValueError.__new__")), (some (.bool true))].toArray⟩) ::
 (nat_lit 115, ⟨(.type "dict"), none, (.dict [kh P "__module__" 317 (.str "nearplane.errors" 194), kh P "__firstlineno__" 321 (.int (19) 320), kh P "__static_attributes__" 322 (.ref 114), kh P "__doc__" 323 .none].toArray 2), [].toArray⟩) ::
 (nat_lit 116, ⟨(.type "type"), none, (.cls ⟨"NoMark", [(.ref 31)], [(.ref 116), (.ref 31), (.type "ValueError"), (.type "Exception"), (.type "BaseException"), (.type "object")], 115, "NoMark", true, [], [], false, none, false⟩), [(some (.ref 107)), none, (some (.str "NoMark" 310)), (some (.str "NoMark" 318)), (some (.builtin "ValueError.__new__")), (some (.bool true))].toArray⟩) ::
 (nat_lit 127, ⟨(.type "dict"), none, (.dict [kh P "__module__" 333 (.str "nearplane.errors" 194), kh P "__firstlineno__" 337 (.int (21) 336), kh P "__static_attributes__" 338 (.ref 126), kh P "__doc__" 339 .none].toArray 2), [].toArray⟩) ::
 (nat_lit 128, ⟨(.type "type"), none, (.cls ⟨"NoName", [(.ref 31)], [(.ref 128), (.ref 31), (.type "ValueError"), (.type "Exception"), (.type "BaseException"), (.type "object")], 127, "NoName", true, [], [], false, none, false⟩), [(some (.ref 119)), none, (some (.str "NoName" 326)), (some (.str "NoName" 334)), (some (.builtin "ValueError.__new__")), (some (.bool true))].toArray⟩) ::
 (nat_lit 139, ⟨(.type "dict"), none, (.dict [kh P "__module__" 349 (.str "nearplane.errors" 194), kh P "__firstlineno__" 353 (.int (23) 352), kh P "__static_attributes__" 354 (.ref 138), kh P "__doc__" 355 .none].toArray 2), [].toArray⟩) ::
 (nat_lit 140, ⟨(.type "type"), none, (.cls ⟨"NoLine", [(.ref 31)], [(.ref 140), (.ref 31), (.type "ValueError"), (.type "Exception"), (.type "BaseException"), (.type "object")], 139, "NoLine", true, [], [], false, none, false⟩), [(some (.ref 131)), none, (some (.str "NoLine" 342)), (some (.str "NoLine" 350)), (some (.builtin "ValueError.__new__")), (some (.bool true))].toArray⟩) ::
 (nat_lit 143, ⟨(.type "tuple"), none, (.seq [(.int (0) 360), (.int (1) 361)].toArray 0), [].toArray⟩) ::
 (nat_lit 144, ⟨(.type "tuple"), none, (.seq [(.int (1) 363), (.int (1) 364)].toArray 0), [].toArray⟩) ::
 (nat_lit 150, cb "is_whole" "is_whole" 366 28 1 145 146 (.ref 147) (.ref 148) 149 370) ::
 (nat_lit 151, fo "is_whole" "is_whole" (top 15) .none M0 150) ::
 (nat_lit 157, cb "is_ratio" "is_ratio" 373 30 1 152 153 (.ref 154) (.ref 155) 156 377) ::
 (nat_lit 158, fo "is_ratio" "is_ratio" (top 16) .none M0 157) ::
 (nat_lit 164, cb "greatest_common" "greatest_common" 380 36 2 159 160 (.ref 161) (.ref 162) 163 388) ::
 (nat_lit 165, fo "greatest_common" "greatest_common" (top 17) .none M0 164) ::
 (nat_lit 171, cb "less" "less" 391 44 2 166 167 (.ref 168) (.ref 169) 170 396) ::
 (nat_lit 172, fo "less" "less" (top 18) .none M0 171) ::
 (nat_lit 176, cb "is_row" "is_row" 401 47 2 173 174 .none .none 175 404) ::
 (nat_lit 177, fo "is_row" "is_row" (top 20) .none M1 176) ::
 (nat_lit 183, cb "is_wide" "is_wide" 411 53 1 178 179 (.ref 180) (.ref 181) 182 415) ::
 (nat_lit 184, fo "is_wide" "is_wide" (top 23) .none M2 183) ::
 (nat_lit 190, cb "is_point" "is_point" 418 55 2 185 186 (.ref 187) (.ref 188) 189 423) ::
 (nat_lit 191, fo "is_point" "is_point" (top 24) .none M2 190) ::
 (nat_lit 197, cb "is_weight" "is_weight" 426 59 1 192 193 (.ref 194) (.ref 195) 196 430) ::
 (nat_lit 198, fo "is_weight" "is_weight" (top 25) .none M2 197) ::
 (nat_lit 211, cb "__init__" "State.__init__" 447 64 4 206 207 (.ref 208) (.ref 209) 210 454) ::
 (nat_lit 212, fo "__init__" "State.__init__" (mt 27 0) .none M3 211) ::
 (nat_lit 213, ⟨(.type "tuple"), none, (.seq [(.str "kept" 457), (.str "laid" 458), (.str "wide" 459)].toArray 0), [].toArray⟩) ::
 (nat_lit 214, ⟨(.type "dict"), none, (.dict [kh P "__module__" 442 (.str "nearplane.planes" 433), kh P "__firstlineno__" 446 (.int (62) 445), kh P "__init__" 456 (.ref 212), kh P "__static_attributes__" 460 (.ref 213), kh P "__dict__" 462 (.ref 216), kh P "__weakref__" 464 (.ref 217), kh P "__doc__" 465 .none].toArray 4), [].toArray⟩) ::
 (nat_lit 215, ⟨(.type "type"), none, (.cls ⟨"State", [(.type "object")], [(.ref 215), (.type "object")], 214, "State", true, [], [], false, none, false⟩), [none, none, (some (.str "State" 435)), (some (.str "State" 443)), (some (.builtin "object.__new__")), (some (.bool true))].toArray⟩) ::
 (nat_lit 216, ⟨(.type "getset_descriptor"), none, (.fields [(.str "__dict__" 461), (.ref 215), (.builtin "function.__dict__"), (.builtin "function.__dict__#set")].toArray), [].toArray⟩) ::
 (nat_lit 217, ⟨(.type "getset_descriptor"), none, (.fields [(.str "__weakref__" 463), (.ref 215), (.builtin "ExceptionGroup.__weakref__"), .none].toArray), [].toArray⟩) ::
 (nat_lit 232, cb "__init__" "Plane.__init__" 480 70 2 227 228 (.ref 229) (.ref 230) 231 485) ::
 (nat_lit 233, fo "__init__" "Plane.__init__" (mt 28 0) .none M3 232) ::
 (nat_lit 234, ⟨(.type "tuple"), none, (.seq [.none].toArray 0), [].toArray⟩) ::
 (nat_lit 240, cb "lay" "Plane.lay" 488 75 4 235 236 (.ref 237) (.ref 238) 239 499) ::
 (nat_lit 241, fo "lay" "Plane.lay" (mt 28 1) (.ref 234) M3 240) ::
 (nat_lit 245, cb "take" "Plane.take" 502 85 2 242 243 .none .none 244 505) ::
 (nat_lit 246, fo "take" "Plane.take" (mt 28 2) .none M3 245) ::
 (nat_lit 250, cb "widen" "Plane.widen" 508 92 2 247 248 .none .none 249 511) ::
 (nat_lit 251, fo "widen" "Plane.widen" (mt 28 3) .none M3 250) ::
 (nat_lit 255, cb "narrow" "Plane.narrow" 514 101 1 252 253 .none .none 254 517) ::
 (nat_lit 256, fo "narrow" "Plane.narrow" (mt 28 4) .none M3 255) ::
 (nat_lit 260, cb "points" "Plane.points" 520 108 1 257 258 .none .none 259 523) ::
 (nat_lit 261, fo "points" "Plane.points" (mt 28 5) .none M3 260) ::
 (nat_lit 267, cb "width" "Plane.width" 526 111 1 262 263 (.ref 264) (.ref 265) 266 530) ::
 (nat_lit 268, fo "width" "Plane.width" (mt 28 6) .none M3 267) ::
 (nat_lit 316, cb "mark" "Plane.mark" 575 132 1 311 312 (.ref 313) (.ref 314) 315 579) ::
 (nat_lit 317, fo "mark" "Plane.mark" (mt 28 13) .none M3 316) ::
 (nat_lit 323, cb "back" "Plane.back" 582 135 2 318 319 (.ref 320) (.ref 321) 322 587) ::
 (nat_lit 324, fo "back" "Plane.back" (mt 28 14) .none M3 323) ::
 (nat_lit 325, ⟨(.type "tuple"), none, (.seq [(.str "states" 590)].toArray 0), [].toArray⟩) ::
 (nat_lit 326, ⟨(.type "dict"), none, (.dict [kh P "__module__" 475 (.str "nearplane.planes" 433), kh P "__firstlineno__" 479 (.int (68) 478), kh P "__init__" 487 (.ref 233), kh P "lay" 501 (.ref 241), kh P "take" 507 (.ref 246), kh P "widen" 513 (.ref 251), kh P "narrow" 519 (.ref 256), kh P "points" 525 (.ref 261), kh P "width" 532 (.ref 268), kh P "fit" 539 (.ref 275), kh P "sums" 546 (.ref 282), kh P "told" 553 (.ref 289), kh P "free" 560 (.ref 296), kh P "ways" 567 (.ref 303), kh P "squares" 574 (.ref 310), kh P "mark" 581 (.ref 317), kh P "back" 589 (.ref 324), kh P "__static_attributes__" 591 (.ref 325), kh P "__dict__" 593 (.ref 328), kh P "__weakref__" 595 (.ref 329), kh P "__doc__" 596 .none].toArray 4), [].toArray⟩) ::
 (nat_lit 327, ⟨(.type "type"), none, (.cls ⟨"Plane", [(.type "object")], [(.ref 327), (.type "object")], 326, "Plane", true, [], [], false, none, false⟩), [none, none, (some (.str "Plane" 468)), (some (.str "Plane" 476)), (some (.builtin "object.__new__")), (some (.bool true))].toArray⟩) ::
 (nat_lit 328, ⟨(.type "getset_descriptor"), none, (.fields [(.str "__dict__" 592), (.ref 327), (.builtin "function.__dict__"), (.builtin "function.__dict__#set")].toArray), [].toArray⟩) ::
 (nat_lit 329, ⟨(.type "getset_descriptor"), none, (.fields [(.str "__weakref__" 594), (.ref 327), (.builtin "ExceptionGroup.__weakref__"), .none].toArray), [].toArray⟩) ::
 (nat_lit 337, cb "with_row" "with_row" 599 139 2 332 333 (.ref 334) (.ref 335) 336 604) ::
 (nat_lit 338, fo "with_row" "with_row" (top 29) .none M3 337) ::
 (nat_lit 344, cb "_law_cell" "_law_cell" 609 142 2 339 340 (.ref 341) (.ref 342) 343 614) ::
 (nat_lit 345, fo "_law_cell" "_law_cell" (top 31) .none M4 344) ::
 (nat_lit 351, cb "_law_mixed" "_law_mixed" 617 146 2 346 347 (.ref 348) (.ref 349) 350 625) ::
 (nat_lit 352, fo "_law_mixed" "_law_mixed" (top 32) .none M4 351) ::
 (nat_lit 358, cb "_law_lowest" "_law_lowest" 628 153 2 353 354 (.ref 355) (.ref 356) 357 635) ::
 (nat_lit 359, fo "_law_lowest" "_law_lowest" (top 33) .none M4 358) ::
 (nat_lit 365, cb "_law_plus" "_law_plus" 638 159 2 360 361 (.ref 362) (.ref 363) 364 643) ::
 (nat_lit 366, fo "_law_plus" "_law_plus" (top 34) .none M4 365) ::
 (nat_lit 372, cb "_law_ratio" "_law_ratio" 646 161 1 367 368 (.ref 369) (.ref 370) 371 652) ::
 (nat_lit 373, fo "_law_ratio" "_law_ratio" (top 35) .none M4 372) ::
 (nat_lit 379, cb "_law_row" "_law_row" 655 167 2 374 375 (.ref 376) (.ref 377) 378 662) ::
 (nat_lit 380, fo "_law_row" "_law_row" (top 36) .none M4 379) ::
 (nat_lit 386, cb "_law_point" "_law_point" 665 172 3 381 382 (.ref 383) (.ref 384) 385 674) ::
 (nat_lit 387, fo "_law_point" "_law_point" (top 37) .none M4 386) ::
 (nat_lit 393, cb "_law_fresh" "_law_fresh" 677 179 1 388 389 (.ref 390) (.ref 391) 392 681) ::
 (nat_lit 394, fo "_law_fresh" "_law_fresh" (top 38) .none M4 393) ::
 (nat_lit 398, cb "_law_alike" "_law_alike" 684 181 2 395 396 .none .none 397 687) ::
 (nat_lit 399, fo "_law_alike" "_law_alike" (top 39) .none M4 398) ::
 (nat_lit 405, cb "_law_stands" "_law_stands" 690 187 2 400 401 (.ref 402) (.ref 403) 404 695) ::
 (nat_lit 406, fo "_law_stands" "_law_stands" (top 40) .none M4 405) ::
 (nat_lit 412, cb "_law_laid" "_law_laid" 698 191 4 407 408 (.ref 409) (.ref 410) 411 710) ::
 (nat_lit 413, fo "_law_laid" "_law_laid" (top 41) .none M4 412) ::
 (nat_lit 419, cb "_law_taken" "_law_taken" 713 206 3 414 415 (.ref 416) (.ref 417) 418 720) ::
 (nat_lit 420, fo "_law_taken" "_law_taken" (top 42) .none M4 419) ::
 (nat_lit 426, cb "_law_kinds" "_law_kinds" 723 210 1 421 422 (.ref 423) (.ref 424) 425 728) ::
 (nat_lit 427, fo "_law_kinds" "_law_kinds" (top 43) .none M4 426) ::
 (nat_lit 433, cb "_law_done" "_law_done" 731 214 3 428 429 (.ref 430) (.ref 431) 432 737) ::
 (nat_lit 434, fo "_law_done" "_law_done" (top 44) .none M4 433) ::
 (nat_lit 440, cb "_law_refused" "_law_refused" 740 227 4 435 436 (.ref 437) (.ref 438) 439 749) ::
 (nat_lit 441, fo "_law_refused" "_law_refused" (top 45) .none M4 440) ::
 (nat_lit 447, cb "_law_odd" "_law_odd" 752 236 1 442 443 (.ref 444) (.ref 445) 446 758) ::
 (nat_lit 448, fo "_law_odd" "_law_odd" (top 46) .none M4 447) ::
 (nat_lit 454, cb "_law_odd_row" "_law_odd_row" 761 240 2 449 450 (.ref 451) (.ref 452) 453 768) ::
 (nat_lit 455, fo "_law_odd_row" "_law_odd_row" (top 47) .none M4 454) ::
 (nat_lit 459, cb "_law_bad" "_law_bad" 771 251 3 456 457 .none .none 458 774) ::
 (nat_lit 460, fo "_law_bad" "_law_bad" (top 48) .none M4 459) ::
 (nat_lit 466, cb "law" "law" 777 276 1 461 462 (.ref 463) (.ref 464) 465 789) ::
 (nat_lit 467, fo "law" "law" (top 49) .none M4 466) ::
 []
def KA : List Addr := nat_lit 3 :: nat_lit 30 :: nat_lit 31 :: nat_lit 43 :: nat_lit 44 :: nat_lit 55 :: nat_lit 56 :: nat_lit 67 :: nat_lit 68 :: nat_lit 79 :: nat_lit 80 :: nat_lit 91 :: nat_lit 92 :: nat_lit 103 :: nat_lit 104 :: nat_lit 115 :: nat_lit 116 :: nat_lit 127 :: nat_lit 128 :: nat_lit 139 :: nat_lit 140 :: nat_lit 143 :: nat_lit 144 :: nat_lit 150 :: nat_lit 151 :: nat_lit 157 :: nat_lit 158 :: nat_lit 164 :: nat_lit 165 :: nat_lit 171 :: nat_lit 172 :: nat_lit 176 :: nat_lit 177 :: nat_lit 183 :: nat_lit 184 :: nat_lit 190 :: nat_lit 191 :: nat_lit 197 :: nat_lit 198 :: nat_lit 211 :: nat_lit 212 :: nat_lit 213 :: nat_lit 214 :: nat_lit 215 :: nat_lit 216 :: nat_lit 217 :: nat_lit 232 :: nat_lit 233 :: nat_lit 234 :: nat_lit 240 :: nat_lit 241 :: nat_lit 245 :: nat_lit 246 :: nat_lit 250 :: nat_lit 251 :: nat_lit 255 :: nat_lit 256 :: nat_lit 260 :: nat_lit 261 :: nat_lit 267 :: nat_lit 268 :: nat_lit 316 :: nat_lit 317 :: nat_lit 323 :: nat_lit 324 :: nat_lit 325 :: nat_lit 326 :: nat_lit 327 :: nat_lit 328 :: nat_lit 329 :: nat_lit 337 :: nat_lit 338 :: nat_lit 344 :: nat_lit 345 :: nat_lit 351 :: nat_lit 352 :: nat_lit 358 :: nat_lit 359 :: nat_lit 365 :: nat_lit 366 :: nat_lit 372 :: nat_lit 373 :: nat_lit 379 :: nat_lit 380 :: nat_lit 386 :: nat_lit 387 :: nat_lit 393 :: nat_lit 394 :: nat_lit 398 :: nat_lit 399 :: nat_lit 405 :: nat_lit 406 :: nat_lit 412 :: nat_lit 413 :: nat_lit 419 :: nat_lit 420 :: nat_lit 426 :: nat_lit 427 :: nat_lit 433 :: nat_lit 434 :: nat_lit 440 :: nat_lit 441 :: nat_lit 447 :: nat_lit 448 :: nat_lit 454 :: nat_lit 455 :: nat_lit 459 :: nat_lit 460 :: nat_lit 466 :: nat_lit 467 :: []
end Tm
open PySem PySem.W PyProof.Rows
def PySem.W.Fast.tw86409251838564021 : Unit := ()
def PySem.W.Fast.tw15734904326585062586 : Unit := ()
def PySem.W.Fast.tw4270509004641034154 : Unit := ()
def PySem.W.Fast.tw9593441873037508828 : Unit := ()
def PySem.W.Fast.tw2471142330496132580 : Unit := ()
def PySem.W.Fast.tw11713276375453736862 : Unit := ()
def PySem.W.Fast.tw5050666663732425679 : Unit := ()
def PySem.W.Fast.tw14446174778131765815 : Unit := ()
def PySem.W.Fast.tw6643622789565614710 : Unit := ()
def PySem.W.Fast.tw2777075868144576258 : Unit := ()
def PySem.W.Fast.tw5860522897468005613 : Unit := ()
def PySem.W.Fast.tw7689122322235374717 : Unit := ()
def PySem.W.Fast.tw16016814958265513516 : Unit := ()
def PySem.W.Fast.tw8333632959981190132 : Unit := ()
def PySem.W.Fast.tw10828109032885560906 : Unit := ()
def PySem.W.Fast.tw12732698818513175897 : Unit := ()
def PySem.W.Fast.tw7883150873079384521 : Unit := ()
def PySem.W.Fast.tw16278454618092919554 : Unit := ()
def PySem.W.Fast.tw14490301462962231693 : Unit := ()
def PySem.W.Fast.tw7400648547918735817 : Unit := ()
def PySem.W.Fast.tw6781446001121901241 : Unit := ()
def PySem.W.Fast.tw17229854662670805827 : Unit := ()
def PySem.W.Fast.tw13556211091279689577 : Unit := ()
def PySem.W.Fast.tw16197703808383100231 : Unit := ()
def PySem.W.Fast.tw1369004873850983925 : Unit := ()
def PySem.W.Fast.tw122055354254456556 : Unit := ()
def PySem.W.Fast.tw12657982682789596171 : Unit := ()
def PySem.W.Fast.tw10441664469229110698 : Unit := ()
def PySem.W.Fast.tw16665857149240931615 : Unit := ()
def PySem.W.Fast.tw5302859191701247893 : Unit := ()
def PySem.W.Fast.tw1989563960682810465 : Unit := ()
def PySem.W.Fast.tw1097900927308899441 : Unit := ()
def PySem.W.Fast.tw17986469956120332057 : Unit := ()
def PySem.W.Fast.tw12240317998649833509 : Unit := ()
def PySem.W.Fast.tw8647701382410408062 : Unit := ()
def PySem.W.Fast.tw1831052975469347324 : Unit := ()
def PySem.W.Fast.tw4671413139766948978 : Unit := ()
def PySem.W.Fast.tw6958210690338177312 : Unit := ()
def PySem.W.Fast.tw4095556230137273686 : Unit := ()
def PySem.W.Fast.tw231362898786199852 : Unit := ()
def PySem.W.Fast.tw14782701455645676861 : Unit := ()
def PySem.W.Fast.tw10430601967814356206 : Unit := ()
def PySem.W.Fast.tw6278674059552444111 : Unit := ()
def PySem.W.Fast.tw6561286427370987528 : Unit := ()
def PySem.W.Fast.tw17941839346152868612 : Unit := ()
def PySem.W.Fast.tw6097066597654999344 : Unit := ()
def PySem.W.Fast.tw16900518638041434748 : Unit := ()
def PySem.W.Fast.tw5751378726587547634 : Unit := ()
def PySem.W.Fast.tw2600813760899089785 : Unit := ()
def PySem.W.Fast.tw14818848738543439383 : Unit := ()
def PySem.W.Fast.tw7762803095184530676 : Unit := ()
def PySem.W.Fast.tw14887287337383218902 : Unit := ()
def PySem.W.Fast.tw4266197906120332257 : Unit := ()
def PySem.W.Fast.tw12890442000535272011 : Unit := ()
def PySem.W.Fast.tw13964734154604673981 : Unit := ()
def PySem.W.Fast.tw14474402521888383096 : Unit := ()
def PySem.W.Fast.tw3029295053123077851 : Unit := ()
def PySem.W.Fast.tw3123285354360642830 : Unit := ()
def PySem.W.Fast.tw17240143443623318460 : Unit := ()
def PySem.W.Fast.tw14277415742916008363 : Unit := ()
def PySem.W.Fast.tw15863747018829841730 : Unit := ()
def PySem.W.Fast.tw15694006096285224058 : Unit := ()
def PySem.W.Fast.tw14510693222478992664 : Unit := ()
def PySem.W.Fast.tw16412151802547008488 : Unit := ()
def PySem.W.Fast.tw4165045567304141646 : Unit := ()
def PySem.W.Fast.tw12146865818744682566 : Unit := ()
def PySem.W.Fast.tw3143291940875085781 : Unit := ()
def PySem.W.Fast.tw12486344634953481300 : Unit := ()
def PySem.W.Fast.tw6567809686138513402 : Unit := ()
def PySem.W.Fast.tw14692357798059682399 : Unit := ()
def PySem.W.Fast.tw5247752584294582259 : Unit := ()
def PySem.W.Fast.tw3143460870886208006 : Unit := ()
def PySem.W.Fast.tw17829112204673081081 : Unit := ()
def PySem.W.Fast.tw5697749751554594000 : Unit := ()
def PySem.W.Fast.tw13599088456688121659 : Unit := ()
def PySem.W.Fast.tw1392538600763281860 : Unit := ()
def PySem.W.Fast.tw15233642239517242449 : Unit := ()
def PySem.W.Fast.tw3447931320427231683 : Unit := ()
def PySem.W.Fast.tw5772607929804076436 : Unit := ()
def PySem.W.Fast.tw16455917397422533861 : Unit := ()
def PySem.W.Fast.tw2785387396418382673 : Unit := ()
def PySem.W.Fast.tw9130445203775199770 : Unit := ()
def PySem.W.Fast.tw10888267101448838201 : Unit := ()
set_option maxRecDepth 100000 in
set_option maxHeartbeats 0 in
theorem PySem.Challenge.cw_nearplane_k56_refused_changes_nothing_holds : PySem.Challenge.rw_nearplane_k56_refused_changes_nothing.Holds := by
 w_on; o_law; o_head (PySem.W.kHook Tm.KK Tm.KA (λ _ => by kernel_rfl)); (case hw => w_witness2)
 k_fill
 refine Tm.walk (l := PySem.Challenge.rw_nearplane_k56_refused_changes_nothing) rfl rfl (λ w h Y => PySem.W.kIn_of Y) ?F ?hq
 case hq => first | rfl | decide +kernel
 case F =>
  intro w mg fa h KX G hmg
  apply Tm.all_mk rfl KX G hmg
  all_goals first
   | (refine' Np.Ga.of ?a ?l ?c ?k; (case a => k_is); (case l => k_is); (case c => k_is); (case k => k_is))
   | (refine' Np.Gm.of ?a ?b ?i ?l ?c ?k; (case a => k_is); (case b => k_is); (case i => kernel_rfl); (case l => k_is); (case c => k_is); (case k => k_is))
   | (refine' Np.Gf.of ?a ?b; (case a => k_is); (case b => kernel_rfl))
   | (refine' Np.Gc.of ?a ?b ?c ?d ?e; (case a => k_is); (case b => kernel_rfl); (case c => kernel_rfl); (case d => kernel_rfl); (case e => kernel_rfl))
   | (refine' Np.Gn.of ?a ?b ?c; (case a => k_is); (case b => kernel_rfl); (case c => kernel_rfl))
   | (refine' Np.Ge.of ?a ?l ?c ?k ?t; (case a => k_is); (case l => k_is); (case c => k_is); (case k => k_is); (case t => k_is))
   | (refine' Np.Gd.of ?a ?b ?i ?l ?c ?k ?t; (case a => k_is); (case b => k_is); (case i => kernel_rfl); (case l => k_is); (case c => k_is); (case k => k_is); (case t => k_is))
   | (refine' Np.Gxc.of ?a ?b; (case a => k_is); (case b => k_exc))
   | (refine' Np.GXm.of ?a ?b ?e; (case a => k_is); (case b => k_is); (case e => kernel_rfl))
   | (refine' Np.GKb.of ?a ?b ?z ?e; (case a => k_is); (case b => k_is); (case z => kernel_rfl); (case e => kernel_rfl))
   | (refine' Np.GKc.of ?a; (case a => k_is))
   | (refine' Np.GKv.of ?a ?e; (case a => k_is); (case e => kernel_rfl))
   | (refine' Np.GKt.of ?a ?b ?c ?d ?e ?f ?g ?h ?i ?z ?x ?y ?w; (case a => k_is); (case b => k_is); (case c => k_is); (case d => k_is); (case e => k_is); (case f => k_is); (case g => k_is); (case h => k_is); (case i => k_is); (case z => kernel_rfl); (case x => kernel_rfl); (case y => kernel_rfl); (case w => kernel_rfl))
   | k_is
end
