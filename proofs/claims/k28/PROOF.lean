import PyProof.Rows.All
import Wide.All
import OpenK.AllK
import Wide.FinOn
import Lean
import PyProof.EqAt
import PyProof.EqKinds
import PyProof.TupleCall
import PySem.Str
import KE.KListMore
import KE.LcSums
import KE.KRevIter
import PyProof.EnumStmt
import PyProof.EnumMake
import PyProof.IsiTupleOf
import PyProof.P3In
import PyProof.CollectIter
import PyProof.ListRange
import OpenK.KOwn
import KE.KTryMore
import PyProof.NsDelKeeps
import KE.KIsAll
import PyProof.ExcAttrAll.ValueError
import PySem.Challenge.RW_nearplane_k28_whole_answers
set_option Elab.async false
set_option linter.all false
set_option maxRecDepth 100000
set_option maxHeartbeats 4000000
section
namespace L2
open PySem PySem.Spec PyProof.Rows
abbrev Key := Sum Int Str
def keyIs : Key → Value → Bool
 | .inl k, v => Value.isInt k v
 | .inr x, v => Value.isStrOf x v
def keyH (w : World) : Key → Int
 | .inl k => hashInt k
 | .inr x => hashStr w x
theorem keyIs_shape : ∀ {k : Key} {v : Value}, keyIs k v = true → (∃ i t, k = Sum.inl i ∧ v = Value.int i t) ∨ (∃ x t, k = Sum.inr x ∧ v = Value.str x t)
 | .inl i, v, h => by
  obtain ⟨t, e⟩ := Value.isInt_shape (k := i) (v := v) h
  exact .inl ⟨i, t, rfl, e⟩
 | .inr x, v, h => by
  obtain ⟨t, e⟩ := Value.isStrOf_shape (x := x) (v := v) h
  exact .inr ⟨x, t, rfl, e⟩
theorem key_ll (a b : Int) : decide ((Sum.inl a : Key) = Sum.inl b) = (a == b) := by
 by_cases e : a = b
 ·subst e; simp
 ·have h : ¬ (Sum.inl a : Key) = Sum.inl b := fun q => e (Sum.inl.inj q)
  rw [decide_eq_false h]
  exact (beq_eq_false_iff_ne.mpr e).symm
theorem key_rr (a b : Str) : decide ((Sum.inr a : Key) = Sum.inr b) = decide (a = b) := by
 by_cases e : a = b
 ·subst e; simp
 ·have h : ¬ (Sum.inr a : Key) = Sum.inr b := fun q => e (Sum.inr.inj q)
  rw [decide_eq_false h, decide_eq_false e]
theorem key_lr (a : Int) (b : Str) : decide ((Sum.inl a : Key) = Sum.inr b) = false := decide_eq_false (fun q => nomatch q)
theorem key_rl (a : Str) (b : Int) : decide ((Sum.inr a : Key) = Sum.inl b) = false := decide_eq_false (fun q => nomatch q)
def mixKind (prog : Program) (w : World) : PySem.KeyKind prog w Key where
 is := keyIs
 hash := keyH w
 inj := fun v a b ha hb => by
  rcases keyIs_shape ha with ⟨i, t, rfl, rfl⟩ | ⟨x, t, rfl, rfl⟩
  ·rcases keyIs_shape hb with ⟨j, u, rfl, e⟩ | ⟨y, u, rfl, e⟩
   ·injection e with e1 _; rw [e1]
   ·exact nomatch e
  ·rcases keyIs_shape hb with ⟨j, u, rfl, e⟩ | ⟨y, u, rfl, e⟩
   ·exact nomatch e
   ·injection e with e1 _; rw [e1]
 byValue := fun k v h => by
  rcases keyIs_shape h with ⟨i, t, rfl, rfl⟩ | ⟨x, t, rfl, rfl⟩ <;> rfl
 pyHash := fun hv h => by
  rcases keyIs_shape hv with ⟨i, t, rfl, rfl⟩ | ⟨x, t, rfl, rfl⟩
  ·exact wpAny_pyHash_int h
  ·exact wpAny_pyHash_str h
 eqBool := fun hu hv h => by
  rcases keyIs_shape hu with ⟨i, t, rfl, rfl⟩ | ⟨x, t, rfl, rfl⟩
  ·rcases keyIs_shape hv with ⟨j, u, rfl, rfl⟩ | ⟨y, u, rfl, rfl⟩
   ·rw [key_ll] at h; exact wpAny_eqBool_int h
   ·rw [key_lr] at h; exact SeqAt.EqAt.int_str i t y u _ _ _ _ h
  ·rcases keyIs_shape hv with ⟨j, u, rfl, rfl⟩ | ⟨y, u, rfl, rfl⟩
   ·rw [key_rl] at h; exact SeqAt.EqAt.str_int x t j u _ _ _ _ h
   ·rw [key_rr] at h; exact wpAny_eqBool_str h
 «strs» := fun k x t v h => by
  rcases keyIs_shape h with ⟨i, u, rfl, e⟩ | ⟨y, u, rfl, e⟩
  ·exact nomatch e
  ·injection e with e1 _
   subst e1
   cases v <;> rfl
end L2
namespace L2
open PySem PySem.Spec PyProof.Rows
inductive V where
 | non | bl (b : Bool) | int (i : Int) | str (x : Str) | byt (b : Array UInt8) | flt (b : UInt64) | ref (a : Addr) | ty (n : String)
 deriving DecidableEq
def RelV : V → Value → Prop
 | .non, u => u = Value.none
 | .bl b, u => u = Value.bool b
 | .int i, u => ∃ t, u = Value.int i t
 | .str x, u => ∃ t, u = Value.str x t
 | .byt b, u => ∃ t, u = Value.bytes b t
 | .flt b, u => ∃ t, u = Value.float b t
 | .ref a, u => u = Value.ref a
 | .ty n, u => u = Value.type n
abbrev Vals : List V → List Value → Prop := Paired RelV
theorem Vals.length {xs : List V} {us : List Value} (r : Vals xs us) : xs.length = us.length := Paired.length r
theorem Vals.get : ∀ {xs : List V} {us : List Value} {i : Nat} {x : V}, Vals xs us → xs[i]? = some x → ∃ u, us[i]? = some u ∧ RelV x u
 | _, _, _, _, .nil, e => by simp at e
 | _, _, 0, _, .cons r _, e => by simp at e; subst e; exact ⟨_, rfl, r⟩
 | _, _, i + 1, x, .cons _ t, e => by
  obtain ⟨u, h1, h2⟩ := Vals.get (i := i) (x := x) t (by simpa using e)
  exact ⟨u, by simpa using h1, h2⟩
theorem Vals.set {x : V} {u : Value} (r : RelV x u) : ∀ {xs : List V} {us : List Value} (i : Nat), Vals xs us → Vals (xs.set i x) (us.set i u)
 | _, _, _, .nil => .nil
 | _, _, 0, .cons _ t => .cons r t
 | _, _, i + 1, .cons q t => .cons q (Vals.set r i t)
theorem Vals.append : ∀ {xs ys : List V} {us ws : List Value}, Vals xs us → Vals ys ws → Vals (xs ++ ys) (us ++ ws)
 | _, _, _, _, .nil, s => s
 | _, _, _, _, .cons r t, s => .cons r (Vals.append t s)
theorem Vals.take : ∀ {xs : List V} {us : List Value} (n : Nat), Vals xs us → Vals (xs.take n) (us.take n)
 | _, _, 0, _ => .nil
 | _, _, _ + 1, .nil => .nil
 | _, _, n + 1, .cons r t => .cons r (Vals.take n t)
theorem Vals.drop : ∀ {xs : List V} {us : List Value} (n : Nat), Vals xs us → Vals (xs.drop n) (us.drop n)
 | _, _, 0, r => r
 | _, _, _ + 1, .nil => .nil
 | _, _, n + 1, .cons _ t => Vals.drop n t
def RelO : Option V → Option Value → Prop
 | some v, some u => RelV v u
 | none, none => True
 | _, _ => False
def KV {κ : Type} : List (κ × V) → List (κ × Value) → Prop := Paired fun (p : κ × V) (q : κ × Value) => p.1 = q.1 ∧ RelV p.2 q.2
def kV : Key → V
 | .inl i => .int i
 | .inr x => .str x
inductive HO where
  | lst (xs : List V)
  | tup (xs : List V)
  | dK (kvs : List (Key × V)) | dT (kvs : List (List Key × V))
  | set (S : Int → Bool) (n : Nat)
  | ins (C dx : Addr) (fs : List (Str × V))
  | own (x : Addr)
  | xd (fs : List (Str × V))
  | met (f x : Addr)
  | rng (lo hi : Int)
  | frz (o : Obj) (u : HO)
  | tbl (ps : Array Value)
  | ext (φ : Heap → Prop)
abbrev Hp := Addr → Option HO
def upd (H : Hp) (a : Addr) (o : HO) : Hp := fun b => if b = a then some o else H b
theorem zW {H : Hp} {a : Addr} {o : HO} : upd H a o a = some o := by unfold upd; rw [if_pos rfl]
theorem zO {H : Hp} {a b : Addr} {o : HO} (h : b ≠ a) : upd H a o b = H b := by unfold upd; rw [if_neg h]
theorem ne_of_none {H : Hp} {a b : Addr} {o : HO} (h : H a = some o) (h' : H b = none) : a ≠ b := by
 intro e; subst e; rw [h] at h'; cases h'
section
variable (P : Program) (w : World)
def ObjOk (H : Hp) (h : Heap) (a : Addr) : HO → Prop
 | .lst xs => xs.length ≤ sizeLine ∧ ∃ (its : List Value) (n : Nat), Vals xs its ∧ h.get? a = some { cls := .type "list", data := .seq its.toArray n }
 | .tup xs => xs.length ≤ sizeLine ∧ ∃ its : List Value, Vals xs its ∧ IsTup h a its.toArray
 | .dK kvs => kvs.length ≤ sizeLine ∧ (a == sysModules) = false ∧ ∃ vs, KV kvs vs ∧ h.DictOf (mixKind P w) a vs
 | .dT kvs => kvs.length ≤ sizeLine ∧ (a == sysModules) = false ∧ ∃ xs : List (List Key × Addr × Value),
   Paired (fun (p : List Key × V) (q : List Key × Addr × Value) => p.1 = q.1 ∧ H q.2.1 = some (.tup (p.1.map kV)) ∧ RelV p.2 q.2.2) kvs xs ∧
   ∃ o es ep, h.get? a = some o ∧ o.ExactDict ∧ o.data = .dict es ep ∧ es.toList = xs.map (entryOfKey (tupleKind (mixKind P w))) ∧ (xs.map (·.1)).Nodup
 | .set S n => h.SetOf (intKind P w) a S n
 | .ins C dx fs => H dx = some (.own a) ∧ fs.length ≤ 1000 ∧ dx ≠ a ∧ h.get? a = some (PySem.W.instObj C dx) ∧
   ∃ mA, h.Ns1 dx mA ∧ (∀ f, RelO (fs.lookup f) (mA f)) ∧ PySem.Within mA (fs.map (·.1))
 | .own _ => ∃ o, h.get? a = some o
 | .xd fs => ∃ mA, h.Ns1 a mA ∧ ∀ f, RelO (fs.lookup f) (mA f)
 | .rng lo hi => ∃ t u v, h.get? a = some { cls := .type "range", data := .fields #[.int lo t, .int hi u, .int 1 v] }
 | .frz o u => h.get? a = some o ∧ ObjOk H h a u
 | .tbl ps => h.get? a = some { cls := .none, data := .fields ps }
 | .met f x => h.get? a = some (PySem.W.methodObj (.ref f) (.ref x))
 | .ext φ => φ h ∧ (∃ o, h.get? a = some o) ∧ ∀ h1 h2 : Heap, φ h1 → (∀ o, h1.get? a = some o → h2.get? a = some o) → φ h2
def HOk (H : Hp) (h : Heap) : Prop := ∀ a o, H a = some o → ObjOk P w H h a o
end
section
variable {P : Program} {w : World} {H H' : Hp} {h h' : Heap} {a : Addr} {o : HO}
theorem ObjOk.lt (x : ObjOk P w H h a o) : a < h.objs.size := by
 cases o with
 | lst xs => obtain ⟨_, _, _, _, e⟩ := x; exact Heap.lt_size e
 | tup xs => obtain ⟨_, _, _, p⟩ := x; exact p.lt
 | dK kvs => obtain ⟨_, _, _, _, o, _, _, e, _⟩ := x; exact Heap.lt_size e
 | dT kvs => obtain ⟨_, _, _, _, o, _, _, e, _⟩ := x; exact Heap.lt_size e
 | set S n => obtain ⟨o, _, _, _, e, _⟩ := x; exact Heap.lt_size e
 | ins C dx fs => obtain ⟨_, _, _, e, _⟩ := x; exact Heap.lt_size e
 | own y => obtain ⟨_, e⟩ := x; exact Heap.lt_size e
 | xd fs => obtain ⟨_, ⟨_, _, _, e, _⟩, _⟩ := x; exact Heap.lt_size e
 | rng lo hi => obtain ⟨_, _, _, e⟩ := x; exact Heap.lt_size e
 | frz ob u => obtain ⟨e, _⟩ := x; exact Heap.lt_size e
 | tbl ps => exact Heap.lt_size (show h.get? a = some _ from x)
 | met f y => exact Heap.lt_size (show h.get? a = some _ from x)
 | ext φ => obtain ⟨_, ⟨_, e⟩, _⟩ := x; exact Heap.lt_size e
theorem Paired.mapP {α β : Type} {F G : α → β → Prop} : ∀ {l₁ : List α} {l₂ : List β}, Paired F l₁ l₂ → (∀ a b, F a b → G a b) → Paired G l₁ l₂
 | _, _, .nil, _ => .nil
 | _, _, .cons r t, f => .cons (f _ _ r) (Paired.mapP t f)
theorem ObjOk.stay (x : ObjOk P w H h a o) (k : ∀ b u, (b = a ∨ H b = some (.own a)) → h.get? b = some u → h'.get? b = some u)
  (ho : ∀ b, H b = some (.own a) → H' b = some (.own a)) (ht : ∀ b xs, H b = some (.tup xs) → H' b = some (.tup xs)) : ObjOk P w H' h' a o := by
 induction o with
 | lst xs => obtain ⟨z, its, n, r, e⟩ := x; exact ⟨z, its, n, r, k _ _ (.inl rfl) e⟩
 | tup xs => obtain ⟨z, its, r, ob, e, c⟩ := x; exact ⟨z, its, r, ob, k _ _ (.inl rfl) e, c⟩
 | dK kvs => obtain ⟨z, y, vs, r, ob, es, ep, e, c⟩ := x; exact ⟨z, y, vs, r, ob, es, ep, k _ _ (.inl rfl) e, c⟩
 | dT kvs =>
  obtain ⟨z, y, xs, r, ob, es, ep, e, c⟩ := x
  exact ⟨z, y, xs, Paired.mapP r fun p q z => ⟨z.1, ht _ _ z.2.1, z.2.2⟩, ob, es, ep, k _ _ (.inl rfl) e, c⟩
 | set S n => obtain ⟨ob, es, ep, t, e, c⟩ := x; exact ⟨ob, es, ep, t, k _ _ (.inl rfl) e, c⟩
 | ins C dx fs =>
  obtain ⟨d, z, ne, e, mA, ⟨od, es, ep, e2, c⟩, r⟩ := x
  exact ⟨ho _ d, z, ne, k _ _ (.inl rfl) e, mA, ⟨od, es, ep, k _ _ (.inr d) e2, c⟩, r⟩
 | own y => obtain ⟨ob, e⟩ := x; exact ⟨ob, k _ _ (.inl rfl) e⟩
 | xd fs => obtain ⟨mA, ⟨od, es, ep, e, c⟩, r⟩ := x; exact ⟨mA, ⟨od, es, ep, k _ _ (.inl rfl) e, c⟩, r⟩
 | rng lo hi => obtain ⟨t, u, v, e⟩ := x; exact ⟨t, u, v, k _ _ (.inl rfl) e⟩
 | frz ob u ih => obtain ⟨e, q⟩ := x; exact ⟨k _ _ (.inl rfl) e, ih q⟩
 | tbl ps =>
  have e : h.get? a = some { cls := .none, data := .fields ps } := x
  show h'.get? a = some { cls := .none, data := .fields ps }
  exact k a _ (.inl rfl) e
 | met f y =>
  have e : h.get? a = some (PySem.W.methodObj (.ref f) (.ref y)) := x
  show h'.get? a = some (PySem.W.methodObj (.ref f) (.ref y))
  exact k a _ (.inl rfl) e
 | ext φ => obtain ⟨p, ⟨o, e⟩, st⟩ := x; exact ⟨st _ _ p fun o q => k _ _ (.inl rfl) q, ⟨o, k _ _ (.inl rfl) e⟩, st⟩
theorem HOk.lt (x : HOk P w H h) (e : H a = some o) : a < h.objs.size := (x a o e).lt
theorem HOk.fresh (x : HOk P w H h) (e : h.objs.size ≤ a) : H a = none := by
 cases q : H a with
 | none => rfl
 | some u => exact absurd (Nat.lt_of_lt_of_le (x.lt q) e) (Nat.lt_irrefl _)
theorem HOk.kept (x : HOk P w H h) (k : ∀ b u, h.get? b = some u → h'.get? b = some u) : HOk P w H h' := fun a o e =>
 (x a o e).stay (fun b u _ q => k b u q) (fun _ q => q) fun _ _ q => q
theorem HOk.laid (x : HOk P w H h) (k : ∀ b u, h.get? b = some u → h'.get? b = some u) (hp : h.objs.size ≤ a) (new : ObjOk P w (upd H a o) h' a o) : HOk P w (upd H a o) h' := fun b u e => by
 have hn := x.fresh hp
 by_cases hb : b = a
 ·subst hb; rw [zW] at e; cases e; exact new
 ·rw [zO hb] at e
  exact (x b u e).stay (fun c v _ q => k c v q) (fun c q => by rw [zO (ne_of_none q hn)]; exact q) fun c xs q => by rw [zO (ne_of_none q hn)]; exact q
end
def Rd (H : Hp) (a : Addr) (u : HO) : Prop := H a = some u ∨ ∃ o, H a = some (.frz o u)
theorem Rd.ok {P : Program} {w : World} {H : Hp} {h : Heap} {a : Addr} {u : HO} (r : Rd H a u) (x : HOk P w H h) : ObjOk P w H h a u := by
 rcases r with r | ⟨o, r⟩
 ·exact x a u r
 ·obtain ⟨_, q⟩ := x a _ r
  exact q
def Mut : Option HO → Prop
 | some (.lst _) => True
 | some (.dK _) => True
 | some (.dT _) => True
 | some (.set _ _) => True
 | some (.ins _ _ _) => True
 | some (.ext _) => True
 | _ => False
section
variable {P : Program} {w : World} {H : Hp} {h h' : Heap} {x e : Addr} {o' : HO}
theorem HOk.write (ok : HOk P w H h) (mu : Mut (H x)) (he : e = x ∨ H e = some (.own x)) (k : ∀ b u, b ≠ e → h.get? b = some u → h'.get? b = some u) (heo : ∃ u, h'.get? e = some u)
  (new : ObjOk P w (upd H x o') h' x o') : HOk P w (upd H x o') h' := fun b u q => by
 have nown : ∀ c y, H c = some (.own y) → c ≠ x := fun c y r z => by subst z; rw [r] at mu; exact mu
 have ntup : ∀ c xs, H c = some (.tup xs) → c ≠ x := fun c xs r z => by subst z; rw [r] at mu; exact mu
 by_cases hb : b = x
 ·subst hb; rw [zW] at q; cases q; exact new
 ·rw [zO hb] at q
  by_cases hbe : b = e
  ·have q' : H b = some (.own x) := by
    rcases he with z | z
    ·exact absurd (hbe.trans z) hb
    ·rw [hbe]; exact z
   rw [q] at q'; cases q'
   obtain ⟨v, hv⟩ := heo
   exact ⟨v, by rw [hbe]; exact hv⟩
  ·refine (ok b u q).stay (fun c v hc r => k c v ?_ r) (fun c r => by rw [zO (nown c b r)]; exact r) fun c xs r => by rw [zO (ntup c xs r)]; exact r
   rcases hc with rfl | hc
   ·exact hbe
   ·rintro rfl
    rcases he with z | z
    ·exact nown c b hc z
    ·rw [hc] at z; cases z; exact hb rfl
end
structure Un (fs ex : List Addr) (H H' : Hp) (h h' : Heap) : Prop where
 keep : ∀ b o, h.get? b = some o → H b = none → b ∉ fs → b ∉ ex → h'.get? b = some o
 slot : ∀ b o, h.get? b = some o → H b = none → b ∈ fs → b ∉ ex → ∃ sl, h'.get? b = some { o with slots := sl }
 free : ∀ b o, h.get? b = some o → H b = none → b ∉ ex → H' b = none
 there : ∀ b o, h.get? b = some o → b ∉ ex → ∃ o', h'.get? b = some o'
 tups : ∀ b xs, H b = some (.tup xs) → H' b = some (.tup xs)
 frzs : ∀ b o u, H b = some (.frz o u) → H' b = some (.frz o u)
 tbls : ∀ b ps, H b = some (.tbl ps) → ∃ more, H' b = some (.tbl (ps ++ more))
section
variable {fs fs' ex ex' : List Addr} {H H1 H2 : Hp} {h h1 h2 h' : Heap} {a x e : Addr} {o : HO}
theorem Un.any (u : Un fs ex H H1 h h1) {b : Addr} {ob : Obj} (q : h.get? b = some ob) (n : H b = none) (hx : b ∉ ex) : ∃ sl, h1.get? b = some { ob with slots := sl } := by
 by_cases hb : b ∈ fs
 ·exact u.slot b ob q n hb hx
 ·exact ⟨ob.slots, u.keep b ob q n hb hx⟩
theorem Un.kept (k : ∀ b u, h.get? b = some u → h'.get? b = some u) : Un fs ex H H h h' :=
 ⟨fun b ob q _ _ _ => k b ob q, fun b ob q _ _ _ => ⟨ob.slots, k b ob q⟩, fun _ _ _ n _ => n, fun b ob q _ => ⟨ob, k b ob q⟩, fun _ _ q => q, fun _ _ _ q => q, fun _ ps q => ⟨#[], by rw [q]; simp⟩⟩
theorem Un.refl : Un fs ex H H h h := Un.kept fun _ _ q => q
theorem Un.laid (k : ∀ b u, h.get? b = some u → h'.get? b = some u) (hp : h.objs.size ≤ a) (hn : H a = none) : Un fs ex H (upd H a o) h h' where
 keep := fun b u q _ _ _ => k b u q
 slot := fun b u q _ _ _ => ⟨u.slots, k b u q⟩
 free := fun b u q n _ => by rw [zO (Nat.ne_of_lt (Nat.lt_of_lt_of_le (Heap.lt_size q) hp))]; exact n
 there := fun b u q _ => ⟨u, k b u q⟩
 tups := fun b xs q => by rw [zO (ne_of_none q hn)]; exact q
 frzs := fun b u xs q => by rw [zO (ne_of_none q hn)]; exact q
 tbls := fun b ps q => ⟨#[], by rw [zO (ne_of_none q hn), q]; simp⟩
theorem Un.write (mu : Mut (H x)) (he : e = x ∨ H e = some (.own x)) (k : ∀ b u, b ≠ e → h.get? b = some u → h'.get? b = some u) (heo : ∃ u, h'.get? e = some u) : Un fs ex H (upd H x o) h h' := by
 have hx : ∀ b, H b = none → b ≠ x := fun b n z => by subst z; rw [n] at mu; exact mu
 have hb : ∀ b, H b = none → b ≠ e := fun b n z => by
  subst z
  rcases he with r | r
  ·exact hx b n r
  ·rw [n] at r; cases r
 have hm : ∀ b u, H b = some u → ¬ Mut (some u) → b ≠ x := fun b u q nm z => by subst z; rw [q] at mu; exact nm mu
 refine ⟨fun b u q n _ _ => k b u (hb b n) q, fun b u q n _ _ => ⟨u.slots, k b u (hb b n) q⟩, fun b u q n _ => by rw [zO (hx b n)]; exact n, fun b u q _ => ?_,
  fun b xs q => by rw [zO (hm b _ q fun z => z)]; exact q, fun b u xs q => by rw [zO (hm b _ q fun z => z)]; exact q, fun b ps q => ⟨#[], by rw [zO (hm b _ q fun z => z), q]; simp⟩⟩
 by_cases hbe : b = e
 ·subst hbe; exact heo
 ·exact ⟨u, k b u hbe q⟩
end
def trk (h : Heap) (H : Hp) : List Addr := (List.range h.objs.size).filter fun a => (H a).isSome
def hidT (h : Heap) (H : Hp) : Heap := PySem.W.hideAll h (trk h H)
theorem hidT_size (h : Heap) (H : Hp) : (hidT h H).objs.size = h.objs.size := PySem.W.hideAll_size _ _
theorem hidT_get {h : Heap} {H : Hp} {b : Addr} {o : Obj} (e : h.get? b = some o) (n : H b = none) : (hidT h H).get? b = some o :=
 PySem.W.hideAll_get _ e fun hm => by
  have q : (H b).isSome = true := (List.mem_filter.mp hm).2
  rw [n] at q; simp at q
theorem of_hidT {h : Heap} {H : Hp} {b : Addr} {o : Obj} (e : (hidT h H).get? b = some o) : h.get? b = some o ∧ H b = none := by
 have e' : h.get? b = some o := PySem.W.of_hideAll (trk h H) e
 refine ⟨e', ?_⟩
 cases q : H b with
 | none => rfl
 | some x =>
  have hm : b ∈ trk h H := List.mem_filter.mpr ⟨List.mem_range.mpr (Heap.lt_size e'), by simp [q]⟩
  have z : (hidT h H).get? b = none := PySem.W.hideAll_none (trk h H) hm
  rw [z] at e; cases e
def allNews (g h : Heap) (L : Addr) : List (Addr × Obj) := (List.range h.objs.size).filterMap fun a => if a = L ∨ (g.get? a).isSome = true then none else (h.get? a).map fun o => (a, o)
def rest (g h : Heap) (L d : Addr) : List (Addr × Obj) := (allNews g h L).filter fun p => decide (p.1 ≠ d)
end L2
namespace L2
open PySem PySem.Spec PyProof.Rows
structure Mod (K : PySem.W.Frag) (mg : Str → Option Value) (base : Heap) : Prop where
 kin : K.In base
 glob : base.Ns mainGlobals mg
 blt : ∃ mb, base.Ns builtinsNs mb ∧ ∀ x : Str, x ≠ "__name__" → mb x = bootBuiltins x
 nolimit : base.NoLimit
 seer : base.NoSeer
structure Cx where
 prog : Program
 w : World
 K : PySem.W.Frag
 mg : Str → Option Value
 base : Heap
 A : Around
 N : List Str
 s₀ : Shared
 H₀ : Hp
 env : Env
 outer : List Env
 stack : List Env
 ex : List Addr
 fn : Str → Bool
 calm : Bool
 pn : List (Addr × Obj)
 xe : Value → Shared → Prop
def frs (l : List Env) : List Addr := l.filterMap (·.frame)
abbrev Cx.fs (X : Cx) : List Addr := frs X.outer
def Vis (sc : Scope) (x : Str) : Prop := sc.names.lookup x = some .local ∨ sc.names.lookup x = some .cell ∨ sc.names.lookup x = some .free
def Loc (sc : Scope) (x : Str) : Prop := sc.names.lookup x = some .local ∨ sc.names.lookup x = some .cell
def Look (env : Env) (h : Heap) (m : Str → Option Value) (x : Str) (u : Value) : Prop :=
 (env.kindOf x = some .local ∧ m x = some u) ∨ ((env.kindOf x = some .cell ∨ env.kindOf x = some .free) ∧ ∃ c, env.cells.lookup x = some c ∧ h.IsCell c (some u))
structure Cx.Ok (X : Cx) : Prop where
 mod : Mod X.K X.mg X.base
 kind : X.env.scope.kind = .function
 glob : X.env.globals = mainGlobals
 blt : X.env.builtins = builtinsNs
 above : X.s₀.heap.objs.size ≤ X.env.locals
 inj : ∀ x y c, X.env.cells.lookup x = some c → X.env.cells.lookup y = some c → x = y
 has : ∀ x, (X.env.kindOf x = some .cell ∨ X.env.kindOf x = some .free) → ∃ c, X.env.cells.lookup x = some c
 cab : ∀ x c, X.fn x = true → X.env.cells.lookup x = some c → X.s₀.heap.objs.size ≤ c
 hd : X.calm = true → X.A.handled = none
 frames : X.A.frames = some X.stack
 stk : X.stack = X.outer ∨ (X.stack = X.env :: X.outer ∧ X.env.frame = some X.env.locals)
 exf : ∀ b ∈ X.ex, b ≠ X.env.locals ∧ ∀ x c, X.env.cells.lookup x = some c → c ≠ b
 bs : ∀ b o, X.base.get? b = some o → X.s₀.heap.get? b = some o ∧ X.H₀ b = none
 bsz : X.base.objs.size ≤ X.s₀.heap.objs.size
 noex : ∀ b o, X.base.get? b = some o → b ∉ X.ex
 exfs : ∀ b ∈ X.ex, b ∉ X.fs
 funs : X.s₀.heap.FunFrames X.base X.outer
 frf : ∀ b ∈ X.fs, X.H₀ b = none
structure Inv (X : Cx) (pins : List (Addr × Obj)) (σ : List (Option V)) (H : Hp) (s : Shared) : Prop where
 ok : X.Ok
 os : s.os = X.s₀.os
 bare : AllBare s.gens
 base : Un X.fs X.ex X.H₀ H X.s₀.heap s.heap
 loc : ∃ m, s.heap.Ns X.env.locals m ∧ ∀ (i : Nat) (x : Str) (v : V), X.N[i]? = some x → σ[i]? = some (some v) → Vis X.env.scope x → ∃ u, RelV v u ∧ Look X.env s.heap m x u
 cell : ∀ x c, X.env.cells.lookup x = some c → ∃ v, s.heap.IsCell c v
 free : H X.env.locals = none
 freeC : ∀ x c, X.env.cells.lookup x = some c → H c = none
 pin : ∀ p ∈ X.pn ++ pins, s.heap.get? p.1 = some p.2 ∧ H p.1 = none ∧ p.1 ≠ X.env.locals ∧ p.1 ∉ X.fs ∧ ∀ v, p.2.data ≠ .cell v
 hok : HOk X.prog X.w H s.heap
 len : σ.length = X.N.length
section
variable {X : Cx} {pins : List (Addr × Obj)} {σ : List (Option V)} {H H' : Hp} {s : Shared} {h' : Heap}
theorem Cx.Ok.nofr (ok : X.Ok) {b : Addr} {o : Obj} (e : X.base.get? b = some o) : b ∉ X.fs := fun hb => by
 have := (ok.funs.mem hb).1
 rw [e] at this; cases this
theorem Inv.bs (I : Inv X pins σ H s) : ∀ b o, X.base.get? b = some o → s.heap.get? b = some o ∧ H b = none := fun b o e =>
 ⟨I.base.keep b o (I.ok.bs b o e).1 (I.ok.bs b o e).2 (I.ok.nofr e) (I.ok.noex b o e), I.base.free b o (I.ok.bs b o e).1 (I.ok.bs b o e).2 (I.ok.noex b o e)⟩
theorem Inv.bk (I : Inv X pins σ H s) : ∀ b o, X.base.get? b = some o → s.heap.get? b = some o := fun b o e => (I.bs b o e).1
theorem Inv.mod (I : Inv X pins σ H s) : Mod X.K X.mg X.base := I.ok.mod
theorem Inv.kIn (I : Inv X pins σ H s) : X.K.In s.heap := I.ok.mod.kin.keeps I.bk
theorem Inv.lt (I : Inv X pins σ H s) : X.env.locals < s.heap.objs.size := let ⟨_, hn, _⟩ := I.loc; hn.lt
theorem Inv.sz (I : Inv X pins σ H s) : X.s₀.heap.objs.size ≤ s.heap.objs.size := Nat.le_trans I.ok.above (Nat.le_of_lt I.lt)
theorem Inv.nofs (I : Inv X pins σ H s) {a : Addr} (h : s.heap.objs.size ≤ a) : a ∉ X.fs := fun hb => by
 obtain ⟨_, o, ho, _⟩ := I.ok.funs.mem hb
 exact absurd (Nat.lt_of_lt_of_le (Heap.lt_size ho) (Nat.le_trans I.sz h)) (Nat.lt_irrefl _)
theorem Inv.cne (I : Inv X pins σ H s) : ∀ x c, X.env.cells.lookup x = some c → c ≠ X.env.locals := fun x c e z => by
 obtain ⟨v, o, ho, hd⟩ := I.cell x c e
 obtain ⟨m, ⟨o', es, ep, ho', hd', _⟩, _⟩ := I.loc
 rw [z, ho'] at ho; cases ho; rw [hd'] at hd; cases hd
theorem Inv.funs (I : Inv X pins σ H s) : s.heap.FunFrames X.base X.outer := by
 have all : ∀ (l : List Env), (∀ b ∈ frs l, b ∈ X.fs) → X.s₀.heap.FunFrames X.base l → s.heap.FunFrames X.base l := by
  intro l
  induction l with
  | nil => intro _ _; trivial
  | cons env r ih =>
   intro hs hl
   obtain ⟨hk, ⟨L, o, hf, hn, ho, hd⟩, hr⟩ := hl
   have hL : L ∈ X.fs := hs L (by unfold frs; rw [List.filterMap_cons, hf]; exact List.mem_cons_self)
   obtain ⟨sl, e⟩ := I.base.slot L o ho (I.ok.frf L hL) hL fun z => I.ok.exfs L z hL
   exact ⟨hk, ⟨L, _, hf, hn, e, hd⟩, ih (fun b hb => hs b (by unfold frs; rw [List.filterMap_cons, hf]; exact List.mem_cons_of_mem _ hb)) hr⟩
 exact all X.outer (fun _ hb => hb) I.ok.funs
theorem Inv.stack (I : Inv X pins σ H s) : s.heap.FunFrames X.base X.stack := by
 rcases I.ok.stk with e | ⟨e, hf⟩
 ·rw [e]; exact I.funs
 ·rw [e]
  obtain ⟨m, hn, _⟩ := I.loc
  refine .cons (by rw [I.ok.kind]; decide) hf hn ?_ I.funs
  exact Heap.get?_none_of_le (Nat.le_trans I.ok.bsz I.ok.above)
theorem Inv.stkSub (I : Inv X pins σ H s) : ∀ b ∈ frs X.stack, b ∈ X.env.locals :: X.fs := fun b hb => by
 rcases I.ok.stk with e | ⟨e, hf⟩
 ·rw [e] at hb; exact List.mem_cons_of_mem _ hb
 ·rw [e] at hb
  unfold frs at hb
  rw [List.filterMap_cons, hf] at hb
  exact hb
theorem Inv.stkFree (I : Inv X pins σ H s) : ∀ b ∈ frs X.stack, H b = none := fun b hb => by
 rcases List.mem_cons.mp (I.stkSub b hb) with e | hb
 ·rw [e]; exact I.free
 ·obtain ⟨_, o, ho, _⟩ := I.ok.funs.mem hb
  exact I.base.free b o ho (I.ok.frf b hb) fun z => I.ok.exfs b z hb
theorem Inv.step {g' : Array GenState} {t' : Nat} {d' : Drawn} {ch : List Addr} (I : Inv X pins σ H s)
  (hch : ∀ b ∈ ch, (b ∈ X.ex ∨ X.s₀.heap.objs.size ≤ b) ∧ b ≠ X.env.locals ∧ (∀ x c, X.env.cells.lookup x = some c → c ≠ b) ∧ ∀ p ∈ X.pn ++ pins, p.1 ≠ b)
  (keep : ∀ b o, b ≠ X.env.locals → b ∉ X.fs → b ∉ ch → s.heap.get? b = some o → H b = none → h'.get? b = some o)
  (slot : ∀ b o, b ≠ X.env.locals → b ∈ X.fs → b ∉ ch → s.heap.get? b = some o → H b = none → ∃ sl, h'.get? b = some { o with slots := sl }) (free : ∀ b o, b ∉ ch → s.heap.get? b = some o → H b = none → H' b = none)
  (there : ∀ b o, b ∉ ch → s.heap.get? b = some o → ∃ o', h'.get? b = some o')
  (tups : ∀ b xs, H b = some (.tup xs) → H' b = some (.tup xs)) (frzs : ∀ b o u, H b = some (.frz o u) → H' b = some (.frz o u)) (tbls : ∀ b ps, H b = some (.tbl ps) → ∃ more, H' b = some (.tbl (ps ++ more)))
  (ns : ∀ m, s.heap.Ns X.env.locals m → h'.Ns X.env.locals m) (hok : HOk X.prog X.w H' h') (hg : AllBare g') :
  Inv X pins σ H' { s with heap := h', gens := g', drawn := d', toks := t' } := by
 have neL : ∀ b o, X.s₀.heap.get? b = some o → b ≠ X.env.locals := fun b o e => Nat.ne_of_lt (Nat.lt_of_lt_of_le (Heap.lt_size e) I.ok.above)
 have neC : ∀ b o, X.s₀.heap.get? b = some o → b ∉ X.ex → b ∉ ch := fun b o e hx hb => by
  rcases (hch b hb).1 with z | z
  ·exact hx z
  ·exact absurd (Nat.lt_of_lt_of_le (Heap.lt_size e) z) (Nat.lt_irrefl _)
 have cellK : ∀ x c, X.env.cells.lookup x = some c → ∀ v, s.heap.IsCell c v → h'.IsCell c v := fun x c e v ⟨o, ho, hd⟩ => by
  have nch : c ∉ ch := fun z => (hch c z).2.2.1 x c e rfl
  by_cases hc : c ∈ X.fs
  ·obtain ⟨sl, q⟩ := slot c o (I.cne x c e) hc nch ho (I.freeC x c e)
   exact ⟨_, q, hd⟩
  ·exact ⟨o, keep c o (I.cne x c e) hc nch ho (I.freeC x c e), hd⟩
 refine ⟨I.ok, I.os, hg, ⟨fun b o e n hb hx => ?_, fun b o e n hb hx => ?_, fun b o e n hx => ?_, fun b o e hx => ?_, fun b xs e => tups b xs (I.base.tups b xs e), fun b o xs e => frzs b o xs (I.base.frzs b o xs e), fun b ps e => ?_⟩, ?_, fun x c e => ?_, ?_, fun x c e => ?_, fun p hp => ?_, hok, I.len⟩
 ·exact keep b o (neL b o e) hb (neC b o e hx) (I.base.keep b o e n hb hx) (I.base.free b o e n hx)
 ·obtain ⟨sl, e1⟩ := I.base.slot b o e n hb hx
  obtain ⟨sl', e2⟩ := slot b _ (neL b o e) hb (neC b o e hx) e1 (I.base.free b o e n hx)
  exact ⟨sl', e2⟩
 ·obtain ⟨o', e1⟩ := I.base.there b o e hx
  exact free b o' (neC b o e hx) e1 (I.base.free b o e n hx)
 ·obtain ⟨o', e1⟩ := I.base.there b o e hx
  exact there b o' (neC b o e hx) e1
 ·obtain ⟨m1, e1⟩ := I.base.tbls b ps e
  obtain ⟨m2, e2⟩ := tbls b _ e1
  exact ⟨m1 ++ m2, by rw [e2, Array.append_assoc]⟩
 ·obtain ⟨m, hn, hl⟩ := I.loc
  refine ⟨m, ns m hn, fun i x v e1 e2 e3 => ?_⟩
  obtain ⟨u, r, l⟩ := hl i x v e1 e2 e3
  refine ⟨u, r, ?_⟩
  rcases l with l | ⟨k, c, e, z⟩
  ·exact .inl l
  ·exact .inr ⟨k, c, e, cellK x c e _ z⟩
 ·obtain ⟨v, z⟩ := I.cell x c e
  exact ⟨v, cellK x c e v z⟩
 ·obtain ⟨m, ⟨o, _, _, ho, _⟩, _⟩ := I.loc
  exact free _ o (fun z => (hch _ z).2.1 rfl) ho I.free
 ·obtain ⟨v, o, ho, hd⟩ := I.cell x c e
  exact free c o (fun z => (hch c z).2.2.1 x c e rfl) ho (I.freeC x c e)
 ·obtain ⟨e, n, ne, nf, d⟩ := I.pin p hp
  have nch : p.1 ∉ ch := fun z => (hch p.1 z).2.2.2 p hp rfl
  exact ⟨keep p.1 p.2 ne nf nch e n, free p.1 p.2 nch e n, ne, nf, d⟩
theorem Inv.un {t' : Nat} (I : Inv X pins σ H s) (u : Un X.fs [] H H' s.heap h') (hok : HOk X.prog X.w H' h') : Inv X pins σ H' { s with heap := h', toks := t' } := by
 obtain ⟨m, ⟨o, es, ep, ho, r⟩, _⟩ := id I.loc
 obtain ⟨sl, hL⟩ := u.any ho I.free (by simp)
 exact I.step (g' := s.gens) (d' := s.drawn) (ch := []) (fun _ z => nomatch z) (fun b o _ hb _ e n => u.keep b o e n hb (by simp)) (fun b o _ hb _ e n => u.slot b o e n hb (by simp)) (fun b o _ e n => u.free b o e n (by simp)) (fun b o _ e => u.there b o e (by simp)) u.tups u.frzs u.tbls (fun m' hm => by
  obtain ⟨o', es', ep', ho', r'⟩ := hm
  rw [ho] at ho'; cases ho'
  exact ⟨_, es', ep', hL, r'⟩) hok I.bare
theorem Inv.call {g' : Array GenState} {t' : Nat} {d' : Drawn} {ch : List Addr} (I : Inv X pins σ H s) (u : Un (frs X.stack) ch H H' s.heap h') (hok : HOk X.prog X.w H' h') (hg : AllBare g')
  (hch : ∀ b ∈ ch, (b ∈ X.ex ∨ X.s₀.heap.objs.size ≤ b) ∧ b ≠ X.env.locals ∧ (∀ x c, X.env.cells.lookup x = some c → c ≠ b) ∧ ∀ p ∈ X.pn ++ pins, p.1 ≠ b) :
  Inv X pins σ H' { s with heap := h', gens := g', drawn := d', toks := t' } := by
 obtain ⟨m, ⟨o, es, ep, ho, r⟩, _⟩ := id I.loc
 obtain ⟨sl, hL⟩ := u.any ho I.free fun z => (hch _ z).2.1 rfl
 exact I.step (ch := ch) hch (fun b o hL hb hc e n => u.keep b o e n (fun z => (List.mem_cons.mp (I.stkSub b z)).elim hL hb) hc) (fun b o _ _ hc e n => u.any e n hc) (fun b o hc e n => u.free b o e n hc) (fun b o hc e => u.there b o e hc) u.tups u.frzs u.tbls (fun m' hm => by
  obtain ⟨o', es', ep', ho', r'⟩ := hm
  rw [ho] at ho'; cases ho'
  exact ⟨_, es', ep', hL, r'⟩) hok hg
theorem Inv.turned {t' : Nat} {it : Addr} (I : Inv X pins σ H s) (k : ∀ b o, b ≠ it → s.heap.get? b = some o → h'.get? b = some o) (hn : H it = none) (hL : it ≠ X.env.locals)
  (h1 : it ∈ X.ex ∨ X.s₀.heap.objs.size ≤ it) (h2 : ∀ x c, X.env.cells.lookup x = some c → c ≠ it) (h3 : ∀ p ∈ X.pn ++ pins, p.1 ≠ it) : Inv X pins σ H { s with heap := h', toks := t' } := by
 have nit : ∀ b u, H b = some u → b ≠ it := fun b u e z => by rw [z, hn] at e; cases e
 refine I.step (g' := s.gens) (d' := s.drawn) (ch := [it]) (fun b hb => ?_) (fun b o _ _ hc e _ => k b o (fun z => hc (by simp [z])) e) (fun b o _ _ hc e _ => ⟨o.slots, k b o (fun z => hc (by simp [z])) e⟩) (fun _ _ _ _ n => n)
  (fun b o hc e => ⟨o, k b o (fun z => hc (by simp [z])) e⟩) (fun _ _ e => e) (fun _ _ _ e => e) (fun b ps e => ⟨#[], by rw [e]; simp⟩) (fun m hm => ?_) (fun b u e => ?_) I.bare
 ·have e : b = it := by simpa using hb
  subst e
  exact ⟨h1, hL, h2, h3⟩
 ·obtain ⟨o, es, ep, ho, r⟩ := hm
  exact ⟨o, es, ep, k _ o (Ne.symm hL) ho, r⟩
 ·refine (I.hok b u e).stay (fun c v hc q => k c v ?_ q) (fun _ q => q) fun _ _ q => q
  rcases hc with z | z
  ·rw [z]; exact nit b u e
  ·exact nit c _ z
theorem Inv.tok (I : Inv X pins σ H s) (t : Nat) : Inv X pins σ H { s with toks := t } := I.un (h' := s.heap) (t' := t) Un.refl I.hok
theorem Inv.kept {t' : Nat} (I : Inv X pins σ H s) (k : ∀ b u, s.heap.get? b = some u → h'.get? b = some u) : Inv X pins σ H { s with heap := h', toks := t' } := I.un (Un.kept k) (I.hok.kept k)
theorem Inv.laid {a : Addr} {o : HO} {t' : Nat} (I : Inv X pins σ H s) (k : ∀ b u, s.heap.get? b = some u → h'.get? b = some u) (hp : s.heap.objs.size ≤ a) (new : ObjOk X.prog X.w (upd H a o) h' a o) :
  Inv X pins σ (upd H a o) { s with heap := h', toks := t' } := I.un (Un.laid k hp (I.hok.fresh hp)) (I.hok.laid k hp new)
theorem Inv.write {x e : Addr} {o : HO} {t' : Nat} (I : Inv X pins σ H s) (mu : Mut (H x)) (he : e = x ∨ H e = some (.own x)) (k : ∀ b u, b ≠ e → s.heap.get? b = some u → h'.get? b = some u) (heo : ∃ u, h'.get? e = some u)
  (new : ObjOk X.prog X.w (upd H x o) h' x o) : Inv X pins σ (upd H x o) { s with heap := h', toks := t' } := I.un (Un.write mu he k heo) (I.hok.write mu he k heo new)
theorem Inv.pins_of {pins' : List (Addr × Obj)} (I : Inv X pins σ H s) (h : ∀ p ∈ pins', s.heap.get? p.1 = some p.2 ∧ H p.1 = none ∧ p.1 ≠ X.env.locals ∧ p.1 ∉ X.fs ∧ ∀ v, p.2.data ≠ .cell v) : Inv X pins' σ H s :=
 ⟨I.ok, I.os, I.bare, I.base, I.loc, I.cell, I.free, I.freeC, fun p hp => (List.mem_append.mp hp).elim (fun z => I.pin p (List.mem_append_left _ z)) (h p), I.hok, I.len⟩
theorem nodup_ix {N : List Str} (hN : N.Nodup) {i j : Nat} {x : Str} (a : N[i]? = some x) (b : N[j]? = some x) : i = j := by
 obtain ⟨h1, e1⟩ := List.getElem?_eq_some_iff.mp a
 obtain ⟨h2, e2⟩ := List.getElem?_eq_some_iff.mp b
 exact (List.getElem_inj hN).mp (e1.trans e2.symm)
theorem store_ok2 {M : Model} {A : Around} {E : Value → Shared → Prop} {i : Nat} {x : Str} {v : V} {u : Value} {Q : Unit → Shared → Prop} (I : Inv X pins σ H s) (hN : X.N.Nodup) (hi : X.N[i]? = some x) (hx : Loc X.env.scope x) (r : RelV v u)
  (h : ∀ s', Inv X pins (σ.set i (some v)) H s' → (∃ a, Heap.SameBut a s.heap s'.heap ∧ (a = X.env.locals ∨ X.env.cells.lookup x = some a)) → Q () s') (hf : X.fn x = true ∨ X.env.scope.names.lookup x = some .local := by first | exact .inl rfl | exact .inr rfl | assumption) : wpAny M A (storeName X.env x u) Q E s := by
 obtain ⟨m, hn, hl⟩ := id I.loc
 have hcls : (X.env.scope.kind == .class || (X.env.scope.kind == .module && X.env.locals != X.env.globals)) = false := by rw [I.ok.kind]; rfl
 have hiσ : i < σ.length := by rw [I.len]; exact (List.getElem?_eq_some_iff.mp hi).1
 have cne := I.cne
 have tracked : ∀ {a : Addr} {h' : Heap}, (∃ o, s.heap.get? a = some o ∧ H a = none) → Heap.SameBut a s.heap h' → HOk X.prog X.w H h' := fun {a h'} ha hs b ob e => by
  obtain ⟨_, _, hfree⟩ := ha
  refine (I.hok b ob e).stay (fun c w' hc q => (hs.2 c ?_).trans q) (fun _ q => q) fun _ _ q => q
  rintro rfl
  rcases hc with rfl | hc
  ·rw [hfree] at e; cases e
  ·rw [hfree] at hc; cases hc
 rcases hx with hk | hk
 ·refine wpAny_storeName_local hk hn (fun h' hn' hs => ?_) hcls
  obtain ⟨oL, _, _, hoL, _⟩ := id hn
  refine h _ ⟨I.ok, I.os, I.bare, ⟨fun b o e n hb hx => ?_, fun b o e n hb hx => ?_, I.base.free, fun b o e hx => ?_, I.base.tups, I.base.frzs, I.base.tbls⟩, ⟨_, hn', fun j y v' e1 e2 e3 => ?_⟩, fun y c e => ?_, I.free, I.freeC, fun p hp => ?_, tracked ⟨oL, hoL, I.free⟩ hs, by simpa using I.len⟩ ⟨_, hs, .inl rfl⟩
  ·exact (hs.2 b (Nat.ne_of_lt (Nat.lt_of_lt_of_le (Heap.lt_size e) I.ok.above))).trans (I.base.keep b o e n hb hx)
  ·obtain ⟨sl, e1⟩ := I.base.slot b o e n hb hx
   exact ⟨sl, (hs.2 b (Nat.ne_of_lt (Nat.lt_of_lt_of_le (Heap.lt_size e) I.ok.above))).trans e1⟩
  ·obtain ⟨o', e1⟩ := I.base.there b o e hx
   exact ⟨o', (hs.2 b (Nat.ne_of_lt (Nat.lt_of_lt_of_le (Heap.lt_size e) I.ok.above))).trans e1⟩
  ·by_cases hj : j = i
   ·subst hj
    rw [hi] at e1; cases e1
    rw [List.getElem?_set_self hiσ] at e2
    cases e2
    exact ⟨u, r, .inl ⟨hk, by simp⟩⟩
   ·rw [List.getElem?_set_ne (Ne.symm hj)] at e2
    obtain ⟨u', r', q⟩ := hl j y v' e1 e2 e3
    refine ⟨u', r', ?_⟩
    rcases q with ⟨k, e⟩ | ⟨k, c, e, z⟩
    ·refine .inl ⟨k, ?_⟩
     have : y ≠ x := fun e => hj (nodup_ix hN e1 (e ▸ hi))
     simp [this, e]
    ·exact .inr ⟨k, c, e, z.sameBut hs (cne y c e)⟩
  ·obtain ⟨w', z⟩ := I.cell y c e
   exact ⟨w', z.sameBut hs (cne y c e)⟩
  ·obtain ⟨e, n, ne, nf, d⟩ := I.pin p hp
   exact ⟨(hs.2 p.1 ne).trans e, n, ne, nf, d⟩
 ·have hfn : X.fn x = true := by
   rcases hf with z | z
   ·exact z
   ·rw [z] at hk; cases hk
  obtain ⟨c, hc⟩ := I.ok.has x (.inl hk)
  obtain ⟨w', z⟩ := I.cell x c hc
  refine wpAny_storeName_cell I.ok.kind hk hc z (fun h' hc' hs => ?_)
  obtain ⟨oc, hoc, hocd⟩ := id z
  refine h { s with heap := h' } ⟨I.ok, I.os, I.bare, ⟨fun b o e n hb hx => ?_, fun b o e n hb hx => ?_, I.base.free, fun b o e hx => ?_, I.base.tups, I.base.frzs, I.base.tbls⟩, ⟨m, hn.sameBut hs (Ne.symm (cne x c hc)), fun j y v' e1 e2 e3 => ?_⟩, fun y c' e => ?_, I.free, I.freeC, fun p hp => ?_, tracked ⟨oc, hoc, I.freeC x c hc⟩ hs, by simpa using I.len⟩ ⟨c, hs, .inr hc⟩
  ·exact (hs.2 b (Nat.ne_of_lt (Nat.lt_of_lt_of_le (Heap.lt_size e) (I.ok.cab x c hfn hc)))).trans (I.base.keep b o e n hb hx)
  ·obtain ⟨sl, e1⟩ := I.base.slot b o e n hb hx
   exact ⟨sl, (hs.2 b (Nat.ne_of_lt (Nat.lt_of_lt_of_le (Heap.lt_size e) (I.ok.cab x c hfn hc)))).trans e1⟩
  ·obtain ⟨o', e1⟩ := I.base.there b o e hx
   exact ⟨o', (hs.2 b (Nat.ne_of_lt (Nat.lt_of_lt_of_le (Heap.lt_size e) (I.ok.cab x c hfn hc)))).trans e1⟩
  ·by_cases hj : j = i
   ·subst hj
    rw [hi] at e1; cases e1
    rw [List.getElem?_set_self hiσ] at e2
    cases e2
    exact ⟨u, r, .inr ⟨.inl hk, c, hc, hc'⟩⟩
   ·rw [List.getElem?_set_ne (Ne.symm hj)] at e2
    obtain ⟨u', r', q⟩ := hl j y v' e1 e2 e3
    refine ⟨u', r', ?_⟩
    rcases q with q | ⟨k, c', e, z'⟩
    ·exact .inl q
    ·refine .inr ⟨k, c', e, z'.sameBut hs ?_⟩
     rintro rfl
     exact hj (nodup_ix hN e1 (I.ok.inj _ _ _ e hc ▸ hi))
  ·by_cases hcc : c' = c
   ·subst hcc; exact ⟨_, hc'⟩
   ·obtain ⟨w2, z2⟩ := I.cell y c' e
    exact ⟨w2, z2.sameBut hs hcc⟩
  ·obtain ⟨e, n, ne, nf, d⟩ := I.pin p hp
   refine ⟨(hs.2 p.1 ?_).trans e, n, ne, nf, d⟩
   intro q
   rw [q, hoc] at e
   have q' : oc = p.2 := Option.some.inj e
   exact d w' (by rw [← q']; exact hocd)
theorem store_ok {M : Model} {A : Around} {E : Value → Shared → Prop} {i : Nat} {x : Str} {v : V} {u : Value} {Q : Unit → Shared → Prop} (I : Inv X pins σ H s) (hN : X.N.Nodup) (hi : X.N[i]? = some x) (hx : Loc X.env.scope x) (r : RelV v u)
  (h : ∀ s', Inv X pins (σ.set i (some v)) H s' → Q () s') (hf : X.fn x = true ∨ X.env.scope.names.lookup x = some .local := by first | exact .inl rfl | exact .inr rfl | assumption) : wpAny M A (storeName X.env x u) Q E s :=
 store_ok2 I hN hi hx r (fun s' I' _ => h s' I') hf
theorem Inv.call' {s' : Shared} {ch : List Addr} (I : Inv X pins σ H s) (ho : s'.os = s.os) (u : Un (frs X.stack) ch H H' s.heap s'.heap) (hok : HOk X.prog X.w H' s'.heap) (hg : AllBare s'.gens)
  (hch : ∀ b ∈ ch, (b ∈ X.ex ∨ X.s₀.heap.objs.size ≤ b) ∧ b ≠ X.env.locals ∧ (∀ x c, X.env.cells.lookup x = some c → c ≠ b) ∧ ∀ p ∈ X.pn ++ pins, p.1 ≠ b) : Inv X pins σ H' s' := by
 obtain ⟨h', g', d', t', o'⟩ := s'
 have e : o' = s.os := ho
 subst e
 exact I.call (g' := g') (t' := t') (d' := d') u hok hg hch
end
abbrev XK := Value → Option Addr → Hp → Prop
abbrev St := List (Option V)
abbrev VK := V → Hp → Prop
abbrev TE := St → Hp → VK → Prop
abbrev TT := St → Hp → (Bool → Hp → Prop) → Prop
abbrev TA := St → Hp → (List V → Hp → Prop) → Prop
structure Ends where
 nx : St → Hp → Prop
 rt : VK
 bk : St → Hp → Prop := fun _ _ => False
 ct : St → Hp → Prop := fun _ _ => False
abbrev TS := Ends → St → Hp → Prop
def EP (X : Cx) (pins : List (Addr × Obj)) (σ : St) (Q : VK) (u : Value) (s' : Shared) : Prop := ∃ v H', Inv X pins σ H' s' ∧ RelV v u ∧ Q v H'
def TP (X : Cx) (pins : List (Addr × Obj)) (σ : St) (Q : Bool → Hp → Prop) (b : Bool) (s' : Shared) : Prop := ∃ H', Inv X pins σ H' s' ∧ Q b H'
def AP (X : Cx) (pins : List (Addr × Obj)) (σ : St) (Q : List V → Hp → Prop) (us : List Value) (s' : Shared) : Prop := ∃ vs H', Inv X pins σ H' s' ∧ Vals vs us ∧ Q vs H'
def SP (X : Cx) (pins : List (Addr × Obj)) (D : Ends) (f : Flow) (s' : Shared) : Prop :=
 match f with
 | .next => ∃ σ' H', Inv X pins σ' H' s' ∧ D.nx σ' H'
 | .brk => ∃ σ' H', Inv X pins σ' H' s' ∧ D.bk σ' H'
 | .cont => ∃ σ' H', Inv X pins σ' H' s' ∧ D.ct σ' H'
 | .ret u => ∃ v σ' H', Inv X pins σ' H' s' ∧ RelV v u ∧ D.rt v H'
def PE (X : Cx) (e : Expr) (t : TE) : Prop :=
 ∀ (pins : List (Addr × Obj)) (s : Shared) (σ : St) (H : Hp) (Q : VK), Inv X pins σ H s → t σ H Q → wpAny (model X.prog X.w) X.A (eval e X.env) (EP X pins σ Q) X.xe s
def PT (X : Cx) (e : Expr) (t : TT) : Prop :=
 ∀ (pins : List (Addr × Obj)) (s : Shared) (σ : St) (H : Hp) (Q : Bool → Hp → Prop), Inv X pins σ H s → t σ H Q → wpAny (model X.prog X.w) X.A (isTrue e X.env (eval e X.env)) (TP X pins σ Q) X.xe s
def PW (X : Cx) (e : Expr) (t : TT) : Prop :=
 ∀ (whole : Sem Value) (pins : List (Addr × Obj)) (s : Shared) (σ : St) (H : Hp) (Q : Bool → Hp → Prop), Inv X pins σ H s → t σ H Q → wpAny (model X.prog X.w) X.A (isTrue e X.env whole) (TP X pins σ Q) X.xe s
theorem PW.pt {X : Cx} {e : Expr} {t : TT} (h : PW X e t) : PT X e t := h _
def PA (X : Cx) (es : List Expr) (t : TA) : Prop :=
 ∀ (pos : Pos) (pins : List (Addr × Obj)) (s : Shared) (σ : St) (H : Hp) (Q : List V → Hp → Prop), Inv X pins σ H s → t σ H Q → wpAny (model X.prog X.w) X.A (spliced (backTo pos (starEach es X.env))) (AP X pins σ Q) X.xe s
def PS (X : Cx) (st : Stmt) (t : TS) : Prop :=
 ∀ (pins : List (Addr × Obj)) (s : Shared) (σ : St) (H : Hp) (D : Ends), Inv X pins σ H s → t D σ H → wpAny (model X.prog X.w) X.A (exec st X.env) (SP X pins D) X.xe s
def PSs (X : Cx) (st : List Stmt) (t : TS) : Prop :=
 ∀ (pins : List (Addr × Obj)) (s : Shared) (σ : St) (H : Hp) (D : Ends), Inv X pins σ H s → t D σ H → wpAny (model X.prog X.w) X.A (execs st X.env) (SP X pins D) X.xe s
theorem thn {α : Type} {t : Sem α} {Q Q' : α → Shared → Prop} {M : Model} {A : Around} {E : Value → Shared → Prop} {s : Shared} (h : wpAny M A t Q E s) (hQ : ∀ a s, Q a s → Q' a s) : wpAny M A t Q' E s := wpAny_mono h hQ fun _ _ x => x
end L2
namespace L2
open PySem PySem.Spec PyProof.Rows
section
variable {X : Cx}
def tVar (i : Nat) : TE := fun σ H Q => ∃ v, σ[i]? = some (some v) ∧ Q v H
def tC (v : V) : TE := fun _ H Q => Q v H
theorem pe_var {i : Nat} {x : Str} {pos : Pos} (hN : X.N[i]? = some x) (hv : Vis X.env.scope x) (hd : (x == ("__debug__" : Str)) = false := by decide) (hcd : (x == ("__classdict__" : Str)) = false := by decide) : PE X (.Name x pos) (tVar i) := by
 intro pins s σ H Q I h
 obtain ⟨v, e, h⟩ := h
 obtain ⟨m, hn, hl⟩ := I.loc
 obtain ⟨u, r, l⟩ := hl i x v hN e hv
 have fin : EP X pins σ Q u s := ⟨v, H, I, r, h⟩
 rcases l with ⟨hk, hm⟩ | ⟨hk, c, hc, hcell⟩
 ·exact wpAny_Name (wpAny_loadName_local I.ok.kind hk hn hm fin) hd
 ·rcases hk with hk | hk
  ·exact wpAny_Name (wpAny_loadName_cell I.ok.kind hk hc hcell fin) hd
  ·exact wpAny_Name (wpAny_loadName_free I.ok.kind hk hc hcell fin hcd) hd
theorem pe_int {i j pos} : PE X (.Constant (.int i) j pos) (tC (.int i)) := fun _ _ _ H _ I h => wpAny_Constant_int ⟨.int i, H, I.tok _, ⟨_, rfl⟩, h⟩
theorem pe_bl {b j pos} : PE X (.Constant (.bool b) j pos) (tC (.bl b)) := fun _ _ _ H _ I h => Constant_bool ⟨.bl b, H, I, rfl, h⟩
theorem pe_non {j pos} : PE X (.Constant .none j pos) (tC .non) := fun _ _ _ H _ I h => Constant_none ⟨.non, H, I, rfl, h⟩
theorem pe_str {x j pos} : PE X (.Constant (.str x) j pos) (tC (.str x)) := fun _ _ _ H _ I h => Calls.Constant_str ⟨.str x, H, I.tok _, ⟨_, rfl⟩, h⟩
def Gl (X : Cx) (x : Str) : Prop := X.env.kindOf x = some .globalImplicit
theorem ld_glob {E : Value → Shared → Prop} {pins : List (Addr × Obj)} {s : Shared} {σ : St} {H : Hp} {x : Str} {u : Value} {pos : Pos} {Q : Value → Shared → Prop} (I : Inv X pins σ H s) (hg : Gl X x) (hm : X.mg x = some u) (h : Q u s)
  (hd : (x == ("__debug__" : Str)) = false := by decide) : wpAny (model X.prog X.w) X.A (eval (.Name x pos) X.env) Q E s :=
 Calls.Name_function_global I.ok.kind hg (Calls.loadGlobal_global (by rw [I.ok.glob]; exact I.mod.glob.keeps I.bk) hm h) hd
theorem ld_blt {E : Value → Shared → Prop} {pins : List (Addr × Obj)} {s : Shared} {σ : St} {H : Hp} {x : Str} {u : Value} {pos : Pos} {Q : Value → Shared → Prop} (I : Inv X pins σ H s) (hg : Gl X x) (hm : X.mg x = none) (hv : bootBuiltins x = some u) (h : Q u s)
  (hn : x ≠ "__name__" := by decide) (hd : (x == ("__debug__" : Str)) = false := by decide) : wpAny (model X.prog X.w) X.A (eval (.Name x pos) X.env) Q E s := by
 obtain ⟨mb, h1, h2⟩ := I.mod.blt
 exact Calls.Name_function_global I.ok.kind hg (Calls.loadGlobal_builtin (by rw [I.ok.glob]; exact I.mod.glob.keeps I.bk) hm (by rw [I.ok.blt]; exact h1.keeps I.bk) ((h2 x hn).trans hv) h) hd
theorem pe_glob {x : Str} {v : V} {u : Value} {pos : Pos} (hg : Gl X x) (hm : X.mg x = some u) (r : RelV v u) (hd : (x == ("__debug__" : Str)) = false := by decide) : PE X (.Name x pos) (tC v) :=
 fun _ _ _ H _ I h => ld_glob I hg hm ⟨v, H, I, r, h⟩ hd
theorem pe_bltn {x : Str} {v : V} {u : Value} {pos : Pos} (hg : Gl X x) (hm : X.mg x = none) (hv : bootBuiltins x = some u) (r : RelV v u) (hn : x ≠ "__name__" := by decide) (hd : (x == ("__debug__" : Str)) = false := by decide) : PE X (.Name x pos) (tC v) :=
 fun _ _ _ H _ I h => ld_blt I hg hm hv ⟨v, H, I, r, h⟩ hn hd
variable {a b : Expr} {ta tb : TE} {pos : Pos}
def tB (t : TE) : TT := fun σ H Q => t σ H fun x H1 => ∃ c, x = .bl c ∧ Q c H1
theorem pt_val {e : Expr} {t : TE} (h : PE X e t) (he : ∀ whole, isTrue e X.env whole = (do let v ← whole; standAt e.pos; holding [v] (truthy v)) := by intro _; rfl) : PT X e (tB t) := by
 intro pins s σ H Q I hw
 refine isTrue_plain (thn (h pins s σ H _ I hw) fun v s1 ⟨x, H1, I1, r1, q1⟩ => ?_) (he _)
 obtain ⟨d, rfl, q⟩ := q1
 cases r1
 exact wpAny_truthy_bool ⟨H1, I1, q⟩
variable {tA tB' : TT} {rest : List Expr}
def tAnd (t u : TT) : TT := fun σ H Q => t σ H fun c H1 => if c = true then u σ H1 Q else Q false H1
def tOr (t u : TT) : TT := fun σ H Q => t σ H fun c H1 => if c = true then Q true H1 else u σ H1 Q
def tNot (t : TT) : TT := fun σ H Q => t σ H fun c H1 => Q (!c) H1
theorem pw_and1 (ha : PT X a tA) : PW X (.BoolOp .And [a] pos) tA := by
 intro wh pins s σ H Q I h
 refine isTrue_and (thn (ha pins s σ H Q I h) fun c s1 e => ?_)
 cases c with
 | true => exact isTrue_and_nil e
 | false => exact e
theorem pw_or1 (ha : PT X a tA) : PW X (.BoolOp .Or [a] pos) tA := by
 intro wh pins s σ H Q I h
 refine isTrue_or (thn (ha pins s σ H Q I h) fun c s1 e => ?_)
 cases c with
 | false => exact isTrue_or_nil e
 | true => exact e
theorem pw_and (ha : PT X a tA) (hb : PW X (.BoolOp .And (b :: rest) pos) tB') : PW X (.BoolOp .And (a :: b :: rest) pos) (tAnd tA tB') := by
 intro wh pins s σ H Q I h
 refine isTrue_and (thn (ha pins s σ H _ I h) fun c s1 ⟨H1, I1, q1⟩ => ?_)
 cases c with
 | true => exact hb wh pins s1 σ H1 Q I1 q1
 | false => exact ⟨H1, I1, q1⟩
theorem pw_or (ha : PT X a tA) (hb : PW X (.BoolOp .Or (b :: rest) pos) tB') : PW X (.BoolOp .Or (a :: b :: rest) pos) (tOr tA tB') := by
 intro wh pins s σ H Q I h
 refine isTrue_or (thn (ha pins s σ H _ I h) fun c s1 ⟨H1, I1, q1⟩ => ?_)
 cases c with
 | true => exact ⟨H1, I1, q1⟩
 | false => exact hb wh pins s1 σ H1 Q I1 q1
theorem pt_not (ha : PT X a tA) : PT X (.UnaryOp .Not a pos) (tNot tA) := by
 intro pins s σ H Q I h
 exact isTrue_not (ha pins s σ H (fun c H1 => Q (!c) H1) I h)
def tAndV (ta tb : TE) : TE := fun σ H Q => ta σ H fun x H1 => ∃ c, x = .bl c ∧ if c = true then tb σ H1 Q else Q (.bl false) H1
def tNotV (ta : TE) : TE := fun σ H Q => ta σ H fun x H1 => ∃ c, x = .bl c ∧ Q (.bl (!c)) H1
theorem pe_one {op} {t : TE} (h : PE X a t) : PE X (.BoolOp op [a] pos) t := fun pins s σ H Q I hw => BoolOp_one (h pins s σ H Q I hw)
theorem pe_and (ha : PE X a ta) (hb : PE X (.BoolOp .And (b :: rest) pos) tb) : PE X (.BoolOp .And (a :: b :: rest) pos) (tAndV ta tb) := by
 intro pins s σ H Q I h
 refine BoolOp_and (thn (ha pins s σ H _ I h) fun v s1 ⟨x, H1, I1, r1, q1⟩ => ?_)
 obtain ⟨c, rfl, q1⟩ := q1
 cases r1
 refine wpAny_truthy_bool ?_
 cases c with
 | true => exact hb pins s1 σ H1 Q I1 q1
 | false => exact ⟨.bl false, H1, I1, rfl, q1⟩
theorem pe_not (ha : PE X a ta) : PE X (.UnaryOp .Not a pos) (tNotV ta) := by
 intro pins s σ H Q I h
 refine UnaryOp_ (thn (ha pins s σ H _ I h) fun v s1 ⟨x, H1, I1, r1, q1⟩ => ?_)
 obtain ⟨c, rfl, q1⟩ := q1
 cases r1
 exact not_of (wpAny_truthy_bool ⟨.bl (!c), H1, I1, rfl, q1⟩)
def tIf (t : TT) (ta tb : TE) : TE := fun σ H Q => t σ H fun c H1 => if c = true then ta σ H1 Q else tb σ H1 Q
theorem pe_ifExp {c : Expr} (hc : PT X c tA) (ha : PE X a ta) (hb : PE X b tb) : PE X (.IfExp c a b pos) (tIf tA ta tb) := by
 intro pins s σ H Q I h
 refine wpAny_IfExp (thn (hc pins s σ H _ I h) fun d s1 ⟨H1, I1, q1⟩ => ?_)
 cases d with
 | true => exact ha pins s1 σ H1 Q I1 q1
 | false => exact hb pins s1 σ H1 Q I1 q1
end
end L2
namespace L2
open PySem PySem.Spec PyProof.Rows
def SqL (K : PySem.W.Frag) (H : Hp) (a : Addr) (xs : List V) : Prop :=
 Rd H a (.lst xs) ∨
  ∃ (o : Obj) (its : Array Value) (n : Nat), K.lookup a = some o ∧ o.cls = .type "list" ∧ o.dict = none ∧ o.data = .seq its n ∧ its.size ≤ sizeLine ∧ Vals xs its.toList
def SqT (K : PySem.W.Frag) (H : Hp) (a : Addr) (xs : List V) : Prop :=
 Rd H a (.tup xs) ∨
  ∃ (o : Obj) (its : Array Value) (n : Nat), K.lookup a = some o ∧ o.cls = .type "tuple" ∧ o.data = .seq its n ∧ its.size ≤ sizeLine ∧ Vals xs its.toList
def absV : Value → Option V
 | .none => some .non
 | .bool b => some (.bl b)
 | .int i _ => some (.int i)
 | .str x _ => some (.str x)
 | .bytes b _ => some (.byt b)
 | .float b _ => some (.flt b)
 | .ref a => some (.ref a)
 | .type n => some (.ty n)
 | _ => none
theorem RelV.abs {x : V} {u : Value} (r : RelV x u) : absV u = some x := by
 cases x with
 | non => cases r; rfl
 | bl _ => cases r; rfl
 | int _ => obtain ⟨t, rfl⟩ := r; rfl
 | str _ => obtain ⟨t, rfl⟩ := r; rfl
 | byt _ => obtain ⟨t, rfl⟩ := r; rfl
 | flt _ => obtain ⟨t, rfl⟩ := r; rfl
 | ref _ => cases r; rfl
 | ty _ => cases r; rfl
theorem RelV.inj {x y : V} {u : Value} (r : RelV x u) (q : RelV y u) : x = y := Option.some.inj (r.abs.symm.trans q.abs)
theorem Vals.inj : ∀ {xs ys : List V} {us : List Value}, Vals xs us → Vals ys us → xs = ys
 | _, _, _, .nil, .nil => rfl
 | _, _, _, .cons r t, .cons r' t' => by rw [r.inj r', Vals.inj t t']
section
variable {X : Cx} {pins : List (Addr × Obj)} {σ : St} {H : Hp} {s : Shared} {a : Addr} {xs ys : List V}
theorem SqT.of {K : PySem.W.Frag} (h : H a = some (.tup xs)) : SqT K H a xs := .inl (.inl h)
theorem Inv.list (I : Inv X pins σ H s) (h : SqL X.K H a xs) : ∃ its : List Value, Vals xs its ∧ PlainL s.heap a its.toArray ∧ xs.length ≤ sizeLine := by
 rcases h with h | ⟨o, its, n, hk, hc, hd, hs, hz, r⟩
 ·obtain ⟨z, its, n, r, e⟩ := h.ok I.hok
  exact ⟨its, r, ⟨_, n, e, rfl, rfl, rfl⟩, z⟩
 ·refine ⟨its.toList, r, ⟨o, n, I.kIn a o hk, hc, hd, by simpa using hs⟩, ?_⟩
  have e := r.length
  simp only [Array.length_toList] at e
  omega
theorem Inv.tuple (I : Inv X pins σ H s) (h : SqT X.K H a xs) : ∃ its : List Value, Vals xs its ∧ IsTup s.heap a its.toArray ∧ xs.length ≤ sizeLine := by
 rcases h with h | ⟨o, its, n, hk, hc, hs, hz, r⟩
 ·obtain ⟨z, its, r, p⟩ := h.ok I.hok
  exact ⟨its, r, p, z⟩
 ·refine ⟨its.toList, r, ⟨o, I.kIn a o hk, hc, n, by simpa using hs⟩, ?_⟩
  have e := r.length
  simp only [Array.length_toList] at e
  omega
theorem Inv.list_inj (I : Inv X pins σ H s) (h : SqL X.K H a xs) (h' : SqL X.K H a ys) : xs = ys := by
 obtain ⟨its, r, ⟨o, n, e, _, _, d⟩, _⟩ := I.list h
 obtain ⟨its', r', ⟨o', n', e', _, _, d'⟩, _⟩ := I.list h'
 rw [e] at e'; cases e'
 rw [d] at d'
 injection d' with d1 _
 have : its = its' := by simpa using congrArg Array.toList d1
 subst this
 exact r.inj r'
end
abbrev Cx.wish (X : Cx) (E : Value → Shared → Prop) : Cx := { X with xe := E }
abbrev Cx.nox (X : Cx) : Cx := X.wish fun _ _ => False
theorem Cx.Ok.wish {X : Cx} (ok : X.Ok) (E : Value → Shared → Prop) : (X.wish E).Ok :=
 ⟨ok.mod, ok.kind, ok.glob, ok.blt, ok.above, ok.inj, ok.has, ok.cab, ok.hd, ok.frames, ok.stk, ok.exf, ok.bs, ok.bsz, ok.noex, ok.exfs, ok.funs, ok.frf⟩
theorem Cx.Ok.unwish {X : Cx} {E : Value → Shared → Prop} (ok : (X.wish E).Ok) : X.Ok :=
 ⟨ok.mod, ok.kind, ok.glob, ok.blt, ok.above, ok.inj, ok.has, ok.cab, ok.hd, ok.frames, ok.stk, ok.exf, ok.bs, ok.bsz, ok.noex, ok.exfs, ok.funs, ok.frf⟩
section
variable {X : Cx} {pins : List (Addr × Obj)} {σ : St} {H : Hp} {s : Shared} {E : Value → Shared → Prop}
theorem Inv.wish (I : Inv X pins σ H s) (E : Value → Shared → Prop) : Inv (X.wish E) pins σ H s := ⟨I.ok.wish E, I.os, I.bare, I.base, I.loc, I.cell, I.free, I.freeC, I.pin, I.hok, I.len⟩
theorem Inv.unwish (I : Inv (X.wish E) pins σ H s) : Inv X pins σ H s := ⟨I.ok.unwish, I.os, I.bare, I.base, I.loc, I.cell, I.free, I.freeC, I.pin, I.hok, I.len⟩
theorem SP.unwish {D : Ends} {f : Flow} {s' : Shared} (h : SP (X.wish E) pins D f s') : SP X pins D f s' := by
 cases f with
 | next => obtain ⟨σ', H', I, q⟩ := h; exact ⟨σ', H', I.unwish, q⟩
 | brk => obtain ⟨σ', H', I, q⟩ := h; exact ⟨σ', H', I.unwish, q⟩
 | cont => obtain ⟨σ', H', I, q⟩ := h; exact ⟨σ', H', I.unwish, q⟩
 | ret u => obtain ⟨v, σ', H', I, r, q⟩ := h; exact ⟨v, σ', H', I.unwish, r, q⟩
theorem PE.nox {e : Expr} {t : TE} (h : PE X.nox e t) : PE X e t := fun pins s σ H Q I hw =>
 wpAny_mono (h pins s σ H Q (I.wish _) hw) (fun _ _ ⟨v, H', I', r, q⟩ => ⟨v, H', I'.unwish, r, q⟩) fun _ _ z => False.elim z
theorem PT.nox {e : Expr} {t : TT} (h : PT X.nox e t) : PT X e t := fun pins s σ H Q I hw =>
 wpAny_mono (h pins s σ H Q (I.wish _) hw) (fun _ _ ⟨H', I', q⟩ => ⟨H', I'.unwish, q⟩) fun _ _ z => False.elim z
theorem PSs.nox {st : List Stmt} {t : TS} (h : PSs X.nox st t) : PSs X st t := fun pins s σ H D I hw =>
 wpAny_mono (h pins s σ H D (I.wish _) hw) (fun _ _ q => q.unwish) fun _ _ z => False.elim z
end
section
variable {X : Cx} {st : Stmt} {rest : List Stmt} {t u : TS} {e : Expr} {te : TE} {pos : Pos}
def tNext : TS := fun D σ H => D.nx σ H
def tSeq (t u : TS) : TS := fun D σ H => t { D with nx := u D } σ H
theorem pss_nil : PSs X [] tNext := fun _ _ σ H _ I h => wpAny_execs_nil ⟨σ, H, I, h⟩
theorem pss_cons (h1 : PS X st t) (h2 : PSs X rest u) : PSs X (st :: rest) (tSeq t u) := by
 intro pins s σ H D I h
 refine wpAny_execs_cons (thn (h1 pins s σ H { D with nx := u D } I h) fun f s1 q => ?_)
 cases f with
 | next =>
  obtain ⟨σ', H', I', q⟩ := q
  exact h2 pins s1 σ' H' D I' q
 | ret v => exact q
 | brk => exact q
 | cont => exact q
theorem pss_one (h1 : PS X st t) : PSs X [st] t := by
 intro pins s σ H D I h
 refine wpAny_execs_cons (thn (h1 pins s σ H D I h) fun f s1 q => ?_)
 cases f with
 | next => exact wpAny_execs_nil q
 | ret v => exact q
 | brk => exact q
 | cont => exact q
def tCont : TS := fun D σ H => D.ct σ H
theorem ps_continue : PS X (.Continue pos) tCont := fun _ _ σ H _ I h => wpAny_Continue ⟨σ, H, I, h⟩
theorem Inv.quiet {pins : List (Addr × Obj)} {σ : St} {H : Hp} {s : Shared} (I : Inv X pins σ H s) : interactive X.env = false := by simp [interactive, I.ok.kind]
def tDrop (te : TE) : TS := fun D σ H => te σ H fun _ H1 => D.nx σ H1
theorem ps_expr (he : PE X e te) (hs : swapsWith e none pos.line X.env = pure false := by rfl) : PS X (.Expr e pos) (tDrop te) := by
 intro pins s σ H D I h
 exact wpAny_Expr_any (thn (he pins s σ H _ I h) fun v s1 ⟨x, H1, I1, r1, q1⟩ => ⟨σ, H1, I1, q1⟩) I.quiet hs
def tRet (te : TE) : TS := fun D σ H => te σ H D.rt
theorem ps_ret (he : PE X e te) : PS X (.Return (some e) pos) (tRet te) := by
 intro pins s σ H D I h
 exact wpAny_Return_some (thn (he pins s σ H _ I h) fun v s1 ⟨x, H1, I1, r1, q1⟩ => ⟨x, σ, H1, I1, r1, q1⟩)
def tIfS (c : TT) (t u : TS) : TS := fun D σ H => c σ H fun b H1 => if b = true then t D σ H1 else u D σ H1
theorem ps_if {c : Expr} {a b : List Stmt} {tc : TT} (hc : PT X c tc) (ha : PSs X a t) (hb : PSs X b u) : PS X (.If c a b pos) (tIfS tc t u) := by
 intro pins s σ H D I h
 refine wpAny_If (thn (hc pins s σ H _ I h) fun d s1 ⟨H1, I1, q1⟩ => ?_)
 cases d with
 | true => exact ha pins s1 σ H1 D I1 q1
 | false => exact hb pins s1 σ H1 D I1 q1
def tNever : TS := fun _ _ _ => False
theorem ps_never : PS X st tNever := fun _ _ _ _ _ _ h => h.elim
end
abbrev TG := V → St → Hp → (St → Hp → Prop) → Prop
abbrev TGs := List V → St → Hp → (St → Hp → Prop) → Prop
def PG (X : Cx) (target : Expr) (t : TG) : Prop :=
 ∀ (pins : List (Addr × Obj)) (s : Shared) (σ : St) (H : Hp) (v : V) (u : Value) (Q : St → Hp → Prop), Inv X pins σ H s → RelV v u → t v σ H Q →
  wpAny (model X.prog X.w) X.A (assign target X.env u) (fun _ s' => ∃ σ' H', Inv X pins σ' H' s' ∧ Q σ' H') X.xe s
def PGs (X : Cx) (ts : List Expr) (t : TGs) : Prop :=
 ∀ (pins : List (Addr × Obj)) (s : Shared) (σ : St) (H : Hp) (vs : List V) (us : List Value) (Q : St → Hp → Prop), Inv X pins σ H s → Vals vs us → t vs σ H Q →
  wpAny (model X.prog X.w) X.A (assignInOrder ((assignEach ts X.env).map (·.2)) us) (fun _ s' => ∃ σ' H', Inv X pins σ' H' s' ∧ Q σ' H') X.xe s
abbrev TSet := V → V → V → Hp → (Hp → Prop) → Prop
def PSet (X : Cx) (t : TSet) : Prop :=
 ∀ (pins : List (Addr × Obj)) (s : Shared) (σ : St) (H : Hp) (o i v : V) (ov iv u : Value) (Q : Hp → Prop), Inv X pins σ H s → RelV o ov → RelV i iv → RelV v u → t o i v H Q →
  wpAny (model X.prog X.w) X.A (setItem ov iv u) (fun _ s' => ∃ H', Inv X pins σ H' s' ∧ Q H') X.xe s
section
variable {X : Cx} {pos : Pos}
def gName (i : Nat) : TG := fun v σ H Q => Q (σ.set i (some v)) H
theorem pg_name {i : Nat} {x : Str} (hN : X.N.Nodup) (hi : X.N[i]? = some x) (hx : Loc X.env.scope x) (hf : X.fn x = true ∨ X.env.scope.names.lookup x = some .local := by first | exact .inl rfl | exact .inr rfl | assumption) : PG X (.Name x pos) (gName i) := by
 intro pins s σ H v u Q I r h
 exact wpAny_assign_Name (store_ok I hN hi hx r (fun s' I' => ⟨_, H, I', h⟩) hf)
def gNil : TGs := fun vs σ H Q => vs = [] ∧ Q σ H
def gCons (t : TG) (u : TGs) : TGs := fun vs σ H Q => ∃ v r, vs = v :: r ∧ t v σ H fun σ' H' => u r σ' H' Q
theorem pgs_nil : PGs X [] gNil := by
 intro pins s σ H vs us Q I r h
 obtain ⟨e, h⟩ := h
 subst e
 cases r
 exact assignInOrder_nil ⟨σ, H, I, h⟩
theorem pgs_cons {e : Expr} {es : List Expr} {t : TG} {u : TGs} (h1 : PG X e t) (h2 : PGs X es u)
  (hs : (assignEach (e :: es) X.env).map (·.2) = assign e X.env :: (assignEach es X.env).map (·.2) := by rfl) : PGs X (e :: es) (gCons t u) := by
 intro pins s σ H vs us Q I r h
 obtain ⟨v, vr, e1, h⟩ := h
 subst e1
 cases r with
 | cons r rr =>
  rw [hs]
  refine assignInOrder_cons (thn (h1 pins s σ H _ _ _ I r h) fun _ s1 ⟨σ1, H1, I1, q1⟩ => ?_)
  exact h2 pins s1 σ1 H1 _ _ Q I1 rr q1
def gTup (K : PySem.W.Frag) (n : Nat) (t : TGs) : TG := fun v σ H Q => ∃ a xs, v = .ref a ∧ SqT K H a xs ∧ xs.length = n ∧ t xs σ H Q
theorem pg_tup {es : List Expr} {k : Nat} {t : TGs} {n : Nat} (hc : X.calm = true) (h : PGs X es t)
  (hn : (assignEach es X.env).length = n := by rfl) (hst : (assignEach es X.env).findIdx? (·.1) = none := by rfl) : PG X (.Tuple es k pos) (gTup X.K n t) := by
 intro pins s σ H v u Q I r hw
 obtain ⟨a, xs, e1, hq, hl, hw⟩ := hw
 subst e1
 cases r
 obtain ⟨its, rv, ht, hz⟩ := I.tuple hq
 refine assign_Tuple_tuple (I.ok.hd hc) ht (by simp [hn, ← hl, rv.length]) hst fun h' hx => ?_
 have I1 : Inv X pins σ H { s with heap := h' } := I.kept (t' := s.toks) fun b o e => hx b o (Nat.ne_of_lt (Heap.lt_size e)) e
 exact h pins _ σ H xs _ Q I1 (by simpa using rv) hw
def gSub (to ti : TE) (t : TSet) : TG := fun v σ H Q => to σ H fun o H1 => ti σ H1 fun i H2 => t o i v H2 fun H3 => Q σ H3
theorem pg_sub {o i : Expr} {to ti : TE} {t : TSet} (ho : PE X o to) (hi : PE X i ti) (hs : PSet X t)
  (ha : ∀ v, assign (.Subscript o i pos) X.env v = (do
   let ov ← holding [v] (eval o X.env)
   let iv ← holding [v, ov] (eval i X.env)
   standAt pos
   holding [v, ov, iv] (setItem ov iv v)
   release [v, ov, iv] []) := by intro _; rfl) : PG X (.Subscript o i pos) (gSub to ti t) := by
 intro pins s σ H v u Q I r h
 rw [ha]
 refine wpAny_bind (wpAny_holding (thn (ho pins s σ H _ I h) fun ov s1 ⟨x, H1, I1, r1, q1⟩ => ?_))
 refine wpAny_bind (wpAny_holding (thn (hi pins s1 σ H1 _ I1 q1) fun iv s2 ⟨y, H2, I2, r2, q2⟩ => ?_))
 refine wpAny_bind (wpAny_standAt (wpAny_bind (wpAny_holding (thn (hs pins s2 σ H2 x y v ov iv u _ I2 r1 r2 r q2) fun _ s3 ⟨H3, I3, q3⟩ => ?_))))
 exact wpAny_release ⟨σ, H3, I3, q3⟩
def tAsg (te : TE) (g : TG) : TS := fun D σ H => te σ H fun x H1 => g x σ H1 D.nx
theorem ps_asg {tg e : Expr} {te : TE} {g : TG} (he : PE X e te) (hg : PG X tg g) (hs : swapsWithSole [tg] e pos.line X.env = pure false := by rfl) (hw : swappedStores [tg] e X.env = pure none := by rfl)
  (h1 : (assignEach [tg] X.env).map (·.2) = [assign tg X.env] := by rfl) : PS X (.Assign [tg] e pos) (tAsg te g) := by
 intro pins s σ H D I h
 refine wpAny_Assign_stores (thn (he pins s σ H _ I h) fun v s1 ⟨x, H1, I1, r1, q1⟩ => ?_) hs hw
 rw [h1]
 exact thn (hg pins s1 σ H1 x v _ I1 r1 q1) fun _ s2 q => q
theorem ps_set {i : Nat} {x : Str} {e : Expr} {te : TE} {pos' : Pos} (hN : X.N.Nodup) (hi : X.N[i]? = some x) (hx : Loc X.env.scope x) (he : PE X e te) (hs : swapsWith e (some (.Name x pos')) pos.line X.env = pure false := by rfl) (hf : X.fn x = true ∨ X.env.scope.names.lookup x = some .local := by first | exact .inl rfl | exact .inr rfl | assumption) :
  PS X (.Assign [.Name x pos'] e pos) (tAsg te (gName i)) := by
 intro pins s σ H D I h
 refine wpAny_Assign_Name (thn (he pins s σ H _ I h) fun v s1 ⟨y, H1, I1, r1, q1⟩ => ?_) hs
 exact store_ok I1 hN hi hx r1 (fun s2 I2 => ⟨_, H1, I2, q1⟩) hf
def tPar (i j : Nat) (ta : TA) : TS := fun D σ H => ta σ H fun vs H1 => ∃ v w, vs = [v, w] ∧ D.nx ((σ.set i (some v)).set j (some w)) H1
theorem ps_par {i j : Nat} {x y : Str} {a b : Expr} {ta : TA} {px py pt : Pos} {kt k2 pt2} (hc : X.calm = true) (hN : X.N.Nodup) (hi : X.N[i]? = some x) (hj : X.N[j]? = some y) (hij : i ≠ j)
  (hx : X.env.scope.names.lookup x = some .local) (hy : X.env.scope.names.lookup y = some .local) (ha : PA X [a, b] ta)
  (hw : swappedStores [.Tuple [.Name x px, .Name y py] kt pt] (.Tuple [a, b] k2 pt2) X.env = pure (some [x, y]))
  (hs : swapsWithSole [.Tuple [.Name x px, .Name y py] kt pt] (.Tuple [a, b] k2 pt2) pos.line X.env = pure false := by rfl) :
  PS X (.Assign [.Tuple [.Name x px, .Name y py] kt pt] (.Tuple [a, b] k2 pt2) pos) (tPar i j ta) := by
 intro pins s σ H D I h
 rw [exec_Assign_arm]
 refine wpAny_bind (wpAny_standAt ?_)
 rw [hs]
 refine wpAny_bind (wpAny_pure ?_)
 rw [if_neg (by decide)]
 refine wpAny_bind (Tuple_ (thn (ha _ pins s σ H _ I h) fun us s1 ⟨vs, H1, I1, r1, q1⟩ => ?_))
 obtain ⟨v, w, e1, q1⟩ := q1
 subst e1
 obtain ⟨u1, u2, rfl, rv, rw'⟩ : ∃ u1 u2, us = [u1, u2] ∧ RelV v u1 ∧ RelV w u2 := by
  cases r1 with
  | cons p q =>
   cases q with
   | cons p' q' =>
    cases q'
    exact ⟨_, _, rfl, p, p'⟩
 refine wpAny_newObj_type ?_ (by show 2 ≤ sizeLine; decide)
 have I2 : Inv X pins σ H1 { s1 with heap := s1.heap.push { cls := .type "tuple", data := .seq [u1, u2].toArray } } := I1.kept (t' := s1.toks) fun b o e => Heap.get?_push_of_some _ e
 rw [hw]
 refine wpAny_bind (wpAny_pure ?_)
 show wpAny (model X.prog X.w) X.A (do rule "assign.swapped-stores"; let items ← unpackItems (.ref s1.heap.objs.size) 2 none; assignInOrder [fun v => bindName X.env y v, fun v => bindName X.env x v] items.reverse; pure Flow.next) _ _ _
 refine wpAny_bind (wpAny_rule (wpAny_bind (unpackItems_tuple (items := #[u1, u2]) (I.ok.hd hc) (IsTup.new s1.heap _) fun h' hx' => ?_)))
 have I3 := I2.kept (h' := h') (t' := s1.toks) fun b o e => hx' b o (Nat.ne_of_lt (Heap.lt_size e)) e
 show wpAny _ _ (assignInOrder [fun v => bindName X.env y v, fun v => bindName X.env x v] [u2, u1] >>= fun _ => pure Flow.next) _ _ _
 refine wpAny_bind (assignInOrder_cons (wpAny_bindName (store_ok I3 hN hj (.inl hy) rw' (fun s2 I4 => ?_) (.inr hy))))
 refine assignInOrder_cons (wpAny_bindName (store_ok I4 hN hi (.inl hx) rv (fun s3 I5 => assignInOrder_nil (wpAny_pure ?_)) (.inr hx)))
 rw [List.set_comm _ _ (Ne.symm hij)] at I5
 exact ⟨_, H1, I5, q1⟩
end
section
variable {X : Cx} {pos : Pos}
def tWhile (c : TT) (tb : TS) : TS := fun D σ H => ∃ W : Nat → St → Hp → Prop, (∃ m, W m σ H) ∧ ∀ m σ H, W m σ H →
 c σ H fun b H1 => if b = true then ∃ N : St → Hp → Prop, (∀ σ' H', N σ' H' → ∃ m', m' < m ∧ W m' σ' H') ∧ tb { D with nx := N, ct := N, bk := D.nx } σ H1 else D.nx σ H1
theorem ps_while {c : Expr} {body : List Stmt} {tc : TT} {tb : TS} (hp : PassesOwn (model X.prog X.w) X.A X.env X.xe) (hc : PT X c tc) (hb : PSs X body tb) : PS X (.While c body [] pos) (tWhile tc tb) := by
 intro pins s σ H D I h
 obtain ⟨W, ⟨m0, w0⟩, turn⟩ := h
 refine wpAny_While (codeAny_whileLoop (fun n s' => ∃ σ' H', Inv X pins σ' H' s' ∧ W n σ' H') ?_ m0 ⟨σ, H, I, w0⟩)
 rintro n s1 ⟨σ1, H1, I1, w1⟩
 refine wpAny_passesOwn hp (thn (hc pins s1 σ1 H1 _ I1 (turn n σ1 H1 w1)) fun b s2 ⟨H2, I2, q2⟩ => ?_)
 cases b with
 | true =>
  obtain ⟨N, hN, q2⟩ := q2
  rw [if_pos rfl]
  refine wpAny_passesOwn hp (thn (hb pins s2 σ1 H2 _ I2 q2) fun f s3 q3 => ?_)
  cases f with
  | next =>
   obtain ⟨σ3, H3, I3, n3⟩ := q3
   obtain ⟨m', hm, w3⟩ := hN σ3 H3 n3
   exact ⟨m', hm, σ3, H3, I3, w3⟩
  | cont =>
   obtain ⟨σ3, H3, I3, n3⟩ := q3
   obtain ⟨m', hm, w3⟩ := hN σ3 H3 n3
   exact ⟨m', hm, σ3, H3, I3, w3⟩
  | brk => exact q3
  | ret v => exact q3
 | false =>
  rw [if_neg Bool.false_ne_true]
  exact wpAny_execs_nil ⟨σ1, H2, I2, q2⟩
end
structure It where
 go : Nat → Hp → Prop
 yld : Nat → Hp → V → Hp → Prop
 stop : Nat → Hp → Prop
def FpOk (X : Cx) (pins : List (Addr × Obj)) (H : Hp) (b : Addr) : Prop :=
 H b = none ∧ b ≠ X.env.locals ∧ b ∉ X.fs ∧ (b ∈ X.ex ∨ X.s₀.heap.objs.size ≤ b) ∧ (∀ x c, X.env.cells.lookup x = some c → c ≠ b) ∧ ∀ p ∈ X.pn ++ pins, p.1 ≠ b
theorem Inv.fpOk {X : Cx} {pins : List (Addr × Obj)} {σ : St} {H H' : Hp} {s : Shared} {b : Addr} (I : Inv X pins σ H s) (hb : s.heap.objs.size ≤ b) (hn : H' b = none) : FpOk X pins H' b := by
 refine ⟨hn, Nat.ne_of_gt (Nat.lt_of_lt_of_le I.lt hb), I.nofs hb, .inr (Nat.le_trans I.sz hb), fun x c e z => ?_, fun p hp z => ?_⟩
 ·obtain ⟨v, q⟩ := I.cell x c e
  exact absurd (Nat.lt_of_lt_of_le q.lt (by rw [z]; exact hb)) (Nat.lt_irrefl _)
 ·exact absurd (Nat.lt_of_lt_of_le (Heap.lt_size (I.pin p hp).1) (by rw [z]; exact hb)) (Nat.lt_irrefl _)
structure Turn (P : Program) (w : World) (K : PySem.W.Frag) (tg : Expr) (J : It) (fp : List Addr) (it : Addr) (tn : Nat → Heap → Prop) : Prop where
 mem : it ∈ fp
 obj : ∀ i h, tn i h → ∀ b ∈ fp, ∃ o, h.get? b = some o ∧ ∀ v, o.data ≠ .cell v
 keep : ∀ i h h', tn i h → (∀ b ∈ fp, ∀ o, h.get? b = some o → h'.get? b = some o) → tn i h'
 item : ∀ (X : Cx), X.prog = P → X.w = w → X.K = K → X.calm = true → ∀ (i : Nat) (pins : List (Addr × Obj)) (s : Shared) (σ : St) (H : Hp) (E : Value → Shared → Prop), Inv X pins σ H s → (∀ b ∈ fp, FpOk X pins H b) → tn i s.heap → J.go i H →
  wpAny (model P w) X.A (pyNext (.ref it)) (fun r s1 => ∃ u, r = some u ∧
   wpAny (model P w) X.A (letOwnedTupleGo tg (.ref it) u) (fun _ s2 => ∃ x H', Inv X pins σ H' s2 ∧ RelV x u ∧ J.yld i H x H' ∧ tn (i + 1) s2.heap ∧ ∀ b ∈ fp, H' b = none) E s1) E s
 done : ∀ (X : Cx), X.prog = P → X.w = w → X.K = K → X.calm = true → ∀ (i : Nat) (pins : List (Addr × Obj)) (s : Shared) (σ : St) (H : Hp) (E : Value → Shared → Prop), Inv X pins σ H s → (∀ b ∈ fp, FpOk X pins H b) → tn i s.heap → J.stop i H →
  wpAny (model P w) X.A (pyNext (.ref it)) (fun r s1 => r = none ∧ Inv X pins σ H s1) E s
 self : ∀ (A : Around) (i : Nat) (s : Shared) (Q : Value → Shared → Prop) (E : Value → Shared → Prop), tn i s.heap → Q (.ref it) s → wpAny (model P w) A (pyIter (.ref it)) Q E s
abbrev TI := St → Hp → (It → Hp → Prop) → Prop
def PIE (X : Cx) (pins : List (Addr × Obj)) (σ : St) (tg : Expr) (R : It → Hp → Prop) (itv : Value) (s2 : Shared) : Prop :=
 ∃ (it : Addr) (fp : List Addr) (tn : Nat → Heap → Prop) (J : It) (H' : Hp), itv = .ref it ∧ Inv X pins σ H' s2 ∧ Turn X.prog X.w X.K tg J fp it tn ∧ tn 0 s2.heap ∧ (∀ b ∈ fp, FpOk X pins H' b) ∧ R J H'
def PI (X : Cx) (tg iter : Expr) (wi : TI) : Prop :=
 ∀ (pins : List (Addr × Obj)) (s : Shared) (σ : St) (H : Hp) (R : It → Hp → Prop), Inv X pins σ H s → wi σ H R →
  wpAny (model X.prog X.w) X.A (eval iter X.env) (fun v s1 => wpAny (model X.prog X.w) X.A (pyIter v) (PIE X pins σ tg R) X.xe s1) X.xe s
theorem go_of {M : Model} {A : Around} {E : Value → Shared → Prop} {s : Shared} {tg : Expr} {it : Addr} {u : Value} {o : Obj} {n : String} {vs : Array Value} {Q : Unit → Shared → Prop} (ho : s.heap.get? it = some o) (hc : o.cls = .type n) (hd : o.data = .fields vs)
    (hn : ["enumerate", "zip", "dict_itemiterator", "dict_reverseitemiterator", "odict_iterator", "itertools.zip_longest", "itertools.pairwise"].contains n = false) (hQ : Q () s) : wpAny M A (letOwnedTupleGo tg (.ref it) u) Q E s := by
  unfold letOwnedTupleGo
  cases tg <;> first
    | exact wpAny_pure hQ
    | (cases u <;> first
        | exact wpAny_pure hQ
        | (refine wpAny_bind (wpAny_load ho ?_)
           rw [hc, hd]
           show wpAny M A (if (["enumerate", "zip", "dict_itemiterator", "dict_reverseitemiterator", "odict_iterator", "itertools.zip_longest", "itertools.pairwise"].contains n && vs[0]? == some (rawInt _)) = true then _ else _) Q E s
           rw [if_neg (by intro h; rw [hn, Bool.false_and] at h; cases h)]
           exact wpAny_pure hQ))
def Itl (K : PySem.W.Frag) (a : Addr) : It :=
 ⟨fun i H => ∃ xs x, SqL K H a xs ∧ xs[i]? = some x, fun i H x H' => H' = H ∧ ∀ xs, SqL K H a xs → xs[i]? = some x, fun i H => ∃ xs, SqL K H a xs ∧ xs.length ≤ i⟩
def Itr (lo : Int) (n : Nat) : It := ⟨fun i _ => i < n, fun i H x H' => H' = H ∧ x = .int (lo + i), fun i _ => n ≤ i⟩
theorem turn_list {P : Program} {w : World} {K : PySem.W.Frag} {tg : Expr} (a it : Addr) : Turn P w K tg (Itl K a) [it] it (fun i h => h.IsListIter it a i) where
 mem := by simp
 obj := fun i h st b hb => by
  have e : b = it := by simpa using hb
  subst e
  obtain ⟨o, e, c, d⟩ := st
  exact ⟨o, e, fun v z => by rw [d] at z; cases z⟩
 keep := fun i h h' st k => st.at fun o e => k it (by simp) o e
 item := by
  intro X hP hw hK hc i pins s σ H E I hf st hg
  subst hP hw hK
  obtain ⟨xs, x, hq, hx⟩ := hg
  obtain ⟨its, rv, p, hz⟩ := I.list hq
  obtain ⟨u, hu, ru⟩ := rv.get hx
  obtain ⟨f0, f1, f2, f3, f4, f5⟩ := hf it (by simp)
  refine wpAny_pyNext_list_item st p.isList (x := u) (by simpa using hu) fun h' st' sb => ?_
  have I1 : Inv X pins σ H { s with heap := h' } := I.turned (t' := s.toks) (fun b o hb e => (sb.2 b hb).trans e) f0 f1 f3 f4 f5
  obtain ⟨o, e, c, d⟩ := id st'
  exact ⟨u, rfl, go_of (s := { s with heap := h' }) e c d (by decide) ⟨x, H, I1, ru, ⟨rfl, fun ys hy => by rw [I.list_inj hy hq]; exact hx⟩, st', fun b hb => (hf b hb).1⟩⟩
 done := by
  intro X hP hw hK hc i pins s σ H E I hf st hg
  subst hP hw hK
  obtain ⟨xs, hq, hx⟩ := hg
  obtain ⟨its, rv, p, hz⟩ := I.list hq
  obtain ⟨f0, f1, f2, f3, f4, f5⟩ := hf it (by simp)
  have hl := rv.length
  exact wpAny_pyNext_list_end (I.ok.hd hc) st p.isList (by simp; omega) fun h' eb => ⟨rfl, I.turned (t' := s.toks) (fun b o hb e => eb b o hb e) f0 f1 f3 f4 f5⟩
 self := fun _ _ _ _ _ st h => wpAny_pyIter_listiter st h
theorem turn_range {P : Program} {w : World} {K : PySem.W.Frag} {tg : Expr} (it : Addr) (lo : Int) (n : Nat) : Turn P w K tg (Itr lo n) [it] it (fun i h => IsRangeIter h it (lo + (i : Nat) * 1) ((n : Int) - (i : Nat)) 1) where
 mem := by simp
 obj := fun i h st b hb => by
  have e : b = it := by simpa using hb
  subst e
  exact ⟨_, st, fun v z => by
   have z' : Data.fields _ = Data.cell v := z
   cases z'⟩
 keep := fun i h h' st k => k it (by simp) _ st
 item := by
  intro X hP hw hK hc i pins s σ H E I hf st hg
  subst hP hw hK
  obtain ⟨f0, f1, f2, f3, f4, f5⟩ := hf it (by simp)
  have W := Walks.range (prog := X.prog) (w := X.w) (I.ok.hd hc) it lo 1 n
  refine W.item i s _ _ hg st fun v h' tk hv st' kk => ?_
  obtain ⟨t, rfl⟩ := hv
  have I1 : Inv X pins σ H { s with heap := h', toks := tk } := I.turned (fun b o hb e => kk b o (by simpa using hb) e) f0 f1 f3 f4 f5
  refine ⟨_, rfl, go_of (s := { s with heap := h', toks := tk }) (n := "range_iterator") st' rfl rfl (by decide) ⟨.int (lo + i), H, I1, ⟨t, ?_⟩, ⟨rfl, rfl⟩, st', fun b hb => (hf b hb).1⟩⟩
  rw [Int.mul_one]
 done := by
  intro X hP hw hK hc i pins s σ H E I hf st hg
  subst hP hw hK
  obtain ⟨f0, f1, f2, f3, f4, f5⟩ := hf it (by simp)
  exact wpAny_pyNext_range_end (I.ok.hd hc) st (by have : n ≤ i := hg; omega) fun h' eb => ⟨rfl, I.turned (t' := s.toks) (fun b o hb e => eb b o hb e) f0 f1 f3 f4 f5⟩
 self := fun _ _ _ _ _ st h => wpAny_pyIter_rangeiter st h
end L2
namespace L2
open PySem PySem.Spec PyProof.Rows
section
variable {X : Cx} {tg : Expr}
def iList (K : PySem.W.Frag) (tl : TE) : TI := fun σ H R => tl σ H fun x H1 => ∃ a, x = .ref a ∧ (∃ xs, SqL K H1 a xs) ∧ R (Itl K a) H1
theorem pi_list {l : Expr} {tl : TE} (hl : PE X l tl) : PI X tg l (iList X.K tl) := by
 intro pins s σ H R I h
 refine thn (hl pins s σ H _ I h) fun v s1 ⟨x, H1, I1, r1, q1⟩ => ?_
 obtain ⟨a, e, ⟨xs, hq⟩, q⟩ := q1
 subst e
 cases r1
 obtain ⟨its, rv, p, hz⟩ := I1.list hq
 refine wpAny_pyIter_list p.isList ?_
 refine ⟨s1.heap.objs.size, [s1.heap.objs.size], _, _, H1, rfl, I1.kept (t' := s1.toks) fun b o e => Heap.get?_push_of_some _ e, turn_list a _, ⟨_, Heap.get?_push_size _ rfl, rfl, rfl⟩, fun b hb => ?_, q⟩
 have e : b = s1.heap.objs.size := by simpa using hb
 subst e
 exact I1.fpOk (Nat.le_refl _) (I1.hok.fresh (Nat.le_refl _))
theorem range_it {pins : List (Addr × Obj)} {σ : St} {H : Hp} {s : Shared} {R : It → Hp → Prop} {E : Value → Shared → Prop} {lo hi : Int} {t u v : Tok} {tk : Nat} (I : Inv X pins σ H s) (h1 : -(2 ^ 62) ≤ lo) (h2 : lo < 2 ^ 62) (h3 : -(2 ^ 62) ≤ hi) (h4 : hi < 2 ^ 62)
  (q : R (Itr lo (hi - lo).toNat) H) : wpAny (model X.prog X.w) X.A (pyIter (.ref s.heap.objs.size)) (PIE X pins σ tg R) E { s with heap := s.heap.push { cls := .type "range", data := .fields #[.int lo t, .int hi u, .int 1 v] }, toks := tk } := by
 refine wpAny_pyIter_range (IsRange.new ..) (small_one h1 h2 h3 h4) ?_
 have I1 : Inv X pins σ H { s with heap := s.heap.push { cls := .type "range", data := .fields #[.int lo t, .int hi u, .int 1 v] }, toks := tk } := I.kept fun b o e => Heap.get?_push_of_some _ e
 refine ⟨(s.heap.push { cls := .type "range", data := .fields #[.int lo t, .int hi u, .int 1 v] }).objs.size, [(s.heap.push { cls := .type "range", data := .fields #[.int lo t, .int hi u, .int 1 v] }).objs.size], _, _, H, rfl,
  I1.kept (t' := tk) fun b o e => Heap.get?_push_of_some _ e, turn_range _ lo (hi - lo).toNat, ?_, fun b hb => ?_, q⟩
 ·have e1 : lo + ((0 : Nat) : Int) * 1 = lo := by simp
  have e2 : (((hi - lo).toNat : Nat) : Int) - ((0 : Nat) : Int) = Builtin.Range.rangeSize lo hi 1 := by rw [rangeSize_one]; split <;> omega
  show IsRangeIter _ _ (lo + ((0 : Nat) : Int) * 1) ((((hi - lo).toNat : Nat) : Int) - ((0 : Nat) : Int)) 1
  rw [e1, e2]
  exact Heap.get?_push_size _ rfl
 ·have e : b = (s.heap.push { cls := .type "range", data := .fields #[.int lo t, .int hi u, .int 1 v] }).objs.size := by simpa using hb
  subst e
  exact I1.fpOk (Nat.le_refl _) (I1.hok.fresh (Nat.le_refl _))
def iRng1 (ta : TA) : TI := fun σ H R => ta σ H fun vs H1 => ∃ j : Int, vs = [.int j] ∧ -(2 ^ 62) ≤ j ∧ j < 2 ^ 62 ∧ R (Itr 0 j.toNat) H1
def iRng2 (ta : TA) : TI := fun σ H R => ta σ H fun vs H1 => ∃ i j : Int, vs = [.int i, .int j] ∧ (-(2 ^ 62) ≤ i ∧ i < 2 ^ 62 ∧ -(2 ^ 62) ≤ j ∧ j < 2 ^ 62) ∧ R (Itr i (j - i).toNat) H1
theorem pi_range1 {a : Expr} {ta : TA} {p pos : Pos} (hg : Gl X "range") (hm : X.mg "range" = none) (ha : PA X [a] ta) (hs : starEach [a] X.env = [(false, eval a X.env)] := by rfl) : PI X tg (.Call (.Name "range" p) [a] [] pos) (iRng1 ta) := by
 intro pins s σ H R I h
 refine Call_ (ld_blt I hg hm boot_range (PyProof.Rows.callWith_type1 (thn (ha pos pins s σ H _ I h) fun us s1 ⟨vs, H1, I1, r1, q1⟩ => ?_) hs rfl))
 obtain ⟨j, e, q1, q2, q⟩ := q1
 subst e
 cases r1 with
 | cons r rr =>
  cases rr
  obtain ⟨t, rfl⟩ := r
  exact call_range_1 (range_it I1 (by omega) (by omega) q1 q2 (by simpa using q))
theorem pi_range2 {a b : Expr} {ta : TA} {p pos : Pos} (hg : Gl X "range") (hm : X.mg "range" = none) (ha : PA X [a, b] ta) (hs : starEach [a, b] X.env = [(false, eval a X.env), (false, eval b X.env)] := by rfl) (hs2 : starEach [b] X.env = [(false, eval b X.env)] := by rfl) :
  PI X tg (.Call (.Name "range" p) [a, b] [] pos) (iRng2 ta) := by
 intro pins s σ H R I h
 refine Call_ (ld_blt I hg hm boot_range (PyProof.Rows.callWith_type1 (thn (ha pos pins s σ H _ I h) fun us s1 ⟨vs, H1, I1, r1, q1⟩ => ?_) (by rw [hs, hs2]) (by rw [hs2]; rfl)))
 obtain ⟨i, j, e, ⟨q1, q2, q3, q4⟩, q⟩ := q1
 subst e
 cases r1 with
 | cons r rr =>
  cases rr with
  | cons r' rr =>
   cases rr
   obtain ⟨t, rfl⟩ := r
   obtain ⟨t', rfl⟩ := r'
   exact call_range_2 (range_it I1 q1 q2 q3 q4 q)
def tFor (wi : TI) (g : TG) (tb : TS) : TS := fun D σ H => wi σ H fun J H1 => ∃ W : Nat → Nat → St → Hp → Prop, (∃ m, W 0 m σ H1) ∧ ∀ i m σ H, W i m σ H →
 (J.stop i H ∧ D.nx σ H) ∨ (J.go i H ∧ ∃ N : St → Hp → Prop, (∀ σ' H', N σ' H' → ∃ m', m' < m ∧ W (i + 1) m' σ' H') ∧ ∀ x H', J.yld i H x H' → g x σ H' fun σ2 H2 => tb { D with nx := N, ct := N, bk := D.nx } σ2 H2)
def pinsAt (fp : List Addr) (h : Heap) : List (Addr × Obj) := fp.filterMap fun b => (h.get? b).map fun o => (b, o)
theorem mem_pinsAt {fp : List Addr} {h : Heap} {b : Addr} {o : Obj} (hb : b ∈ fp) (e : h.get? b = some o) : (b, o) ∈ pinsAt fp h := List.mem_filterMap.mpr ⟨b, hb, by rw [e]; rfl⟩
theorem of_pinsAt {fp : List Addr} {h : Heap} {p : Addr × Obj} (hp : p ∈ pinsAt fp h) : p.1 ∈ fp ∧ h.get? p.1 = some p.2 := by
 obtain ⟨b, hb, e⟩ := List.mem_filterMap.mp hp
 cases q : h.get? b with
 | none => rw [q] at e; cases e
 | some o =>
  rw [q] at e
  have e' : (b, o) = p := Option.some.inj e
  subst e'
  exact ⟨hb, q⟩
theorem Inv.pinned {pins : List (Addr × Obj)} {σ : St} {H : Hp} {s : Shared} {fp : List Addr} (I : Inv X pins σ H s) (hf : ∀ b ∈ fp, FpOk X pins H b) (ho : ∀ b ∈ fp, ∃ o, s.heap.get? b = some o ∧ ∀ v, o.data ≠ .cell v) : Inv X (pins ++ pinsAt fp s.heap) σ H s :=
 I.pins_of fun p hp => (List.mem_append.mp hp).elim (fun z => I.pin p (List.mem_append_right _ z)) fun z => by
  obtain ⟨hb, e⟩ := of_pinsAt z
  obtain ⟨f0, f1, f2, _⟩ := hf p.1 hb
  obtain ⟨o, e', d⟩ := ho p.1 hb
  rw [e] at e'; cases e'
  exact ⟨e, f0, f1, f2, d⟩
theorem Inv.unpinned {pins pl : List (Addr × Obj)} {σ : St} {H : Hp} {s : Shared} (I : Inv X (pins ++ pl) σ H s) : Inv X pins σ H s := I.pins_of fun p hp => I.pin p (List.mem_append_right _ (List.mem_append_left _ hp))
theorem ps_for {iter : Expr} {body : List Stmt} {wi : TI} {g : TG} {tb : TS} {pos : Pos} (hp : PassesOwn (model X.prog X.w) X.A X.env X.xe) (hc : X.calm = true) (hi : PI X tg iter wi) (hg : PG X tg g) (hb : PSs X body tb)
  (hs : ∀ x, foldedSetIterable iter X.env x = pure x := by intro _; rfl) : PS X (.For tg iter body [] pos) (tFor wi g tb) := by
 intro pins s σ H D I h
 refine wpAny_For (thn (hi pins s σ H _ I h) fun v s1 h1 => thn h1 fun itv s2 h2 => ?_) hs
 obtain ⟨it, fp, tn, J, H2, e, I2, T, st2, f2, W, ⟨m0, w0⟩, turn⟩ := h2
 subst e
 -- what stays true of the iterator's objects through the loop
 have stat : ∀ {H' : Hp}, (∀ b ∈ fp, H' b = none) → ∀ b ∈ fp, FpOk X pins H' b := fun hn b hb => ⟨hn b hb, (f2 b hb).2⟩
 refine codeAny_forLoop_any (fun n s' => ∃ i σ' H', Inv X pins σ' H' s' ∧ tn i s'.heap ∧ (∀ b ∈ fp, H' b = none) ∧ W i n σ' H') ?_ m0 ⟨0, σ, H2, I2, st2, fun b hb => (f2 b hb).1, w0⟩
 rintro n s3 ⟨i, σ3, H3, I3, st3, fr3, w3⟩
 rcases turn i n σ3 H3 w3 with ⟨stop, qn⟩ | ⟨go, N, hN, step⟩
 ·refine wpAny_passesOwn hp (thn (T.done X rfl rfl rfl hc i pins s3 σ3 H3 X.xe I3 (stat fr3) st3 stop) fun r s4 ⟨hr, I4⟩ => ?_)
  subst hr
  exact wpAny_execs_nil ⟨σ3, H3, I4, qn⟩
 ·refine wpAny_passesOwn hp (thn (T.item X rfl rfl rfl hc i pins s3 σ3 H3 X.xe I3 (stat fr3) st3 go) fun r s4 ⟨u, hr, h4⟩ => ?_)
  subst hr
  refine wpAny_passesOwn hp (thn h4 fun _ s5 ⟨x, H5, I5, r5, y5, st5, fr5⟩ => ?_)
  have I5' := I5.pinned (stat fr5) (T.obj _ _ st5)
  refine wpAny_passesOwn hp (thn (hg _ s5 σ3 H5 x u _ I5' r5 (step x H5 y5)) fun _ s6 ⟨σ6, H6, I6, q6⟩ => ?_)
  refine wpAny_passesOwn hp (thn (hb _ s6 σ6 H6 _ I6 q6) fun f s7 q7 => ?_)
  have again : ∀ {σ7 : St} {H7 : Hp}, Inv X (pins ++ pinsAt fp s5.heap) σ7 H7 s7 → N σ7 H7 → ∃ m, m < n ∧ ∃ i σ' H', Inv X pins σ' H' s7 ∧ tn i s7.heap ∧ (∀ b ∈ fp, H' b = none) ∧ W i m σ' H' := fun {σ7 H7} I7 n7 => by
   obtain ⟨m', hm, w7⟩ := hN σ7 H7 n7
   refine ⟨m', hm, i + 1, σ7, H7, I7.unpinned, T.keep _ _ _ st5 fun b hb o e => (I7.pin (b, o) (List.mem_append_right _ (List.mem_append_right _ (mem_pinsAt hb e)))).1, fun b hb => ?_, w7⟩
   obtain ⟨o, e, d⟩ := T.obj _ _ st5 b hb
   exact (I7.pin (b, o) (List.mem_append_right _ (List.mem_append_right _ (mem_pinsAt hb e)))).2.1
  cases f with
  | next => obtain ⟨σ7, H7, I7, n7⟩ := q7; exact again I7 n7
  | cont => obtain ⟨σ7, H7, I7, n7⟩ := q7; exact again I7 n7
  | brk => obtain ⟨σ7, H7, I7, q7⟩ := q7; exact ⟨σ7, H7, I7.unpinned, q7⟩
  | ret v => obtain ⟨x7, σ7, H7, I7, r7, q7⟩ := q7; exact ⟨x7, σ7, H7, I7.unpinned, r7, q7⟩
end
end L2
namespace L2
open PySem PySem.Spec PyProof.Rows
abbrev R2 := V → V → Hp → VK → Prop
def OpR (X : Cx) (f : Value → Value → Sem Value) (r : R2) : Prop :=
 ∀ (pins : List (Addr × Obj)) (s : Shared) (σ : St) (H : Hp) (x y : V) (v u : Value) (Q : VK), Inv X pins σ H s → RelV x v → RelV y u → r x y H Q →
  wpAny (model X.prog X.w) X.A (f v u) (EP X pins σ Q) X.xe s
def UnR (X : Cx) (f : Value → Sem Value) (r : V → Hp → VK → Prop) : Prop :=
 ∀ (pins : List (Addr × Obj)) (s : Shared) (σ : St) (H : Hp) (x : V) (v : Value) (Q : VK), Inv X pins σ H s → RelV x v → r x H Q →
  wpAny (model X.prog X.w) X.A (f v) (EP X pins σ Q) X.xe s
def CallR (X : Cx) (f : Value) (r : List V → Hp → VK → Prop) : Prop :=
 ∀ (pins : List (Addr × Obj)) (s : Shared) (σ : St) (H : Hp) (xs : List V) (us : List Value) (Q : VK), Inv X pins σ H s → Vals xs us → r xs H Q →
  wpAny (model X.prog X.w) X.A (call f us) (EP X pins σ Q) X.xe s
def tOp (r : R2) (ta tb : TE) : TE := fun σ H Q => ta σ H fun x H1 => tb σ H1 fun y H2 => r x y H2 Q
def tUn (r : V → Hp → VK → Prop) (ta : TE) : TE := fun σ H Q => ta σ H fun x H1 => r x H1 Q
def rI (C : Int → Int → Prop) (g : Int → Int → V) : R2 := fun x y H Q => ∃ i j, x = .int i ∧ y = .int j ∧ C i j ∧ Q (g i j) H
def rI0 (g : Int → Int → V) : R2 := fun x y H Q => ∃ i j, x = .int i ∧ y = .int j ∧ Q (g i j) H
def rU (g : Int → V) : V → Hp → VK → Prop := fun x H Q => ∃ i, x = .int i ∧ Q (g i) H
section
variable {X : Cx} {a b c : Expr} {ta tb tc : TE} {pos : Pos}
theorem binT (ha : PE X a ta) (hb : PE X b tb) {pins : List (Addr × Obj)} {s : Shared} {σ : St} {H : Hp} {R : V → V → Hp → Prop} (I : Inv X pins σ H s)
  (h : ta σ H fun x H1 => tb σ H1 fun y H2 => R x y H2) {Q : Value → Shared → Prop} {f : Value → Value → Sem Value}
  (hf : ∀ v u s2 x y H2, Inv X pins σ H2 s2 → RelV x v → RelV y u → R x y H2 → wpAny (model X.prog X.w) X.A (f v u) Q X.xe s2) :
  wpAny (model X.prog X.w) X.A (eval a X.env) (fun v s₁ => wpAny (model X.prog X.w) X.A (eval b X.env) (fun u s₂ => wpAny (model X.prog X.w) X.A (f v u) Q X.xe s₂) X.xe s₁) X.xe s := by
 refine thn (ha pins s σ H _ I h) fun v s1 ⟨x, H1, I1, r1, q1⟩ => ?_
 refine thn (hb pins s1 σ H1 _ I1 q1) fun u s2 ⟨y, H2, I2, r2, q2⟩ => ?_
 exact hf v u s2 x y H2 I2 r1 r2 q2
theorem pe_op {op : Operator} {r : R2} (ho : OpR X (binaryOp op) r) (ha : PE X a ta) (hb : PE X b tb) : PE X (.BinOp a op b pos) (tOp r ta tb) := by
 intro pins s σ H Q I h
 exact wpAny_BinOp (binT ha hb I h fun v u s2 x y H2 I2 rx ry q => ho pins s2 σ H2 x y v u Q I2 rx ry q)
theorem pe_un {op : UnaryOp} {r : V → Hp → VK → Prop} (ho : UnR X (unaryOp op) r) (ha : PE X a ta) : PE X (.UnaryOp op a pos) (tUn r ta) := by
 intro pins s σ H Q I h
 exact UnaryOp_ (thn (ha pins s σ H _ I h) fun v s1 ⟨x, H1, I1, r1, q1⟩ => ho pins s1 σ H1 x v Q I1 r1 q1)
theorem opI {f : Value → Value → Sem Value} {C : Int → Int → Prop} {g : Int → Int → Int}
  (rule : ∀ (i j : Int) (t u : Tok) (s : Shared) (Q : Value → Shared → Prop) (E : Value → Shared → Prop), C i j → Q (.int (g i j) s.toks) { s with toks := s.toks + 1 } → wpAny (model X.prog X.w) X.A (f (.int i t) (.int j u)) Q E s) :
  OpR X f (rI C fun i j => .int (g i j)) := by
 intro pins s σ H x y v u Q I rx ry h
 obtain ⟨i, j, rfl, rfl, hc, q⟩ := h
 obtain ⟨t, rfl⟩ := rx
 obtain ⟨t', rfl⟩ := ry
 exact rule i j t t' s _ _ hc ⟨.int (g i j), H, I.tok _, ⟨_, rfl⟩, q⟩
theorem opI0 {f : Value → Value → Sem Value} {g : Int → Int → Int}
  (rule : ∀ (i j : Int) (t u : Tok) (s : Shared) (Q : Value → Shared → Prop) (E : Value → Shared → Prop), Q (.int (g i j) s.toks) { s with toks := s.toks + 1 } → wpAny (model X.prog X.w) X.A (f (.int i t) (.int j u)) Q E s) :
  OpR X f (rI0 fun i j => .int (g i j)) := by
 intro pins s σ H x y v u Q I rx ry h
 obtain ⟨i, j, rfl, rfl, q⟩ := h
 obtain ⟨t, rfl⟩ := rx
 obtain ⟨t', rfl⟩ := ry
 exact rule i j t t' s _ _ ⟨.int (g i j), H, I.tok _, ⟨_, rfl⟩, q⟩
theorem opB0 {f : Value → Value → Sem Value} {g : Int → Int → Bool}
  (rule : ∀ (i j : Int) (t u : Tok) (s : Shared) (Q : Value → Shared → Prop) (E : Value → Shared → Prop), Q (.bool (g i j)) s → wpAny (model X.prog X.w) X.A (f (.int i t) (.int j u)) Q E s) :
  OpR X f (rI0 fun i j => .bl (g i j)) := by
 intro pins s σ H x y v u Q I rx ry h
 obtain ⟨i, j, rfl, rfl, q⟩ := h
 obtain ⟨t, rfl⟩ := rx
 obtain ⟨t', rfl⟩ := ry
 exact rule i j t t' s _ _ ⟨.bl (g i j), H, I, rfl, q⟩
def CPow (i j : Int) : Prop := 0 ≤ j ∧ j ≤ 1000000 ∧ i.natAbs < 2 ^ 64
def CMul (i j : Int) : Prop := (-(2 ^ 64) < i ∧ i < 2 ^ 64) ∨ (-(2 ^ 64) < j ∧ j < 2 ^ 64)
theorem CMul.ok {i j : Int} (h : CMul i j) : IntMulOk i j := by
 rcases h with ⟨h1, h2⟩ | ⟨h1, h2⟩
 ·exact .of_left (intBits_le_64 h1 h2)
 ·exact .of_right (intBits_le_64 h1 h2)
theorem op_add : OpR X (binaryOp .Add) (rI0 fun i j => .int (i + j)) := opI0 fun _ _ _ _ _ _ _ q => add_int q
theorem op_sub : OpR X (binaryOp .Sub) (rI0 fun i j => .int (i - j)) := opI0 fun _ _ _ _ _ _ _ q => sub_int q
theorem op_modN : OpR X (binaryOp .Mod) (rI (fun _ j => j ≠ 0) fun i j => .int (i.fmod j)) := opI fun _ _ _ _ _ _ _ hc q => mod_int' hc q
theorem op_pow : OpR X (binaryOp .Pow) (rI CPow fun i j => .int (i ^ j.toNat)) := opI fun _ _ _ _ _ _ _ hc q => pow_int_small hc.1 hc.2.1 hc.2.2 q
theorem unI {f : Value → Sem Value} {g : Int → Int}
  (rule : ∀ (i : Int) (t : Tok) (s : Shared) (Q : Value → Shared → Prop) (E : Value → Shared → Prop), Q (.int (g i) s.toks) { s with toks := s.toks + 1 } → wpAny (model X.prog X.w) X.A (f (.int i t)) Q E s) :
  UnR X f (rU fun i => .int (g i)) := by
 intro pins s σ H x v Q I rx h
 obtain ⟨i, rfl, q⟩ := h
 obtain ⟨t, rfl⟩ := rx
 exact rule i t s _ _ ⟨.int (g i), H, I.tok _, ⟨_, rfl⟩, q⟩
theorem un_neg : UnR X (unaryOp .USub) (rU fun i => .int (-i)) := unI fun _ _ _ _ _ q => neg_int q
end
section
variable {X : Cx} {a b c : Expr} {ta tb tc : TE} {pos : Pos}
theorem fin_bl {pins : List (Addr × Obj)} {σ : St} {H : Hp} {s : Shared} {Q : VK} {k k' : Bool} (I : Inv X pins σ H s) (q : Q (.bl k) H) (e : k = k') : EP X pins σ Q (.bool k') s := by
 subst e
 exact ⟨.bl k, H, I, rfl, q⟩
theorem op_lt : OpR X (compareOp .Lt) (rI0 fun i j => .bl (decide (i < j))) := opB0 fun _ _ _ _ _ _ _ q => lt_int q
theorem op_le : OpR X (compareOp .LtE) (rI0 fun i j => .bl (decide (i ≤ j))) := opB0 fun _ _ _ _ _ _ _ q => le_int q
theorem op_gt : OpR X (compareOp .Gt) (rI0 fun i j => .bl (decide (j < i))) := opB0 fun _ _ _ _ _ _ _ q => gt_int q
theorem op_ge : OpR X (compareOp .GtE) (rI0 fun i j => .bl (decide (j ≤ i))) := opB0 fun _ _ _ _ _ _ _ q => ge_int q
theorem op_isN : OpR X (compareOp .Is) (fun x y H Q => y = .non ∧ Q (.bl (decide (x = .non))) H) := by
 intro pins s σ H x y v u Q I rx ry h
 obtain ⟨rfl, q⟩ := h
 cases ry
 refine is_none_gen (fin_bl I q ?_)
 cases x <;> first
  | (cases rx; rfl)
  | (obtain ⟨t, rfl⟩ := rx; rfl)
theorem op_notN : OpR X (compareOp .IsNot) (fun x y H Q => y = .non ∧ Q (.bl (!decide (x = .non))) H) := by
 intro pins s σ H x y v u Q I rx ry h
 obtain ⟨rfl, q⟩ := h
 cases ry
 refine isnot_none_gen (fin_bl I q ?_)
 cases x <;> first
  | (cases rx; rfl)
  | (obtain ⟨t, rfl⟩ := rx; rfl)
theorem OpR.or {f : Value → Value → Sem Value} {r r' : R2} (h : OpR X f r) (h' : OpR X f r') : OpR X f (fun x y H Q => r x y H Q ∨ r' x y H Q) := by
 intro pins s σ H x y v u Q I rx ry q
 rcases q with q | q
 ·exact h pins s σ H x y v u Q I rx ry q
 ·exact h' pins s σ H x y v u Q I rx ry q
theorem zZ (b : Expr) {op : CmpOp} (h : op ≠ .In := by decide) (h2 : op ≠ .NotIn := by decide) : behindInMarks op b = false := by
 have e1 : (op == CmpOp.In) = false := by cases op <;> first | rfl | exact absurd rfl h
 have e2 : (op == CmpOp.NotIn) = false := by cases op <;> first | rfl | exact absurd rfl h2
 cases b <;> simp [behindInMarks, e1, e2]
theorem pe_cmpR {op : CmpOp} {r : R2} (ho : OpR X (compareOp op) r) (ha : PE X a ta) (hb : PE X b tb) (hm : behindInMarks op b = false) : PE X (.Compare a [op] [b] pos) (tOp r ta tb) := by
 intro pins s σ H Q I h
 exact wpAny_Compare1 (binT ha hb I h fun v u s2 x y H2 I2 rx ry q => ho pins s2 σ H2 x y v u Q I2 rx ry q) hm
def tTest (t : TE) : TT := fun σ H Q => t σ H fun x H' => ∃ k, x = .bl k ∧ Q k H'
theorem pt_cmpR {op : CmpOp} {r : R2} (ho : OpR X (compareOp op) r) (ha : PE X a ta) (hb : PE X b tb) (hm : behindInMarks op b = false) : PT X (.Compare a [op] [b] pos) (tTest (tOp r ta tb)) := by
 intro pins s σ H Q I h
 refine wpAny_isTrue_Compare1 (thn (ha pins s σ H _ I h) fun v s1 ⟨x, H1, I1, r1, q1⟩ => thn (hb pins s1 σ H1 _ I1 q1) fun u s2 ⟨y, H2, I2, r2, q2⟩ =>
  thn (ho pins s2 σ H2 x y v u _ I2 r1 r2 q2) fun c s3 ⟨z, H3, I3, r3, k, e, q3⟩ => ?_) hm
 subst e
 cases r3
 exact wpAny_truthy_bool ⟨H3, I3, q3⟩
def tChain (r r' : R2) (ta tb tc : TE) : TE := fun σ H Q => ta σ H fun x H1 => tb σ H1 fun y H2 => r x y H2 fun z H3 => ∃ k, z = .bl k ∧
 (if k = true then tc σ H3 fun w' H4 => r' y w' H4 Q else Q (.bl false) H3)
theorem pe_chain {op op' : CmpOp} {r r' : R2} (ho : OpR X (compareOp op) r) (ho' : OpR X (compareOp op') r') (ha : PE X a ta) (hb : PE X b tb) (hc : PE X c tc)
  (hm : lastMarks [op, op'] [b, c] = false := by with_unfolding_all rfl) : PE X (.Compare a [op, op'] [b, c] pos) (tChain r r' ta tb tc) := by
 intro pins s σ H Q I h
 refine Compare_chain (thn (ha pins s σ H _ I h) fun v s1 ⟨x, H1, I1, r1, q1⟩ => chain_link (thn (hb pins s1 σ H1 _ I1 q1) fun u s2 ⟨y, H2, I2, r2, q2⟩ =>
  thn (ho pins s2 σ H2 x y v u _ I2 r1 r2 q2) fun d s3 ⟨z, H3, I3, r3, k, e, q3⟩ => ?_)) hm
 subst e
 cases r3
 refine wpAny_truthy_bool ?_
 cases k with
 | false => exact ite_ff ⟨.bl false, H3, I3, rfl, q3⟩
 | true => exact ite_tt (chain_last (thn (hc pins s3 σ H3 _ I3 q3) fun w' s4 ⟨z', H4, I4, r4, q4⟩ => ho' pins s4 σ H4 y z' u w' Q I4 r2 r4 q4))
theorem line63 : (sizeLine : Nat) < 2 ^ 63 := by rw [sizeLine_eq]; decide
theorem op_add_str : OpR X (binaryOp .Add) (fun x y H Q => ∃ i j, x = .str i ∧ y = .str j ∧ i.length + j.length ≤ sizeLine ∧ Q (.str (i ++ j)) H) := by
 intro pins s σ H x y v u Q I rx ry h
 obtain ⟨i, j, rfl, rfl, hz, q⟩ := h
 obtain ⟨t, rfl⟩ := rx
 obtain ⟨t', rfl⟩ := ry
 exact add_str (fun t' tk => ⟨.str (i ++ j), H, I.tok _, ⟨_, rfl⟩, q⟩) hz
theorem vals1 {x : V} {us : List Value} (r : Vals [x] us) : ∃ u, us = [u] ∧ RelV x u := by
 cases r with
 | cons r1 r2 => cases r2; exact ⟨_, rfl, r1⟩
theorem vals2 {x y : V} {us : List Value} (r : Vals [x, y] us) : ∃ u w', us = [u, w'] ∧ RelV x u ∧ RelV y w' := by
 cases r with
 | cons r1 r2 =>
  cases r2 with
  | cons r3 r4 => cases r4; exact ⟨_, _, rfl, r1, r3⟩
theorem call_abs : CallR X (.builtin "abs") (fun xs H Q => ∃ i, xs = [.int i] ∧ Q (.int (if i < 0 then -i else i)) H) := by
 intro pins s σ H xs us Q I r h
 obtain ⟨i, rfl, q⟩ := h
 obtain ⟨u, rfl, t, rfl⟩ := vals1 r
 exact call_abs_int fun u tk => ⟨.int (if i < 0 then -i else i), H, I.tok _, ⟨_, rfl⟩, q⟩
theorem call_int1 : CallR X (.type "int") (fun xs H Q => (∃ i, xs = [.int i] ∧ Q (.int i) H) ∨ ∃ k, xs = [.bl k] ∧ Q (.int (if k then 1 else 0)) H) := by
 intro pins s σ H xs us Q I r h
 rcases h with ⟨i, rfl, q⟩ | ⟨k, rfl, q⟩
 ·obtain ⟨u, rfl, t, rfl⟩ := vals1 r
  exact call_int_int ⟨.int i, H, I, ⟨_, rfl⟩, q⟩
 ·obtain ⟨u, rfl, r1⟩ := vals1 r
  cases r1
  exact call_int_bool ⟨.int (if k then 1 else 0), H, I.tok _, ⟨_, rfl⟩, q⟩
end
end L2
namespace L2
open PySem PySem.Spec PyProof.Rows
structure ObjM (h : Heap) (x dx C : Addr) (mA : Str → Option Value) : Prop where
 obj : h.get? x = some (PySem.W.instObj C dx)
 ns : h.Ns1 dx mA
 ne : dx ≠ x
theorem lookIn_ns {h : Heap} {dx : Addr} {mA : Str → Option Value} (n : h.Ns1 dx mA) : ∃ od, h.get? dx = some od ∧ ∀ name, PySem.W.lookIn name od = some (mA name) := by
 obtain ⟨o, es, ep, ho, hd, hk, _, hm⟩ := n
 refine ⟨o, ho, fun name => ?_⟩
 have e := hm name
 unfold nsFind findBy at e
 rw [← Array.find?_toList] at e
 unfold PySem.W.lookIn
 rw [hd]
 dsimp only
 split
 ·rename_i y q
  rw [q] at e
  exact congrArg some e
 ·rename_i q
  rw [q] at e
  have a : es.toList.any (·.refKey) = false := by
   rw [List.any_eq_false]
   intro y hy
   obtain ⟨z, t, hkey⟩ := hk y (Array.mem_toList_iff.mp hy)
   simp [DictEntry.refKey, hkey]
  have a' : ¬ es.toList.any (·.refKey) = true := by rw [a]; exact Bool.false_ne_true
  rw [if_neg a']
  exact congrArg some e
theorem ObjM.look {h : Heap} {x dx C : Addr} {mA : Str → Option Value} (I : ObjM h x dx C mA) : ∃ od, PySem.W.InstAt h x (PySem.W.instObj C dx) C (some od) ∧ ∀ name, PySem.W.lookIn name od = some (mA name) :=
 let ⟨od, ho, hl⟩ := lookIn_ns I.ns
 ⟨od, ⟨I.obj, rfl, rfl, ho⟩, hl⟩
section
variable {prog : Program} {w : World} {A : Around} {E : Value → Shared → Prop} {s : Shared} {K : PySem.W.Frag} {x dx C f : Addr} {mA : Str → Option Value} {name : Str} {v : Value}
theorem get_map {expr : Bool} {Q : Value → Shared → Prop} (X : K.In s.heap) (I : ObjM s.heap x dx C mA) (hg : PySem.W.plainGet K C name = true) (hh : PySem.W.hasDictIn K C = true)
  (ha : PySem.W.findIn K (.ref C) name = some none) (hv : mA name = some v) (hv' : PySem.W.handedIn v = true) (h : Q v { s with toks := s.toks + 1 }) :
  wpAny (model prog w) A (getAttr (.ref x) name expr) Q E s := by
 obtain ⟨od, J, hl⟩ := I.look
 exact PySem.W.get_value X J (PySem.W.plainGet_of hg).1 (PySem.W.findObj_own hh ha rfl (by rw [hl, hv])) hv' h
end
section
variable {P : Program} {w : World} {H H' : Hp} {h h' : Heap} {a C dx : Addr} {fs fs' : List (Str × V)}
end
structure Cls (K : PySem.W.Frag) (C : Addr) : Prop where
 pg : PySem.W.plainGet K C Str.empty = true
 hd : PySem.W.hasDictIn K C = true
 po : PySem.W.plainOver K C = true
 sa : PySem.W.findIn K (.ref C) "__setattr__" = some (some (.builtin "object.__setattr__"))
section
variable {X : Cx} {pins : List (Addr × Obj)} {σ : St} {H : Hp} {s : Shared} {a C dx : Addr} {fs : List (Str × V)} {f : Str} {v : V} {A : Around} {E : Value → Shared → Prop}
end
section
variable {X : Cx} {o e value : Expr} {f : Str} {pos pos' tpos : Pos} {ta tv : TE}
end
section
variable {X : Cx} {pins : List (Addr × Obj)} {σ : St} {H : Hp} {s : Shared} {A : Around} {E : Value → Shared → Prop} {Q : Value → Shared → Prop} {c : Value} {b : Bool}
end
end L2
namespace L2
open PySem PySem.Spec PyProof.Rows
structure Room (k : Nat) (A : Around) : Prop where
 hd : A.handled = none
 dp : A.depth + 3 * k + 120 < recursionLimit
 un : A.units + 16 * k + 200 < cLine
theorem Room.mono {j k : Nat} {A : Around} (r : Room k A) (h : j ≤ k) : Room j A := ⟨r.hd, by have := r.dp; omega, by have := r.un; omega⟩
theorem Room.deeper {k : Nat} {A : Around} (r : Room (k + 1) A) (env : Env) : Room k (A.deeper env) :=
 ⟨r.hd, by have := r.dp; show A.depth + 1 + 3 * k + 120 < _; omega, by have := r.un; show A.units + 3 + 16 * k + 200 < _; omega⟩
theorem Room.depth {k : Nat} {A : Around} (r : Room k A) : A.depth < recursionLimit := by have := r.dp; omega
theorem Room.units {k : Nat} {A : Around} (r : Room k A) : A.units + 64 < cLine := by have := r.un; omega
def tNil : TA := fun _ H Q => Q [] H
def tCons (ta : TE) (tr : TA) : TA := fun σ H Q => ta σ H fun x H1 => tr σ H1 fun xs H2 => Q (x :: xs) H2
section
variable {X : Cx} {e : Expr} {es : List Expr} {te : TE} {t : TA} {pos : Pos}
theorem pa_nil : PA X [] tNil := fun _ _ _ _ H Q I h => Calls.spliced_nil ⟨[], H, I, .nil, h⟩
theorem pa_cons (ha : PE X e te) (hr : PA X es t) (hs : starEach (e :: es) X.env = (false, eval e X.env) :: starEach es X.env := by rfl) : PA X (e :: es) (tCons te t) := by
 intro pos pins s σ H Q I h
 rw [hs]
 show wpAny _ _ (spliced ((false, eval e X.env) :: backTo pos (starEach es X.env))) _ _ s
 refine Calls.spliced_cons (thn (ha pins s σ H _ I h) fun u s1 ⟨x, H1, I1, r1, q1⟩ => ?_)
 exact thn (hr pos pins s1 σ H1 _ I1 q1) fun us s2 ⟨xs, H2, I2, r2, q2⟩ => ⟨x :: xs, H2, I2, .cons r1 r2, q2⟩
def tTup (t : TA) : TE := fun σ H Q => t σ H fun xs H1 => xs.length ≤ sizeLine ∧ ∀ p, H1 p = none → Q (.ref p) (upd H1 p (.tup xs))
def tLst (t : TA) : TE := fun σ H Q => t σ H fun xs H1 => xs.length ≤ sizeLine ∧ ∀ p, H1 p = none → Q (.ref p) (upd H1 p (.lst xs))
theorem pe_tup {x1} (h : PA X es t) : PE X (.Tuple es x1 pos) (tTup t) := by
 intro pins s σ H Q I hq
 refine wpAny_Tuple_spliced (thn (h pos pins s σ H _ I hq) fun us s1 ⟨xs, H1, I1, r, z, q⟩ => ⟨by rw [← r.length]; exact z, ?_⟩)
 have hf : H1 s1.heap.objs.size = none := I1.hok.fresh (Nat.le_refl _)
 refine ⟨.ref s1.heap.objs.size, upd H1 s1.heap.objs.size (.tup xs), I1.laid (t' := s1.toks) (fun b u e => Heap.get?_push_of_some _ e) (Nat.le_refl _) ?_, rfl, q _ hf⟩
 exact ⟨z, us, r, ⟨_, Heap.get?_push_size _ rfl, rfl, _, rfl⟩⟩
theorem pe_lst (h : PA X es t) : PE X (.List es pos) (tLst t) := by
 intro pins s σ H Q I hq
 refine wpAny_List_spliced (thn (h pos pins s σ H _ I hq) fun us s1 ⟨xs, H1, I1, r, z, q⟩ => ⟨by rw [← r.length]; exact z, ?_⟩)
 have hf : H1 s1.heap.objs.size = none := I1.hok.fresh (Nat.le_refl _)
 refine ⟨.ref s1.heap.objs.size, upd H1 s1.heap.objs.size (.lst xs), I1.laid (t' := s1.toks) (fun b u e => Heap.get?_push_of_some _ e) (Nat.le_refl _) ?_, rfl, q _ hf⟩
 exact ⟨z, us, 0, r, Heap.get?_push_size _ rfl⟩
end
abbrev Sp := List V → Hp → VK → XK → Prop
abbrev CXT := List Env → Hp → Shared → XK → Value → Shared → Prop
structure Env0 (P : Program) (w : World) (K : PySem.W.Frag) (mg : Str → Option Value) (base : Heap) (A : Around) (outer : List Env) (s : Shared) (H : Hp) : Prop where
 frames : A.frames = some outer
 mod : Mod K mg base
 bs : ∀ b o, base.get? b = some o → s.heap.get? b = some o ∧ H b = none
 bsz : base.objs.size ≤ s.heap.objs.size
 funs : s.heap.FunFrames base outer
 frf : ∀ b ∈ frs outer, H b = none
 hok : HOk P w H s.heap
 bare : AllBare s.gens
def CE (outer : List Env) (P : Program) (w : World) (H : Hp) (s : Shared) (Q : VK) (u : Value) (s' : Shared) : Prop :=
 ∃ v H', s'.os = s.os ∧ AllBare s'.gens ∧ Un (frs outer) [] H H' s.heap s'.heap ∧ HOk P w H' s'.heap ∧ RelV v u ∧ Q v H'
def CR (CX : CXT) (outer : List Env) (P : Program) (w : World) (H : Hp) (s : Shared) (Q : VK) (E : XK) (r : Result) (s' : Shared) : Prop :=
 match r with
 | .ok (.ret u) => CE outer P w H s Q u s'
 | .ok _ => False
 | .error e => CX outer H s E e s'
structure FnOk (P : Program) (w : World) (K : PySem.W.Frag) (mg : Str → Option Value) (base : Heap) (CX : CXT) (k : Nat) (f : Addr) (fd : FuncData) (ps : List Str) (sp : Sp) : Prop where
 len : ∀ vs H Q E, sp vs H Q E → vs.length = ps.length
 run : ∀ (A : Around) (outer : List Env) (s : Shared) (H : Hp) (args : Args) (us : List Value) (vs : List V) (Q : VK) (E : XK), Room k A → Env0 P w K mg base A outer s H → BindsTo s fd args (ps.zip us) → Vals vs us → sp vs H Q E →
  codeAny (model P w) A (.call (.ref f) args) (CR CX outer P w H s Q E) s
theorem FnOk.mono {P : Program} {w : World} {K : PySem.W.Frag} {mg : Str → Option Value} {base : Heap} {CX : CXT} {j k : Nat} {f : Addr} {fd : FuncData} {ps : List Str} {sp : Sp} (F : FnOk P w K mg base CX j f fd ps sp) (h : j ≤ k) :
  FnOk P w K mg base CX k f fd ps sp := ⟨F.len, fun A outer s H args us vs Q E hr => F.run A outer s H args us vs Q E (hr.mono h)⟩
theorem FnOk.imp {P : Program} {w : World} {K : PySem.W.Frag} {mg : Str → Option Value} {base : Heap} {CX : CXT} {k : Nat} {f : Addr} {fd : FuncData} {ps : List Str} {sp sp' : Sp} (F : FnOk P w K mg base CX k f fd ps sp)
  (h : ∀ vs H Q E, sp' vs H Q E → sp vs H Q E) : FnOk P w K mg base CX k f fd ps sp' :=
 ⟨fun vs H Q E q => F.len vs H Q E (h _ _ _ _ q), fun A outer s H args us vs Q E hr he hb hv hs => F.run A outer s H args us vs Q E hr he hb hv (h _ _ _ _ hs)⟩
section
variable {X : Cx} {pins : List (Addr × Obj)} {σ : St} {H : Hp} {s s' : Shared}
theorem Inv.env0 (I : Inv X pins σ H s) : Env0 X.prog X.w X.K X.mg X.base X.A X.stack s H :=
 ⟨I.ok.frames, I.ok.mod, I.bs, Nat.le_trans I.ok.bsz I.sz, I.stack, I.stkFree, I.hok, I.bare⟩
theorem Inv.after {Q : VK} {u : Value} (I : Inv X pins σ H s) (h : CE X.stack X.prog X.w H s Q u s') : EP X pins σ Q u s' := by
 obtain ⟨v, H', os, bare, un, hok, r, q⟩ := h
 obtain ⟨hh, g, d, t, os'⟩ := s'
 obtain rfl : os' = s.os := os
 exact ⟨v, H', I.call (h' := hh) (g' := g) (d' := d) (t' := t) (ch := []) un hok bare (fun b z => absurd z (by simp)), r, q⟩
end
def tCall (sp : Sp) (dvs : List V) (E : XK) (t : TA) : TE := fun σ H Q => t σ H fun vs H1 => sp (vs ++ dvs) H1 Q E
def zV (K : PySem.W.Frag) (fd : FuncData) (ps : List Str) (ds : List Value) : Prop :=
 ∀ (s : Shared) (us : List Value), K.In s.heap → (us ++ ds).length = ps.length → BindsTo s fd ⟨us, []⟩ (ps.zip (us ++ ds))
theorem zV.all {K : PySem.W.Frag} {fd : FuncData} {ps : List Str} (h : ∀ us : List Value, us.length = ps.length → bindArgs fd ⟨us, []⟩ = pure (ps.zip us)) : zV K fd ps [] := fun s us _ hl => by
 rw [List.append_nil] at hl ⊢
 exact .of_eq (h us hl)
def Passes (CX : CXT) (X : Cx) (E : XK) : Prop := ∀ (pins : List (Addr × Obj)) (σ : St) (H : Hp) (s : Shared) (e : Value) (s' : Shared), Inv X pins σ H s → CX X.stack H s E e s' → X.xe e s'
section
variable {X : Cx} {CX : CXT} {k : Nat} {f C : Addr} {fd : FuncData} {ps : List Str} {sp : Sp} {dvs : List V} {ds : List Value} {E : XK} {x m : Str} {p pos apos : Pos} {e o : Expr} {es : List Expr} {ta : TE} {t : TA}
theorem run_fn {pins : List (Addr × Obj)} {σ : St} {H : Hp} {s : Shared} {Q : VK} {us : List Value} {vs : List V} (F : FnOk X.prog X.w X.K X.mg X.base CX k f fd ps sp) (hr : Room k X.A) (hb : zV X.K fd ps ds) (hd : Vals dvs ds) (hx : Passes CX X E)
  (I : Inv X pins σ H s) (r : Vals vs us) (h : sp (vs ++ dvs) H Q E) : wpAny (model X.prog X.w) X.A (call (.ref f) us) (EP X pins σ Q) X.xe s := by
 have r2 : Vals (vs ++ dvs) (us ++ ds) := r.append hd
 have hl : (us ++ ds).length = ps.length := by rw [← r2.length]; exact F.len _ _ _ _ h
 refine wpAny_call (codeAny_mono (F.run X.A X.stack s H ⟨us, []⟩ (us ++ ds) (vs ++ dvs) Q E hr I.env0 (hb s us I.kIn hl) r2 h) fun r s' hq => ?_)
 cases r with
 | error e => exact hx pins σ H s e s' I hq
 | ok fl =>
  cases fl with
  | ret u => exact I.after hq
  | next => exact False.elim hq
  | brk => exact False.elim hq
  | cont => exact False.elim hq
theorem pe_call (F : FnOk X.prog X.w X.K X.mg X.base CX k f fd ps sp) (hr : Room k X.A) (hg : Gl X x) (hm : X.mg x = some (.ref f)) (hk : PySem.W.keepIn X.K (.ref f) = true) (hb : zV X.K fd ps ds) (hd : Vals dvs ds) (hx : Passes CX X E)
  (ha : PA X (e :: es) t) (hdb : (x == ("__debug__" : Str)) = false := by decide) (he : starEach (e :: es) X.env = (false, eval e X.env) :: starEach es X.env := by rfl) (hpl : (backTo pos (starEach es X.env)).any (·.1) = false := by rfl) :
  PE X (.Call (.Name x p) (e :: es) [] pos) (tCall sp dvs E t) := by
 intro pins s σ H Q I h
 refine wpAny_Call_Name_kw (ld_glob I hg hm ?_ hdb)
 refine PySem.W.callWith_K (h₀ := X.base) I.ok.mod.kin hk (thn (ha pos pins s σ H _ I h) fun us s1 ⟨vs, H1, I1, r, q⟩ => ⟨I1.kIn, ?_⟩) he hpl
 exact run_fn F hr hb hd hx I1 r q
end
section
variable {X : Cx} {CX : CXT} {k : Nat} {f C : Addr} {fd : FuncData} {ps ks : List Str} {sp : Sp} {E : XK} {x m : Str} {p pos apos kpos : Pos} {e o : Expr} {es : List Expr} {kws : List Keyword} {te ta : TE} {t tk : TA} {nm : Option Str}
structure KBinds (K : PySem.W.Frag) (fd : FuncData) (ps ks : List Str) (g : List Value → List Value → List Value) (gV : List V → List V → List V) : Prop where
 to : ∀ (s : Shared) (us ws : List Value), K.In s.heap → (g us ws).length = ps.length → BindsTo s fd ⟨us, ks.zip ws⟩ (ps.zip (g us ws))
 rel : ∀ {vs : List V} {us : List Value} {zs : List V} {ws : List Value}, Vals vs us → Vals zs ws → Vals (gV vs zs) (g us ws)
variable {g : List Value → List Value → List Value} {gV : List V → List V → List V}
end
structure zN (N P : List Str) (sc : Scope) : Prop where
 kind : sc.kind = .function
 co : sc.isCoroutine = false
 gen : sc.isGenerator = false
 nd : N.Nodup
 pre : N.take P.length = P
 par : ∀ x ∈ P, sc.names.lookup x = some .local ∨ sc.names.lookup x = some .cell
 nofree : ∀ y ∈ sc.names, y.2 ≠ .free
theorem bindL_out {kindOf : Str → Option NameKind} {x : Str} : ∀ {binds : List (Str × Value)} {m : Str → Option Value}, (∀ v, (x, v) ∉ binds) → bindL kindOf binds m x = m x
 | [], _, _ => rfl
 | (n, v) :: r, m, h => by
  unfold bindL
  rw [bindL_out fun w hw => h w (List.mem_cons_of_mem _ hw)]
  split
  ·have : x ≠ n := by rintro rfl; exact h v List.mem_cons_self
   simp [this]
  ·rfl
theorem bindC_out {kindOf : Str → Option NameKind} {x : Str} : ∀ {binds : List (Str × Value)} {m : Str → Option Value}, (∀ v, (x, v) ∉ binds) → bindC kindOf binds m x = m x
 | [], _, _ => rfl
 | (n, v) :: r, m, h => by
  unfold bindC
  rw [bindC_out fun w hw => h w (List.mem_cons_of_mem _ hw)]
  split
  ·rfl
  ·have : x ≠ n := by rintro rfl; exact h v List.mem_cons_self
   simp [this]
theorem bindL_get {kindOf : Str → Option NameKind} {x : Str} {v : Value} : ∀ {P : List Str} {vs : List Value} {i : Nat} {m : Str → Option Value}, P.Nodup → P[i]? = some x → vs[i]? = some v → kindOf x = some .local →
  bindL kindOf (P.zip vs) m x = some v
 | [], _, _, _, _, h, _, _ => by simp at h
 | _ :: _, [], _, _, _, _, h, _ => by simp at h
 | p :: P, w :: vs, 0, m, nd, h1, h2, hk => by
  simp at h1 h2; subst h1; subst h2
  show bindL kindOf ((p, w) :: P.zip vs) m p = _
  unfold bindL
  rw [bindL_out fun v hv => (List.nodup_cons.mp nd).1 (List.of_mem_zip hv).1, if_pos hk]
  simp
 | p :: P, w :: vs, i + 1, m, nd, h1, h2, hk => by
  show bindL kindOf ((p, w) :: P.zip vs) m x = _
  unfold bindL
  exact bindL_get (i := i) (List.nodup_cons.mp nd).2 (by simpa using h1) (by simpa using h2) hk
theorem bindC_get {kindOf : Str → Option NameKind} {x : Str} {v : Value} : ∀ {P : List Str} {vs : List Value} {i : Nat} {m : Str → Option Value}, P.Nodup → P[i]? = some x → vs[i]? = some v → kindOf x ≠ some .local →
  bindC kindOf (P.zip vs) m x = some v
 | [], _, _, _, _, h, _, _ => by simp at h
 | _ :: _, [], _, _, _, _, h, _ => by simp at h
 | p :: P, w :: vs, 0, m, nd, h1, h2, hk => by
  simp at h1 h2; subst h1; subst h2
  show bindC kindOf ((p, w) :: P.zip vs) m p = _
  unfold bindC
  rw [bindC_out fun v hv => (List.nodup_cons.mp nd).1 (List.of_mem_zip hv).1, if_neg hk]
  simp
 | p :: P, w :: vs, i + 1, m, nd, h1, h2, hk => by
  show bindC kindOf ((p, w) :: P.zip vs) m x = _
  unfold bindC
  exact bindC_get (i := i) (List.nodup_cons.mp nd).2 (by simpa using h1) (by simpa using h2) hk
def start (N : List Str) (vs : List V) : St := vs.map some ++ List.replicate (N.length - vs.length) none
def cxOf (CX : CXT) (P : Program) (w : World) (K : PySem.W.Frag) (mg : Str → Option Value) (base : Heap) (N : List Str) (qual : Str) (scope : Scope) (f : Addr) (cd : Value) (A : Around) (outer : List Env) (s : Shared) (H : Hp) (E : XK) : Cx where
 prog := P
 w := w
 K := K
 mg := mg
 base := base
 A := A.deeper (envOfC qual scope s.heap.objs.size f cd)
 N := N
 s₀ := s
 H₀ := H
 env := envOfC qual scope s.heap.objs.size f cd
 outer := outer
 stack := envOfC qual scope s.heap.objs.size f cd :: outer
 ex := []
 calm := true
 fn := fun _ => true
 pn := []
 xe := fun e s' => wpAny (model P w) (A.deeper (envOfC qual scope s.heap.objs.size f cd)) (leaving (envOfC qual scope s.heap.objs.size f cd) e) (fun _ s'' => CX outer H s E e s'') (fun e' s'' => CX outer H s E e' s'') s'
theorem cell_has {sc : Scope} {n : Nat} {x : Str} (h : sc.names.lookup x = some .cell) : ∃ c, (cellsFrom n sc.names []).lookup x = some c := by
 have q := PySem.W.cellsFrom_some sc.names n [] (.inl h)
 exact Option.isSome_iff_exists.mp q
theorem inv_start {CX : CXT} {P : Program} {w : World} {K : PySem.W.Frag} {mg : Str → Option Value} {base : Heap} {N ps : List Str} {qual : Str} {scope : Scope} {f : Addr} {cd : Value} {A : Around} {outer : List Env} {s s1 : Shared} {H : Hp} {E : XK} {us : List Value} {vs : List V}
  (S : zN N ps scope) (hd : A.handled = none) (e0 : Env0 P w K mg base A outer s H) (hl : vs.length = ps.length) (r : Vals vs us)
  (x : InCallC s s.heap.objs.size (bindL (envOfC qual scope s.heap.objs.size f cd).kindOf (ps.zip us) fun _ => none) (cellsFrom (s.heap.objs.size + 1) scope.names []) (bindC (envOfC qual scope s.heap.objs.size f cd).kindOf (ps.zip us) fun _ => none) s1) :
  Inv (cxOf CX P w K mg base N qual scope f cd A outer s H E) [] (start N vs) H s1 := by
 have hpl : ps.length ≤ N.length := by have := congrArg List.length S.pre; rw [List.length_take] at this; omega
 obtain ⟨h1, tk, rfl, hk⟩ := x.done
 have noA : ∀ b : Addr, b ∉ (cxOf CX P w K mg base N qual scope f cd A outer s H E).ex := fun b z => absurd (show b ∈ ([] : List Addr) from z) (by simp)
 refine ⟨⟨e0.mod, S.kind, rfl, rfl, Nat.le_refl _, fun y z c h1 h2 => ?_, fun y hy => ?_, fun y c _ h => ?_, fun _ => hd, Around.frames_deeper e0.frames, .inr ⟨rfl, rfl⟩, fun b z => absurd z (noA b), e0.bs, e0.bsz, fun b _ _ => noA b, fun b z => absurd z (noA b), e0.funs, e0.frf⟩,
  rfl, e0.bare, Un.kept hk, ⟨_, x.toInCall.ns, fun i y v h1 h2 h3 => ?_⟩, fun y c h => ⟨_, x.cell y c h⟩, e0.hok.fresh (Nat.le_refl _), fun y c h => ?_, fun p hp => absurd (show p ∈ ([] : List (Addr × Obj)) from hp) (by simp), e0.hok.kept hk, ?_⟩
 ·exact name_of_addr x.apart (PySem.mem_of_lookup h1) (PySem.mem_of_lookup h2)
 ·have hy : scope.names.lookup y = some .cell ∨ scope.names.lookup y = some .free := hy
  rcases hy with hy | hy
  ·exact cell_has hy
  ·exact absurd rfl (S.nofree _ (PySem.mem_of_lookup hy))
 ·exact Nat.le_of_lt (x.above y c (PySem.mem_of_lookup h))
 ·have hi : i < vs.length := by
   unfold start at h2
   by_cases hi : i < vs.length
   ·exact hi
   ·rw [List.getElem?_append_right (by simpa using hi)] at h2
    rw [List.getElem?_replicate] at h2
    split at h2 <;> cases h2
  have ha : vs[i]? = some v := by
   unfold start at h2
   rw [List.getElem?_append_left (by simpa using hi), List.getElem?_map] at h2
   cases e : vs[i]? with
   | none => rw [e] at h2; cases h2
   | some a => rw [e] at h2; cases h2; rfl
  obtain ⟨u, hu, rv⟩ := r.get ha
  have hp : ps[i]? = some y := by
   rw [← S.pre, List.getElem?_take_of_lt (by omega)]; exact h1
  have ndP : ps.Nodup := by rw [← S.pre]; exact S.nd.sublist (List.take_sublist _ _)
  refine ⟨u, rv, ?_⟩
  rcases S.par y (List.mem_of_getElem? hp) with k | k
  ·exact .inl ⟨k, bindL_get ndP hp hu k⟩
  ·obtain ⟨c, e⟩ := cell_has (n := s.heap.objs.size + 1) k
   refine .inr ⟨.inl k, c, e, ?_⟩
   have q := x.cell y c e
   rw [bindC_get ndP hp hu (by show scope.names.lookup y ≠ _; rw [k]; decide)] at q
   exact q
 ·exact e0.hok.fresh (Nat.le_of_lt (x.above y c (PySem.mem_of_lookup h)))
 ·unfold start
  show _ = N.length
  rw [List.length_append, List.length_map, List.length_replicate]
  omega
theorem fn_of {CX : CXT} {P : Program} {w : World} {K : PySem.W.Frag} {mg : Str → Option Value} {base : Heap} {k : Nat} {f : Addr} {name qual : Str} {params : Arguments} {body : List Stmt} {scope : Scope} {dV kV doc pm cdv ct oc : Value} {an od : Option Addr}
  {osl : Array (Option Value)} {N ps : List Str} {sp : Sp} (lk : K.lookup f = some ⟨oc, od, .func (PySem.W.fnOf name qual params body scope dV kV doc pm an cdv ct), osl⟩) (hcd : PySem.W.codeIn K cdv qual = true) (S : zN N ps scope)
  (len : ∀ vs H Q E, sp vs H Q E → vs.length = ps.length)
  (hbody : ∀ (A : Around) (outer : List Env) (s : Shared) (H : Hp) (vs : List V) (Q : VK) (E : XK), Room k (A.deeper (envOfC qual scope s.heap.objs.size f cdv)) → sp vs H Q E →
   ∃ t, PSs (cxOf CX P w K mg base N qual scope f cdv A outer s H E) body t ∧ t { nx := fun _ H' => Q .non H', rt := Q } (start N vs) H) :
  FnOk P w K mg base CX (k + 1) f (PySem.W.fnOf name qual params body scope dV kV doc pm an cdv ct) ps sp := by
 refine ⟨len, fun A outer s H args us vs Q E hr e0 hb r hsp => ?_⟩
 have hl := len _ _ _ _ hsp
 have KX : K.In s.heap := e0.mod.kin.keeps fun b o e => (e0.bs b o e).1
 have lim : s.heap.NoLimit := e0.mod.nolimit.keeps fun b o e => (e0.bs b o e).1
 have hkind : ∀ y ∈ ps.zip us, scope.names.lookup y.1 = some .local ∨ (scope.names.lookup y.1 = some .cell ∧ ((cellsFrom (s.heap.objs.size + 1) scope.names []).lookup y.1).isSome = true) := fun ⟨n, v⟩ hy => by
  rcases S.par n (List.of_mem_zip hy).1 with q | q
  ·exact .inl q
  ·exact .inr ⟨q, PySem.W.cellsFrom_some _ _ _ (.inl q)⟩
 refine codeAny_call_function hr.depth (KX _ _ lk) rfl S.co S.gen rfl (PySem.W.codeRec_of KX hcd) (hb _ _ _ _ ?_)
 refine wpAny_newFunctionEnv_cells S.kind hkind fun env he s1 x => ?_
 subst he
 refine ⟨lim.keeps x.toInCall.keep, codeAny_func ?_⟩
 obtain ⟨t, ht, hq⟩ := hbody A outer s H vs Q E (hr.deeper _) hsp
 have I : Inv (cxOf CX P w K mg base N qual scope f cdv A outer s H E) [] (start N vs) H s1 := inv_start S hr.hd e0 hl r x
 refine wpAny_mono (ht [] s1 (start N vs) H _ I hq) (fun fl s' hs => ?_) fun e s' hs => hs
 have fin : ∀ {σ' : St} {H' : Hp} {v : V} {u : Value}, Inv (cxOf CX P w K mg base N qual scope f cdv A outer s H E) [] σ' H' s' → RelV v u → Q v H' → CE outer P w H s Q u s' :=
  fun {σ' H' v u} J rv q => ⟨v, H', J.os, J.bare, J.base, J.hok, rv, q⟩
 cases fl with
 | ret u =>
  obtain ⟨v, σ', H', J, rv, q⟩ := hs
  exact fin J rv q
 | next =>
  obtain ⟨σ', H', J, q⟩ := hs
  exact fin (v := V.non) (u := Value.none) J rfl q
 | brk =>
  obtain ⟨_, _, _, q⟩ := hs
  exact False.elim q
 | cont =>
  obtain ⟨_, _, _, q⟩ := hs
  exact False.elim q
end L2
namespace L2
open PySem PySem.Spec PyProof.Rows
section
variable {X : Cx} {x : Str} {p pos : Pos} {e : Expr} {es : List Expr} {t : TA} {id T : String} {r : List V → Hp → VK → Prop}
def tCB (r : List V → Hp → VK → Prop) (t : TA) : TE := fun σ H Q => t σ H fun vs H1 => r vs H1 Q
theorem pe_callB (hc : CallR X (.builtin id) r) (hg : Gl X x) (hm : X.mg x = none) (hv : bootBuiltins x = some (.builtin id)) (ha : PA X (e :: es) t) (hn : x ≠ "__name__" := by decide) (hdb : (x == ("__debug__" : Str)) = false := by decide)
  (he : starEach (e :: es) X.env = (false, eval e X.env) :: starEach es X.env := by rfl) (hpl : (backTo pos (starEach es X.env)).any (·.1) = false := by rfl) : PE X (.Call (.Name x p) (e :: es) [] pos) (tCB r t) := by
 intro pins s σ H Q I h
 refine wpAny_Call_Name_kw (ld_blt I hg hm hv ?_ hn hdb)
 exact PyProof.Rows.callWith_builtin1 (thn (ha pos pins s σ H _ I h) fun us s1 ⟨vs, H1, I1, r1, q1⟩ => hc pins s1 σ H1 vs us Q I1 r1 q1) he hpl
theorem pe_callTy (hc : CallR X (.type T) r) (hg : Gl X x) (hm : X.mg x = none) (hv : bootBuiltins x = some (.type T)) (ha : PA X (e :: es) t) (hn : x ≠ "__name__" := by decide) (hdb : (x == ("__debug__" : Str)) = false := by decide)
  (he : starEach (e :: es) X.env = (false, eval e X.env) :: starEach es X.env := by rfl) (hpl : (backTo pos (starEach es X.env)).any (·.1) = false := by rfl) : PE X (.Call (.Name x p) (e :: es) [] pos) (tCB r t) := by
 intro pins s σ H Q I h
 refine wpAny_Call_Name_kw (ld_blt I hg hm hv ?_ hn hdb)
 exact PyProof.Rows.callWith_type1 (thn (ha pos pins s σ H _ I h) fun us s1 ⟨vs, H1, I1, r1, q1⟩ => hc pins s1 σ H1 vs us Q I1 r1 q1) he hpl
end
end L2
namespace HT
open PySem PyProof.Rows
section
open PySem.SeqAt
open PySem.AutoSeq1 (wpAny_loadPart')
open PySem.MeetsSeq PySem.MeetsSeq2 PySem.MeetsSeq3
end
section
variable {prog : Program} {w : World} {A : Around} {E : Value → Shared → Prop} {s : Shared}
def sIx (n d : Nat) : Option Int → Nat
 | none => d
 | some v => if v < 0 then (v + (n : Int)).toNat else min v.toNat n
theorem sIx_le (n d : Nat) (hd : d ≤ n) (o : Option Int) : sIx n d o ≤ n := by
 cases o with
 | none => exact hd
 | some v =>
  show (if v < 0 then (v + (n : Int)).toNat else min v.toNat n) ≤ n
  by_cases hv : v < 0
  ·rw [if_pos hv]; omega
  ·rw [if_neg hv]; exact Nat.min_le_right _ _
theorem clip_eq (v : Int) (n d : Nat) : (if v < 0 then max (v + (n : Int)) 0 else min v (n : Int)) = ((sIx n d (some v) : Nat) : Int) := by
 show (if v < 0 then max (v + (n : Int)) 0 else min v (n : Int)) = (((if v < 0 then (v + (n : Int)).toNat else min v.toNat n) : Nat) : Int)
 by_cases hv : v < 0
 ·simp only [if_pos hv]; omega
 ·simp only [if_neg hv]; omega
theorem adjust_gen (lo hi : Option Int) (n : Nat) : Builtin.Slice.sliceAdjust lo hi 1 (n : Int) = (((sIx n 0 lo : Nat) : Int), ((sIx n n hi : Nat) : Int)) := by
 have h1 : ¬ ((1 : Int) < 0) := by omega
 unfold Builtin.Slice.sliceAdjust
 simp only [h1, if_false]
 refine Prod.ext ?_ ?_
 ·cases lo with
  | none => rfl
  | some v => exact clip_eq v n 0
 ·cases hi with
  | none => rfl
  | some v => exact clip_eq v n n
theorem places_gen (i j : Nat) : Builtin.Slice.slicePlaces (i : Int) (j : Int) 1 = j - i := by
 unfold Builtin.Slice.slicePlaces
 have h1 : (1 : Int) > 0 := by omega
 simp only [h1, if_true, Int.ediv_one]
 split <;> omega
theorem slicePart_ {v : Value} {o : Option Int} {Q : Option Int → Shared → Prop} (p : IsPart v o) (h : Q o s) : wpAny (model prog w) A (Builtin.Slice.slicePartIndex v) Q E s := by
 cases p with
 | none => exact slicePart_none h
 | int i t => exact slicePart_int h
theorem sliceApplied_gen {sl : Addr} {vl vu : Value} {lo hi : Option Int} {n : Nat} {Q : Int × Int × Nat → Shared → Prop} (hs : s.heap.IsSliceOf sl vl vu .none) (pl : IsPart vl lo) (pu : IsPart vu hi)
  (h : Q (((sIx n 0 lo : Nat) : Int), 1, sIx n n hi - sIx n 0 lo) s) : wpAny (model prog w) A (Builtin.Slice.sliceApplied (.ref sl) (pure (n : Int))) Q E s := by
 obtain ⟨os, hos, hcs, hds⟩ := id hs
 unfold Builtin.Slice.sliceApplied Builtin.Slice.sliceFields
 refine wpAny_bind (wpAny_bind (wpAny_field hos hds (x := vl) rfl (wpAny_bind (wpAny_field hos hds (x := vu) rfl (wpAny_bind (wpAny_field hos hds (x := .none) rfl (wpAny_pure ?_)))))))
 refine wpAny_bind (slicePart_none ?_)
 show wpAny _ _ (if ((1 : Int) == 0) = true then _ else _) _ _ s
 rw [if_neg (by decide)]
 refine wpAny_bind (slicePart_ pl (wpAny_bind (slicePart_ pu (wpAny_bind (wpAny_pure ?_)))))
 show wpAny _ _ (match Builtin.Slice.sliceAdjust lo hi 1 (n : Int) with | (lo, hi) => pure (lo, (1 : Int), Builtin.Slice.slicePlaces lo hi 1)) _ _ s
 rw [adjust_gen lo hi n]
 show wpAny _ _ (pure (((sIx n 0 lo : Nat) : Int), (1 : Int), Builtin.Slice.slicePlaces ((sIx n 0 lo : Nat) : Int) ((sIx n n hi : Nat) : Int) 1)) _ _ s
 rw [places_gen]
 exact wpAny_pure h
theorem pick_gen (xs : Array Value) (i k : Nat) : ((List.range k).filterMap fun (m : Nat) => xs[((i : Int) + (m : Int) * 1).toNat]?).toArray = ((xs.toList.drop i).take k).toArray := by
 have e : (fun (m : Nat) => xs[((i : Int) + (m : Int) * 1).toNat]?) = fun m => xs[i + m]? := by
  funext m
  have : ((i : Int) + (m : Int) * 1).toNat = i + m := by omega
  rw [this]
 rw [e]
 have := pick_run xs i k
 rw [List.filterMap_map] at this
 have e2 : ((fun x => xs[x]?) ∘ fun x => i + x) = fun m => xs[i + m]? := rfl
 rw [e2] at this
 rw [this]
theorem getItem_tuple_cut {t sl : Addr} {items : Array Value} {vl vu : Value} {lo hi : Option Int} {Q : Value → Shared → Prop} (ht : IsTup s.heap t items) (hs : s.heap.IsSliceOf sl vl vu .none) (pl : IsPart vl lo) (pu : IsPart vu hi)
  (hw : ¬ (sIx items.size 0 lo = 0 ∧ sIx items.size items.size hi = items.size))
  (h : Q (.ref s.heap.objs.size) { s with heap := s.heap.push { cls := .type "tuple", data := .seq ((items.toList.drop (sIx items.size 0 lo)).take (sIx items.size items.size hi - sIx items.size 0 lo)).toArray } })
  (hsz : items.size ≤ sizeLine) : wpAny (model prog w) A (getItem (.ref t) (.ref sl)) Q E s := by
 have htake : sizeOk (.seq ((items.toList.drop (sIx items.size 0 lo)).take (sIx items.size items.size hi - sIx items.size 0 lo)).toArray) := by
  show ((items.toList.drop (sIx items.size 0 lo)).take (sIx items.size items.size hi - sIx items.size 0 lo)).toArray.size ≤ sizeLine
  rw [List.size_toArray, List.length_take, List.length_drop, Array.length_toList]
  omega
 have hj : sIx items.size items.size hi ≤ items.size := sIx_le _ _ (Nat.le_refl _) hi
 obtain ⟨os, hos, hcs, hds⟩ := id hs
 have hTs : s.TypeIs (.ref sl) "slice" := ⟨os, hos, hcs⟩
 unfold getItem
 try with_reducible refine wpAny_holding ?_
 first | refine wpAny_bind (wpAny_pure ?_) | skip
 refine wpAny_bind (wpAny_sequenceKey ht.typeIs (by decide) ?_)
 refine wpAny_bind (wpAny_callSpecial?_slot (name := Str.ofString "__getitem__") ht.typeIs PyProof.Rows.slot_tuple_getitem
  (wpAny_call_entry PyProof.Rows.slot_tuple_getitem ht.typeIs entry_tuple_getitem ?_ (args_tuple_getitem _ _)))
 show wpAny _ _ (Builtin.Tuple.tupleItemsOf (.ref t) >>= _) _ _ s
 refine wpAny_bind (tupleItemsOf_ ht ?_)
 refine wpAny_bind (wpAny_typeOf hTs ?_)
 rw [if_pos (by decide)]
 refine wpAny_bind (sliceApplied_gen hs pl pu ?_)
 have hno : ¬ ((((sIx items.size 0 lo : Nat) : Int) == 0 && (1 : Int) == 1 && (sIx items.size items.size hi - sIx items.size 0 lo) == items.size) = true) := by
  intro q
  rw [Bool.and_eq_true, Bool.and_eq_true] at q
  have q1 : ((sIx items.size 0 lo : Nat) : Int) = 0 := eq_of_beq q.1.1
  have q2 : sIx items.size items.size hi - sIx items.size 0 lo = items.size := eq_of_beq q.2
  exact hw ⟨by omega, by omega⟩
 show wpAny _ _ (if (((sIx items.size 0 lo : Nat) : Int) == 0 && (1 : Int) == 1 && (sIx items.size items.size hi - sIx items.size 0 lo) == items.size) = true then _ else _) _ _ s
 rw [if_neg hno, pick_gen]
 first
  | exact wpAny_bind (m := Builtin.Tuple.tupleExact _) (wpAny_newObj_type (wpAny_pure ⟨_, rfl, wpAny_pure h⟩) htake)
  | exact wpAny_bind (m := Builtin.Tuple.tupleExact _) (wpAny_newObj_type (wpAny_bind (wpAny_pure (wpAny_pure ⟨_, rfl, wpAny_pure h⟩))) htake)
  | exact wpAny_bind (wpAny_bind (m := Builtin.Tuple.tupleExact _) (wpAny_newObj_type (wpAny_pure (wpAny_pure ⟨_, rfl, wpAny_pure h⟩)) htake))
  | exact wpAny_bind (wpAny_bind (m := Builtin.Tuple.tupleExact _) (wpAny_newObj_type (wpAny_pure ⟨_, rfl, wpAny_pure h⟩) htake))
end
end HT
namespace L2
open PySem PySem.Spec PyProof.Rows
abbrev TO := St → Hp → (Option Int → Hp → Prop) → Prop
def PO (X : Cx) (e : Option Expr) (t : TO) : Prop :=
 ∀ (pins : List (Addr × Obj)) (s : Shared) (σ : St) (H : Hp) (Q : Option Int → Hp → Prop), Inv X pins σ H s → t σ H Q →
  wpAny (model X.prog X.w) X.A (evalPart e X.env) (fun u s' => ∃ o H', Inv X pins σ H' s' ∧ IsPart u o ∧ Q o H') X.xe s
def tNoPart : TO := fun _ H Q => Q none H
def tPart (t : TE) : TO := fun σ H Q => t σ H fun x H1 => ∃ i, x = .int i ∧ Q (some i) H1
section
variable {X : Cx} {e : Expr} {te : TE} {lo hi : Option Expr} {tl th : TO} {pos p2 : Pos}
theorem po_none : PO X none tNoPart := by
 intro pins s σ H Q I h
 rw [evalPart_none]
 exact wpAny_pure ⟨none, H, I, .none, h⟩
theorem po_some (h : PE X e te) : PO X (some e) (tPart te) := by
 intro pins s σ H Q I hw
 rw [evalPart_some]
 refine thn (h pins s σ H _ I hw) fun u s1 ⟨x, H1, I1, r1, q1⟩ => ?_
 obtain ⟨i, rfl, q⟩ := q1
 obtain ⟨t, rfl⟩ := r1
 exact ⟨some i, H1, I1, .int i t, q⟩
def SlR (X : Cx) (r : V → Option Int → Option Int → Hp → VK → Prop) : Prop :=
 ∀ (pins : List (Addr × Obj)) (s : Shared) (σ : St) (H : Hp) (x : V) (v vl vu : Value) (lo hi : Option Int) (sl : Addr) (Q : VK), Inv X pins σ H s → RelV x v → s.heap.IsSliceOf sl vl vu .none → IsPart vl lo → IsPart vu hi → r x lo hi H Q →
  ∃ T id, typeLookup (.type T) "__getitem__" = pure (some (.builtin id)) ∧ s.TypeIs v T ∧ wpAny (model X.prog X.w) X.A (getItem v (.ref sl)) (EP X pins σ Q) X.xe s
theorem SlR.or {r r' : V → Option Int → Option Int → Hp → VK → Prop} (h : SlR X r) (h' : SlR X r') : SlR X (fun x lo hi H Q => r x lo hi H Q ∨ r' x lo hi H Q) := by
 intro pins s σ H x v vl vu lo hi sl Q I rx hs pl pu q
 rcases q with q | q
 ·exact h pins s σ H x v vl vu lo hi sl Q I rx hs pl pu q
 ·exact h' pins s σ H x v vl vu lo hi sl Q I rx hs pl pu q
def tSl (r : V → Option Int → Option Int → Hp → VK → Prop) (te : TE) (tl th : TO) : TE := fun σ H Q => te σ H fun x H1 => tl σ H1 fun l H2 => th σ H2 fun u H3 => r x l u H3 Q
theorem pe_slice {r : V → Option Int → Option Int → Hp → VK → Prop} (hr : SlR X r) (he : PE X e te) (hl : PO X lo tl) (hu : PO X hi th) : PE X (.Subscript e (.Slice lo hi none p2) pos) (tSl r te tl th) := by
 intro pins s σ H Q I h
 refine Subscript_ (thn (he pins s σ H _ I h) fun v s1 ⟨x, H1, I1, r1, q1⟩ => ?_)
 refine wpAny_Slice (thn (hl pins s1 σ H1 _ I1 q1) fun vl s2 ⟨l, H2, I2, pl, q2⟩ => thn (hu pins s2 σ H2 _ I2 q2) fun vu s3 ⟨u, H3, I3, pu, q3⟩ => ?_)
 rw [evalPart_none]
 refine wpAny_pure ?_
 have I4 : Inv X pins σ H3 { s3 with heap := s3.heap.push { cls := .type "slice", data := .fields #[vl, vu, .none] } } := I3.kept (t' := s3.toks) fun b ob q => Heap.get?_push_of_some _ q
 obtain ⟨T, id, hT, ht, hg⟩ := hr pins { s3 with heap := s3.heap.push { cls := .type "slice", data := .fields #[vl, vu, .none] } } σ H3 x v vl vu l u s3.heap.objs.size Q I4 r1 (Heap.IsSliceOf.new ..) pl pu q3
 show wpAny (model X.prog X.w) X.A (subscriptTail e (.Slice lo hi none p2) v (.ref s3.heap.objs.size)) (EP X pins σ Q) X.xe { s3 with heap := s3.heap.push { cls := .type "slice", data := .fields #[vl, vu, .none] } }
 exact tail_any (ops := [.ref s3.heap.objs.size, v]) ht hT hg (by with_unfolding_all rfl)
def cutV (xs : List V) (lo hi : Option Int) : List V := (xs.drop (HT.sIx xs.length 0 lo)).take (HT.sIx xs.length xs.length hi - HT.sIx xs.length 0 lo)
theorem cutV_length (xs : List V) (lo hi : Option Int) : (cutV xs lo hi).length ≤ xs.length := by
 unfold cutV
 rw [List.length_take, List.length_drop]
 omega
def rSlT (K : PySem.W.Frag) : V → Option Int → Option Int → Hp → VK → Prop := fun x lo hi H Q => ∃ a xs, x = .ref a ∧ SqT K H a xs ∧
 ¬ (HT.sIx xs.length 0 lo = 0 ∧ HT.sIx xs.length xs.length hi = xs.length) ∧ ∀ p, H p = none → Q (.ref p) (upd H p (.tup (cutV xs lo hi)))
theorem sl_tup : SlR X (rSlT X.K) := by
 intro pins s σ H x v vl vu lo hi sl Q I rx hs pl pu h
 obtain ⟨a, xs, rfl, hx, hw, q⟩ := h
 cases rx
 obtain ⟨its, r, ht, hz⟩ := I.tuple hx
 have hlen : its.toArray.size = xs.length := by rw [List.size_toArray]; exact r.length.symm
 refine ⟨"tuple", _, PyProof.Rows.slot_tuple_getitem.lookup, ht.typeIs, ?_⟩
 refine HT.getItem_tuple_cut ht hs pl pu (by rw [hlen]; exact hw) ?_ (by rw [hlen]; exact hz)
 rw [hlen]
 refine ⟨.ref s.heap.objs.size, _, I.laid (t' := s.toks) (o := .tup (cutV xs lo hi)) (fun b ob q => Heap.get?_push_of_some _ q) (Nat.le_refl _) ?_, rfl, q _ (I.hok.fresh (Nat.le_refl _))⟩
 exact ⟨Nat.le_trans (cutV_length xs lo hi) hz, _, (r.drop (HT.sIx xs.length 0 lo)).take (HT.sIx xs.length xs.length hi - HT.sIx xs.length 0 lo), IsTup.new _ _⟩
end
end L2
namespace L2
open PySem PySem.Spec PyProof.Rows
def ixN (n : Nat) (i : Int) : Option Nat := if 0 ≤ i then (if i < n then some i.toNat else none) else if -(n : Int) ≤ i then some (i + n).toNat else none
def atI {α : Type} (xs : List α) (i : Int) : Option α := (ixN xs.length i).bind fun j => xs[j]?
theorem ixN_seq {n : Nat} {i : Int} {j : Nat} (h : ixN n i = some j) : seqIndex? i n = some j ∧ j < n ∧ -(n : Int) ≤ i ∧ i < n := by
 unfold ixN at h
 by_cases h0 : 0 ≤ i
 ·rw [if_pos h0] at h
  by_cases h1 : i < n
  ·rw [if_pos h1] at h
   have e : i.toNat = j := Option.some.inj h
   exact ⟨by rw [seqIndex_of h0 h1, e], by omega, by omega, h1⟩
  ·rw [if_neg h1] at h; cases h
 ·rw [if_neg h0] at h
  by_cases h1 : -(n : Int) ≤ i
  ·rw [if_pos h1] at h
   have e : (i + n).toNat = j := Option.some.inj h
   exact ⟨by rw [seqIndex_neg (by omega) h1, e], by omega, h1, by omega⟩
  ·rw [if_neg h1] at h; cases h
theorem atI_get {α : Type} {xs : List α} {i : Int} {v : α} (h : atI xs i = some v) : ∃ j, seqIndex? i xs.length = some j ∧ xs[j]? = some v ∧ j < xs.length ∧ -(xs.length : Int) ≤ i ∧ i < xs.length := by
 unfold atI at h
 cases e : ixN xs.length i with
 | none => rw [e] at h; cases h
 | some j =>
  rw [e] at h
  obtain ⟨h1, h2, h3, h4⟩ := ixN_seq e
  exact ⟨j, h1, h, h2, h3, h4⟩
def PlainIx (b : Expr) : Prop := ∀ o i, subscripted b false o i = operate [o, i] (getItem o i)
def IxR (X : Cx) (r : R2) : Prop :=
 ∀ (value slice : Expr) (pins : List (Addr × Obj)) (s : Shared) (σ : St) (H : Hp) (x y : V) (v u : Value) (Q : VK), Inv X pins σ H s → RelV x v → RelV y u → r x y H Q →
  subscripted slice false v u = operate [v, u] (getItem v u) → wpAny (model X.prog X.w) X.A (subscriptTail value slice v u) (EP X pins σ Q) X.xe s
def MtR (X : Cx) (id : String) (r : V → List V → Hp → VK → Prop) : Prop :=
 ∀ (pins : List (Addr × Obj)) (s : Shared) (σ : St) (H : Hp) (x : V) (xs : List V) (v : Value) (us : List Value) (Q : VK), Inv X pins σ H s → RelV x v → Vals xs us → r x xs H Q →
  wpAny (model X.prog X.w) X.A (call (.builtin id) (v :: us)) (EP X pins σ Q) X.xe s
section
variable {X : Cx} {a b : Expr} {ta tb : TE} {pos : Pos}
theorem IxR.or {r r' : R2} (h : IxR X r) (h' : IxR X r') : IxR X (fun x y H Q => r x y H Q ∨ r' x y H Q) := by
 intro value slice pins s σ H x y v u Q I rx ry q hs
 rcases q with q | q
 ·exact h value slice pins s σ H x y v u Q I rx ry q hs
 ·exact h' value slice pins s σ H x y v u Q I rx ry q hs
theorem pe_ix {r : R2} (hr : IxR X r) (ha : PE X a ta) (hb : PE X b tb) (hs : PlainIx b) : PE X (.Subscript a b pos) (tOp r ta tb) := by
 intro pins s σ H Q I h
 exact Subscript_ (binT ha hb I h fun v u s2 x y H2 I2 rx ry q => hr a b pins s2 σ H2 x y v u Q I2 rx ry q (hs _ _))
def rIxL (K : PySem.W.Frag) : R2 := fun x y H Q => ∃ p xs i v, x = .ref p ∧ y = .int i ∧ SqL K H p xs ∧ atI xs i = some v ∧ Q v H
def rIxT (K : PySem.W.Frag) : R2 := fun x y H Q => ∃ p xs i v, x = .ref p ∧ y = .int i ∧ SqT K H p xs ∧ atI xs i = some v ∧ Q v H
theorem ix_list : IxR X (rIxL X.K) := by
 intro value slice pins s σ H x y v u Q I rx ry h hs
 obtain ⟨p, xs, i, z, rfl, rfl, hq, he, q⟩ := h
 cases rx
 obtain ⟨t, rfl⟩ := ry
 obtain ⟨its, r, pl, hz⟩ := I.list hq
 obtain ⟨j, h1, h2, h3, h4, h5⟩ := atI_get he
 obtain ⟨w, ew, rw'⟩ := r.get h2
 have hl := r.length
 have hn := line63
 have fin : EP X pins σ Q w s := ⟨z, H, I, rw', q⟩
 by_cases h0 : 0 ≤ i
 ·have hj : i.toNat = j := by
   rw [seqIndex_of h0 h5] at h1
   exact Option.some.inj h1
  exact item_listR pl.isList h0 (by omega) (by rw [hj]; simpa using ew) fin hs
 ·have hj : (i + (its.toArray.size : Int)).toNat = j := by
   rw [seqIndex_neg (by omega) h4] at h1
   rw [List.size_toArray, ← hl]
   exact Option.some.inj h1
  exact subscriptTail_builtinR (x := w) pl.isList.typeIs slot_list_getitem.lookup
   (wpAny_getItem_list_neg (Q := fun r s' => r = w ∧ EP X pins σ Q r s') pl.isList (by omega) (by rw [List.size_toArray] <;> omega) (by omega) (by rw [hj]; simpa using ew) ⟨rfl, fin⟩) hs
theorem ix_tup : IxR X (rIxT X.K) := by
 intro value slice pins s σ H x y v u Q I rx ry h hs
 obtain ⟨p, xs, i, z, rfl, rfl, hq, he, q⟩ := h
 cases rx
 obtain ⟨t, rfl⟩ := ry
 obtain ⟨its, r, pl, hz⟩ := I.tuple hq
 obtain ⟨j, h1, h2, h3, h4, h5⟩ := atI_get he
 obtain ⟨w, ew, rw'⟩ := r.get h2
 have hl := r.length
 have hn := line63
 have fin : EP X pins σ Q w s := ⟨z, H, I, rw', q⟩
 exact subscriptTail_builtinR (x := w) pl.typeIs slot_tuple_getitem.lookup
  (getItem_tuple (j := j) (Q := fun r s' => r = w ∧ EP X pins σ Q r s') pl (by omega) (by omega) (by rw [List.size_toArray, ← hl]; exact h1) (by simpa using ew) ⟨rfl, fin⟩) hs
theorem mapSeq_set (its : List Value) (n j : Nat) (u : Value) : Obj.mapSeq (·.setIfInBounds j u) { cls := .type "list", data := .seq its.toArray n } = { cls := .type "list", data := .seq (its.set j u).toArray n } := by
 simp [Obj.mapSeq]
theorem Inv.lst {pins : List (Addr × Obj)} {σ : St} {H : Hp} {s : Shared} {p : Addr} {xs : List V} (I : Inv X pins σ H s) (h : H p = some (.lst xs)) :
  ∃ (its : List Value) (n : Nat), Vals xs its ∧ s.heap.get? p = some { cls := .type "list", data := .seq its.toArray n } ∧ xs.length ≤ sizeLine := by
 obtain ⟨z, its, n, r, e⟩ := I.hok p _ h
 exact ⟨its, n, r, e, z⟩
theorem Inv.lstUpd {pins : List (Addr × Obj)} {σ : St} {H : Hp} {s : Shared} {p : Addr} {xs ys : List V} {its its' : List Value} {n n' : Nat} {f : Obj → Obj} (I : Inv X pins σ H s) (h : H p = some (.lst xs))
  (ho : s.heap.get? p = some { cls := .type "list", data := .seq its.toArray n }) (hf : f { cls := .type "list", data := .seq its.toArray n } = { cls := .type "list", data := .seq its'.toArray n' }) (r : Vals ys its') (hz : ys.length ≤ sizeLine) (t : Nat) :
  Inv X pins σ (upd H p (.lst ys)) { s with heap := s.heap.update p f, toks := t } := by
 have e : (s.heap.update p f).get? p = some { cls := .type "list", data := .seq its'.toArray n' } := by
  rw [Heap.get?_update_self f ho (by rw [hf] <;> rfl), hf]
 refine I.write (x := p) (e := p) (by rw [h]; trivial) (.inl rfl) (fun b u hb q => (Heap.get?_update_other _ _ (Ne.symm hb)).trans q) ⟨_, e⟩ ?_
 exact ⟨hz, its', n', r, e⟩
def rSetL : V → V → V → Hp → (Hp → Prop) → Prop := fun o i v H Q => ∃ p xs k j, o = .ref p ∧ i = .int k ∧ H p = some (.lst xs) ∧ ixN xs.length k = some j ∧ Q (upd H p (.lst (xs.set j v)))
theorem set_list : PSet X rSetL := by
 intro pins s σ H o i v ov iv u Q I ro ri rv h
 obtain ⟨p, xs, k, j, rfl, rfl, hp, hj, q⟩ := h
 cases ro
 obtain ⟨t, rfl⟩ := ri
 obtain ⟨its, n, r, ho, hz⟩ := I.lst hp
 obtain ⟨h1, h2, h3, h4⟩ := ixN_seq hj
 have hl := r.length
 have hn := line63
 have I' : Inv X pins σ (upd H p (.lst (xs.set j v))) { s with heap := s.heap.update p (Obj.mapSeq (·.setIfInBounds j u)) } :=
  I.lstUpd hp ho (mapSeq_set its n j u) (r.set rv j) (by rw [List.length_set]; exact hz) s.toks
 by_cases h0 : 0 ≤ k
 ·have hk : k.toNat = j := by
   rw [seqIndex_of h0 h4] at h1
   exact Option.some.inj h1
  exact PySem.W.ki_setAt ho h0 (by omega) (by rw [List.size_toArray, ← hl]; exact h4) (by rw [hk]; exact ⟨_, I', q⟩)
 ·have hk : (k + (its.toArray.size : Int)).toNat = j := by
   rw [seqIndex_neg (by omega) h3] at h1
   rw [List.size_toArray, ← hl]
   exact Option.some.inj h1
  exact PySem.W.ki_setBack ho (by omega) (by rw [List.size_toArray, ← hl]; exact h3) (by omega) (by rw [hk]; exact ⟨_, I', q⟩)
theorem slice_bounds (lo hi : Option Int) (n : Nat) : (sliceBounds lo hi none n).1 = ((HT.sIx n 0 lo : Nat) : Int) ∧ (sliceBounds lo hi none n).2.1 = ((HT.sIx n n hi : Nat) : Int) ∧ (sliceBounds lo hi none n).2.2 = 1 := by
 refine ⟨?_, ?_, rfl⟩
 ·cases lo with
  | none => simp [sliceBounds, HT.sIx]
  | some i =>
   simp only [sliceBounds, HT.sIx, Option.getD_none, show (1 : Int) > 0 by decide, if_true]
   by_cases h : i < 0
   ·simp only [h, if_true] <;> omega
   ·simp only [h, if_false] <;> omega
 ·cases hi with
  | none => simp [sliceBounds, HT.sIx]
  | some i =>
   simp only [sliceBounds, HT.sIx, Option.getD_none, show (1 : Int) > 0 by decide, if_true]
   by_cases h : i < 0
   ·simp only [h, if_true] <;> omega
   ·simp only [h, if_false] <;> omega
theorem slicePick_cut (its : List Value) (lo hi : Option Int) : slicePick its.toArray lo hi none = ((its.drop (HT.sIx its.length 0 lo)).take (HT.sIx its.length its.length hi - HT.sIx its.length 0 lo)).toArray := by
 obtain ⟨h1, h2, h3⟩ := slice_bounds lo hi its.toArray.size
 unfold slicePick
 rw [h1, h2, h3]
 simp only [sliceRange_one, pick_run, List.size_toArray] <;> rfl
def rSlL (K : PySem.W.Frag) : V → Option Int → Option Int → Hp → VK → Prop := fun x lo hi H Q => ∃ a xs, x = .ref a ∧ SqL K H a xs ∧ ∀ p, H p = none → Q (.ref p) (upd H p (.lst (cutV xs lo hi)))
theorem sl_list : SlR X (rSlL X.K) := by
 intro pins s σ H x v vl vu lo hi sl Q I rx hs pl pu h
 obtain ⟨a, xs, rfl, hx, q⟩ := h
 cases rx
 obtain ⟨its, r, ht, hz⟩ := I.list hx
 have hlen := r.length
 refine ⟨"list", _, slot_list_getitem.lookup, ht.isList.typeIs, ?_⟩
 refine wpAny_getItem_list_slice ht.isList hs pl pu .none (by simp) ?_ (by rw [List.size_toArray] <;> omega)
 rw [slicePick_cut, ← hlen]
 refine ⟨.ref s.heap.objs.size, _, I.laid (t' := s.toks) (o := .lst (cutV xs lo hi)) (fun b ob q => Heap.get?_push_of_some _ q) (Nat.le_refl _) ?_, rfl, q _ (I.hok.fresh (Nat.le_refl _))⟩
 exact ⟨Nat.le_trans (cutV_length xs lo hi) hz, _, 0, (r.drop (HT.sIx xs.length 0 lo)).take (HT.sIx xs.length xs.length hi - HT.sIx xs.length 0 lo), Heap.get?_push_size _ rfl⟩
theorem call_len_seq : CallR X (.builtin "len") (fun xs H Q => ∃ p ys, xs = [.ref p] ∧ (SqL X.K H p ys ∨ SqT X.K H p ys) ∧ Q (.int ys.length) H) := by
 intro pins s σ H xs us Q I r h
 obtain ⟨p, ys, rfl, hq, q⟩ := h
 obtain ⟨u, rfl, rx⟩ := vals1 r
 cases rx
 have hn := line63
 rcases hq with hq | hq
 ·obtain ⟨its, r', pl, hz⟩ := I.list hq
  have hlen := r'.length
  exact Calls.call_len_list pl.isList (by simp only [List.size_toArray] <;> omega) ⟨.int ys.length, H, I.tok _, ⟨s.toks + 1, by rw [List.size_toArray, hlen]⟩, q⟩
 ·obtain ⟨its, r', pl, hz⟩ := I.tuple hq
  have hlen := r'.length
  exact len_tuple pl (by simp only [List.size_toArray] <;> omega) ⟨.int ys.length, H, I.tok _, ⟨s.toks + 1, by rw [List.size_toArray, hlen]⟩, q⟩
theorem call_len_str : CallR X (.builtin "len") (fun xs H Q => ∃ z, xs = [.str z] ∧ z.length ≤ sizeLine ∧ Q (.int z.length) H) := by
 intro pins s σ H xs us Q I r h
 obtain ⟨z, rfl, hz, q⟩ := h
 obtain ⟨u, rfl, t, rfl⟩ := vals1 r
 have hn := line63
 exact len_str (by omega) ⟨.int z.length, H, I.tok _, ⟨_, rfl⟩, q⟩
theorem CallR.or {f : Value} {r r' : List V → Hp → VK → Prop} (h : CallR X f r) (h' : CallR X f r') : CallR X f (fun xs H Q => r xs H Q ∨ r' xs H Q) := by
 intro pins s σ H xs us Q I rs q
 rcases q with q | q
 ·exact h pins s σ H xs us Q I rs q
 ·exact h' pins s σ H xs us Q I rs q
theorem call_list_of : CallR X (.type "list") (fun xs H Q => ∃ p ys, xs = [.ref p] ∧ (SqL X.K H p ys ∨ SqT X.K H p ys) ∧ ∀ l, H l = none → Q (.ref l) (upd H l (.lst ys))) := by
 intro pins s σ H xs us Q I r h
 obtain ⟨p, ys, rfl, hq, q⟩ := h
 obtain ⟨u, rfl, rx⟩ := vals1 r
 cases rx
 have fin : ∀ (its : List Value), Vals ys its → ys.length ≤ sizeLine → ∀ (h' : Heap) (c' : Nat), (∀ b o', s.heap.get? b = some o' → h'.get? b = some o') →
   h'.get? s.heap.objs.size = some { cls := .type "list", dict := none, data := .seq its.toArray c', slots := #[] } → EP X pins σ Q (.ref s.heap.objs.size) { s with heap := h' } := fun its r' hz h' c' kp e =>
  ⟨.ref s.heap.objs.size, _, I.laid (t' := s.toks) kp (Nat.le_refl _) (show ObjOk X.prog X.w _ h' _ (.lst ys) from ⟨hz, its, c', r', e⟩), rfl, q _ (I.hok.fresh (Nat.le_refl _))⟩
 rcases hq with hq | hq
 ·obtain ⟨its, r', pl, hz⟩ := I.list hq
  have hlen := r'.length
  obtain ⟨o, ho, hc, n, hd⟩ := pl.isList
  exact call_list_seq p (.inl rfl) ho hc hd (fun h' c' kp e => fin its r' hz h' c' kp e) (by simp only [List.size_toArray] <;> omega)
 ·obtain ⟨its, r', pl, hz⟩ := I.tuple hq
  have hlen := r'.length
  obtain ⟨o, ho, hc, n, hd⟩ := pl
  exact call_list_seq p (.inr rfl) ho hc hd (fun h' c' kp e => fin its r' hz h' c' kp e) (by simp only [List.size_toArray] <;> omega)
def tyV (K : PySem.W.Frag) (T : String) (x : V) (H : Hp) : Prop := match x with
 | .str _ => T = "str"
 | .int _ => T = "int"
 | .ref p => (T = "list" ∧ ∃ xs, SqL K H p xs) ∨ (T = "tuple" ∧ ∃ o, K.lookup p = some o ∧ o.cls = .type "tuple" ∧ o.dict = none) ∨
   (T = "dict" ∧ ((∃ kvs, H p = some (.dK kvs)) ∨ ∃ kvs, H p = some (.dT kvs))) ∨ (T = "set" ∧ ∃ S n, H p = some (.set S n))
 | _ => False
theorem tyV_is {pins : List (Addr × Obj)} {σ : St} {H : Hp} {s : Shared} {T : String} {x : V} {v : Value} (I : Inv X pins σ H s) (r : RelV x v) (ty : tyV X.K T x H) :
  s.TypeIs v T ∧ ∀ a, v = .ref a → ∃ ob, s.heap.get? a = some ob ∧ ob.dict = none := by
 cases x with
 | str z =>
  obtain ⟨t, rfl⟩ := r
  cases (show T = "str" from ty)
  exact ⟨typeIs_str s z t, fun _ e => nomatch e⟩
 | int i =>
  obtain ⟨t, rfl⟩ := r
  cases (show T = "int" from ty)
  exact ⟨typeIs_int s i t, fun _ e => nomatch e⟩
 | ref p =>
  cases r
  rcases ty with ⟨rfl, xs, hq⟩ | ⟨rfl, o, hk, hc, hd⟩ | ⟨rfl, hk⟩ | ⟨rfl, S, n, hk⟩
  ·obtain ⟨its, _, pl, _⟩ := I.list hq
   refine ⟨pl.isList.typeIs, fun a e => ?_⟩
   cases e
   obtain ⟨o, n, e, c, hd, _⟩ := pl
   exact ⟨o, e, hd⟩
  ·refine ⟨⟨o, I.kIn p o hk, hc⟩, fun a e => ?_⟩
   cases e
   exact ⟨o, I.kIn _ o hk, hd⟩
  ·have z : ∃ o, s.heap.get? p = some o ∧ o.ExactDict := by
    rcases hk with ⟨kvs, hk⟩ | ⟨kvs, hk⟩
    ·obtain ⟨_, _, _, _, o, _, _, e, ex, _⟩ := I.hok p _ hk
     exact ⟨o, e, ex⟩
    ·obtain ⟨_, _, _, _, o, _, _, e, ex, _⟩ := I.hok p _ hk
     exact ⟨o, e, ex⟩
   obtain ⟨o, e, ex⟩ := z
   refine ⟨⟨o, e, ex.1⟩, fun a e2 => ?_⟩
   cases e2
   exact ⟨o, e, ex.2.1⟩
  ·obtain ⟨o, _, _, _, e, ex, _⟩ := I.hok p _ hk
   refine ⟨⟨o, e, ex.1⟩, fun a e2 => ?_⟩
   cases e2
   exact ⟨o, e, ex.2.1⟩
 | _ => exact False.elim ty
def tBM (K : PySem.W.Frag) (T : String) (r : V → List V → Hp → VK → Prop) (to : TE) (t : TA) : TE := fun σ H Q => to σ H fun x H1 => tyV K T x H1 ∧ t σ H1 fun xs H2 => r x xs H2 Q
variable {o e : Expr} {es : List Expr} {to : TE} {t : TA} {name : Str} {apos cpos : Pos} {T id : String} {r : V → List V → Hp → VK → Prop}
theorem pe_bm (pa : PlainAttrs T) (slot : Slot T name id) (hty : typeOf (.builtin id) = pure (.type "method_descriptor")) (hm : MtR X id r) (ho : PE X o to) (ha : PA X (e :: es) t)
  (hbase : attributeBase o name X.env (eval o X.env) = eval o X.env := by rfl)
  (hfew : ((backTo cpos (starEach (e :: es) X.env)).all (fun x => !x.1) && (backToKw cpos (keywordEach [] X.env)).all (fun x => x.1.isSome)
   && decide ((e :: es).length + ([] : List Keyword).length + (if ([] : List Keyword).isEmpty then 0 else 1) < 30)) = true := by rfl)
  (hline : (apos.endLine == cpos.line) = true := by rfl) (hs : starEach (e :: es) X.env = (false, eval e X.env) :: starEach es X.env := by rfl) (hplain : (backTo cpos (starEach es X.env)).any (·.1) = false := by rfl) :
  PE X (.Call (.Attribute o name apos) (e :: es) [] cpos) (tBM X.K T r to t) := by
 intro pins s σ H Q I h
 refine wpAny_Call_method_late hbase hfew hline rfl (thn (ho pins s σ H _ I h) fun v s1 ⟨x, H1, I1, r1, ty, q1⟩ => ?_)
 obtain ⟨h1, h2⟩ := tyV_is I1 r1 ty
 refine ⟨T, id, pa, slot, hty, h1, h2, ?_⟩
 have hA := ha cpos pins s1 σ H1 _ I1 q1
 rw [hs] at hA ⊢
 refine Calls.callWith_builtin (by show (false || (backTo cpos (starEach es X.env)).any (·.1)) = false; rw [hplain] <;> rfl) (Calls.evalArgs_plain ?_)
 exact thn hA fun us s2 ⟨vs, H2, I2, r2, q2⟩ => hm pins s2 σ H2 x vs v us Q I2 r1 r2 q2
end
end L2
namespace L2
open PySem PySem.Spec PyProof.Rows
def MtM (X : Cx) (id : String) (r : V → List V → Hp → VK → Prop) : Prop :=
 ∀ (pins : List (Addr × Obj)) (s : Shared) (σ : St) (H : Hp) (x : V) (xs : List V) (v : Value) (us : List Value) (Q : VK), Inv X pins σ H s → RelV x v → Vals xs us → r x xs H Q →
  wpAny (model X.prog X.w) X.A (call (.builtin id) (v :: us)) (EP X pins σ Q) X.xe s
theorem Vals.one : ∀ {x : V} {us : List Value}, Vals [x] us → ∃ u, us = [u] ∧ RelV x u
 | _, _, .cons r .nil => ⟨_, rfl, r⟩
theorem Vals.two : ∀ {x y : V} {us : List Value}, Vals [x, y] us → ∃ u v, us = [u, v] ∧ RelV x u ∧ RelV y v
 | _, _, _, .cons r (.cons q .nil) => ⟨_, _, rfl, r, q⟩
theorem Vals.rep {xs : List V} {us : List Value} (h : Vals xs us) : ∀ k : Nat, Vals (List.replicate k xs).flatten (List.replicate k us).flatten
 | 0 => .nil
 | k + 1 => by
  rw [List.replicate_succ, List.replicate_succ, List.flatten_cons, List.flatten_cons]
  exact Vals.append h (Vals.rep h k)
theorem foldl_rep (its : List Value) : ∀ (k : Nat) (acc : List Value),
  List.foldl (fun x1 x2 => x1 ++ x2) acc.toArray (List.replicate k its.toArray) = (acc ++ (List.replicate k its).flatten).toArray
 | 0, acc => by simp
 | k + 1, acc => by
  have e : acc.toArray ++ its.toArray = (acc ++ its).toArray := by simp
  have e2 : (acc ++ its) ++ (List.replicate k its).flatten = acc ++ (List.replicate (k + 1) its).flatten := by
   rw [List.replicate_succ, List.flatten_cons, List.append_assoc]
  rw [← e2, ← foldl_rep its k (acc ++ its), ← e, List.replicate_succ, List.foldl_cons]
section
variable {X : Cx} {pins : List (Addr × Obj)} {σ : St} {H : Hp} {s : Shared} {l b : Addr} {xs ys zs : List V}
theorem Inv.lset {its its' : List Value} {n : Nat} {f : Array Value → Array Value} {t' : Nat} (I : Inv X pins σ H s) (hH : H l = some (.lst xs))
  (e : s.heap.get? l = some { cls := .type "list", data := .seq its.toArray n }) (hf : f its.toArray = its'.toArray) (hv : Vals ys its') (hz : ys.length ≤ sizeLine) :
  Inv X pins σ (upd H l (.lst ys)) { s with heap := s.heap.update l (Obj.mapSeq f), toks := t' } := by
 have q := PySem.IsL.update e f
 rw [hf] at q
 refine I.write (x := l) (e := l) (by rw [hH]; exact trivial) (.inl rfl) (fun b' u hb hu => (Heap.get?_update_other s.heap (Obj.mapSeq f) (Ne.symm hb)).trans hu) ⟨_, q⟩ ?_
 exact ⟨hz, its', _, hv, q⟩
theorem Inv.lnew {its : List Value} {t' : Nat} (I : Inv X pins σ H s) (hv : Vals ys its) (hz : ys.length ≤ sizeLine) :
  Inv X pins σ (upd H s.heap.objs.size (.lst ys)) { s with heap := s.heap.push { cls := .type "list", data := .seq its.toArray }, toks := t' } :=
 I.laid (fun _ _ q => Heap.get?_push_of_some _ q) (Nat.le_refl _) ⟨hz, its, 0, hv, Heap.get?_push_size _ rfl⟩
theorem Inv.fresh (I : Inv X pins σ H s) : H s.heap.objs.size = none := I.hok.fresh (Nat.le_refl _)
theorem Inv.lstM (I : Inv X pins σ H s) (hH : H l = some (.lst xs)) : xs.length ≤ sizeLine ∧ ∃ (its : List Value) (n : Nat), Vals xs its ∧ xs.length = its.length ∧ s.heap.get? l = some { cls := .type "list", data := .seq its.toArray n } := by
 obtain ⟨z, its, n, r, e⟩ := I.hok l _ hH
 exact ⟨z, its, n, r, r.length, e⟩
theorem Inv.lstR (I : Inv X pins σ H s) (hH : Rd H l (.lst xs)) : xs.length ≤ sizeLine ∧ ∃ (its : List Value) (n : Nat), Vals xs its ∧ xs.length = its.length ∧ s.heap.get? l = some { cls := .type "list", data := .seq its.toArray n } := by
 obtain ⟨z, its, n, r, e⟩ := hH.ok I.hok
 exact ⟨z, its, n, r, r.length, e⟩
theorem notLongL {n : Nat} (h : n ≤ sizeLine) : Builtin.List.listTooLong n = false := by
 unfold Builtin.List.listTooLong
 exact decide_eq_false (by omega)
end
section
variable {X : Cx}
def rAppend : V → List V → Hp → VK → Prop := fun x vs H Q => ∃ l xs y, x = .ref l ∧ vs = [y] ∧ H l = some (.lst xs) ∧ xs.length < sizeLine ∧ Q .non (upd H l (.lst (xs ++ [y])))
theorem mt_append : MtM X "list.append" rAppend := by
 intro pins s σ H x vs v us Q I rx rv h
 obtain ⟨l, xs, y, rfl, rfl, hH, hz, q⟩ := h
 cases rx
 obtain ⟨u, rfl, ru⟩ := rv.one
 obtain ⟨z, its, n, r, hl, e⟩ := I.lstM hH
 refine call_meets F.slot_list_append ⟨_, e, rfl⟩ F.entry_list_append (F.args_list_append_2 _ _) (PySem.list_append l its.toArray n u (by rw [List.size_toArray]; omega)) ⟨e, ?_⟩
 refine ⟨.non, _, I.lset (its' := its ++ [u]) hH e (by simp) (r.append (.cons ru .nil)) ?_, rfl, q⟩
 rw [List.length_append, List.length_singleton]
 omega
def rExtend : V → List V → Hp → VK → Prop := fun x vs H Q => ∃ l b xs zs, x = .ref l ∧ vs = [.ref b] ∧ H l = some (.lst xs) ∧ H b = some (.lst zs) ∧ xs.length + zs.length ≤ sizeLine ∧ Q .non (upd H l (.lst (xs ++ zs)))
theorem mt_extend : MtM X "list.extend" rExtend := by
 intro pins s σ H x vs v us Q I rx rv h
 obtain ⟨l, b, xs, zs, rfl, rfl, hH, hB, hz, q⟩ := h
 cases rx
 obtain ⟨u, rfl, ru⟩ := rv.one
 cases ru
 obtain ⟨z, its, n, r, hl, e⟩ := I.lstM hH
 obtain ⟨z2, its2, n2, r2, hl2, e2⟩ := I.lstM hB
 have hsz : its.toArray.size + its2.toArray.size ≤ sizeLine := by rw [List.size_toArray, List.size_toArray]; omega
 have hlong : ¬ (!its.toArray.isEmpty && Builtin.List.listTooLong (its.toArray.size + its2.toArray.size)) = true := by
  rw [notLongL hsz, Bool.and_false]
  exact Bool.false_ne_true
 refine call_meets F.slot_list_extend ⟨_, e, rfl⟩ F.entry_list_extend (F.args_list_extend_2 _ _)
  (AutoSeq1.list_extend_list_list_0 l its.toArray n b its2.toArray n2 hlong (by rw [List.size_toArray]; omega) (by omega)) ⟨e, e2, ?_⟩
 refine ⟨.non, _, I.lset (its' := its ++ its2) hH e (by simp) (r.append r2) ?_, rfl, q⟩
 rw [List.length_append]
 omega
def rCat : R2 := fun x y H Q => ∃ l b xs zs, x = .ref l ∧ y = .ref b ∧ Rd H l (.lst xs) ∧ Rd H b (.lst zs) ∧ xs.length + zs.length ≤ sizeLine ∧ ∀ p, H p = none → Q (.ref p) (upd H p (.lst (xs ++ zs)))
theorem op_cat : OpR X (binaryOp .Add) rCat := by
 intro pins s σ H x y v u Q I rx ry h
 obtain ⟨l, b, xs, zs, rfl, rfl, hH, hB, hz, q⟩ := h
 cases rx
 cases ry
 obtain ⟨z, its, n, r, hl, e⟩ := I.lstR hH
 obtain ⟨z2, its2, n2, r2, hl2, e2⟩ := I.lstR hB
 refine PySem.P.add_list e e2 ?_ (by rw [List.size_toArray, List.size_toArray]; omega)
 have ea : its.toArray ++ its2.toArray = (its ++ its2).toArray := by simp
 rw [ea]
 exact ⟨.ref _, _, I.lnew (t' := s.toks) (r.append r2) (by rw [List.length_append]; omega), rfl, q _ I.fresh⟩
def rRep : R2 := fun x y H Q => ∃ l k xs, x = .ref l ∧ y = .int k ∧ Rd H l (.lst xs) ∧ -(2 ^ 63) ≤ k ∧ k < 2 ^ 63 ∧ xs.length * k.toNat ≤ sizeLine ∧
 ∀ p, H p = none → Q (.ref p) (upd H p (.lst (List.replicate k.toNat xs).flatten))
theorem len_rep {α : Type} (xs : List α) (k : Nat) : (List.replicate k xs).flatten.length = k * xs.length := by
 induction k with
 | zero => simp
 | succ k ih => rw [List.replicate_succ, List.flatten_cons, List.length_append, ih, Nat.succ_mul, Nat.add_comm]
theorem op_rep : OpR X (binaryOp .Mult) rRep := by
 intro pins s σ H x y v u Q I rx ry h
 obtain ⟨l, k, xs, rfl, rfl, hH, h1, h2, hz, q⟩ := h
 cases rx
 obtain ⟨t, rfl⟩ := ry
 obtain ⟨z, its, n, r, hl, e⟩ := I.lstR hH
 have hlen : its.toArray.size * k.toNat ≤ sizeLine := by rw [List.size_toArray, ← hl]; exact hz
 have hcap : ¬ its.toArray.size * k.toNat > (2 ^ 63 - 1) / 8 := by
  have : (sizeLine : Nat) ≤ (2 ^ 63 - 1) / 8 := by decide
  omega
 have hfit : ¬ (!Builtin.List.listFitsIndex k) = true := by
  rw [fitsIndex_both h1 h2]
  exact Bool.false_ne_true
 have hlong : ¬ Builtin.List.listTooLong (its.toArray.size * k.toNat) = true := by
  rw [notLongL hlen]
  exact Bool.false_ne_true
 have hnew : List.foldl (fun x1 x2 => x1 ++ x2) #[] (List.replicate (if its.toArray.isEmpty = true then 0 else k.toNat) its.toArray) = (List.replicate k.toNat its).flatten.toArray := by
  have f0 : ∀ m : Nat, List.foldl (fun x1 x2 => x1 ++ x2) #[] (List.replicate m its.toArray) = (List.replicate m its).flatten.toArray := fun m => by
   have := foldl_rep its m []
   rw [List.nil_append] at this
   exact this
  rw [f0]
  cases its with
  | nil => simp
  | cons a r' => rw [if_neg (by simp)]
 refine wpAny_binaryOp_repeat_ref (T := "list") (U := "int") (by decide) ⟨_, e, rfl⟩ (fun s' => typeIs_int s' k t) noFill_list_mul F.fills_int_mul F.slot_int_rmul repeat_list F.slot_int_index.lookup
  (call_meets F.slot_int_rmul (typeIs_int s k t) F.entry_int_rmul (F.args_int_rmul_2 _ _) (int___rmul___int_list k t l its.toArray n)
   ⟨e, rfl, ⟨_, e, rfl⟩, call_meets F.slot_list_mul ⟨_, e, rfl⟩ F.entry_list_mul (F.args_list_mul_2 _ _) (AutoListH.list___mul___list_int_3 l its.toArray n k t hfit hcap hlong) ⟨e, ?_⟩⟩)
 rw [hnew]
 exact ⟨.ref _, _, I.lnew (t' := s.toks) (r.rep k.toNat) (by rw [len_rep, Nat.mul_comm]; exact hz), rfl, q _ I.fresh⟩
end
section
variable {prog : Program} {w : World} {A : Around} {E : Value → Shared → Prop} {s : Shared}
set_option maxRecDepth 100000 in
end
section
variable {X : Cx}
end
end L2
namespace Att
open PySem PySem.W PySem.Calls PyProof.Rows
theorem ints_of_wellAll {P : Params} {h : Heap} : ∀ (ns : List Int) (vs : List Value), WellAll P h vs (ns.map WData.int) → IntsAre vs ns := by
 intro ns
 induction ns with
 | nil =>
  intro vs w
  rw [List.map_nil] at w
  cases w
  exact .nil
 | cons n ns ih =>
  intro vs w
  rw [List.map_cons] at w
  cases w with
  | cons a b =>
   cases a
   exact .cons _ _ (ih _ b)
theorem script_of {l : OpenLaw} {n : Nat} (hn : l.most = some n) {P : Params} {h : Heap} {args : List WData} {vals : List Value}
  (hpre : l.row.toRowW.claim.pre args = true) (hwl : WellAll P h vals args) :
  ∃ a vs ns, vals = [Value.ref a] ∧ args = [WData.list (ns.map WData.int)] ∧ h.get? a = some { cls := .type "list", data := .seq vs.toArray } ∧ IntsAre vs ns ∧ ns.length ≤ n := by
 have hsh : WShape.hasAll [] args [.list .int] = true := (pre_splitW hpre).1
 have hc : l.pre.holds [] { args := args } = true := (pre_splitW hpre).2
 obtain ⟨d, r, rfl, h1, h2⟩ := hasAllW_cons hsh
 obtain rfl := hasAllW_nil h2
 obtain ⟨xs, rfl, h3⟩ := hasW_list h1
 obtain ⟨ns, rfl⟩ := items_int h3
 have hlen : ns.length ≤ n := by
  unfold OpenLaw.pre at hc
  have h4 : (WTm.not (.lt (.lit (.int (n : Int))) (.len (.arg 0)))).holds [] { args := [.list (ns.map .int)] } = true := by
   have h4 := (holds_andW hc).1
   rw [hn] at h4
   exact h4
  have h5 := condW_of h4 (w_not (w_lt w_lit (w_len_list (w_arg rfl))))
  rw [List.length_map] at h5
  refine Nat.le_of_not_lt fun q => ?_
  have q' : (n : Int) < ((ns.length : Nat) : Int) := by omega
  first
   | (rw [decide_eq_true q'] at h5; exact absurd h5 (by decide))
   | (simp at h5; omega)
 cases hwl with
 | cons w1 w2 =>
  cases w2
  cases w1 with
  | list ho hall => exact ⟨_, _, ns, rfl, rfl, ho, ints_of_wellAll ns _ hall, hlen⟩
theorem post_true (l : OpenLaw) (args : List WData) : l.row.toRowW.claim.post args (.bool true) args = true :=
 postW_of (r := l.row.toRowW) (X := (true == true))
  (show WShape.has [] (.bool true) .bool = true by first | rfl | decide | simp [WShape.has, WShape.arms, WShape.armsAll])
  (show (WTm.eq .res (.lit (.bool true))).value [] { args := args, res := some (.bool true), after := args } = some (.bool (true == true)) from w_eq_bool (w_res rfl) w_lit) rfl
theorem attach_call {l : OpenLaw} {n : Nat} {q : Program} {loose : List Str} {XP : (Str → Option Value) → Heap → Prop} {YP : World → Heap → Prop} {d : DefRec}
  (hn : l.most = some n) (hdf : d.params.defaults = [])
  (call : ∀ (w : World) (s₀ s₁ : Shared) (mg mb : Str → Option Value) (fa : Addr) (o : Obj) (pm cd doc : Value) (a : Addr) (vs : List Value) (ns : List Int),
   Ground q loose [] XP w s₀ mg mb s₁.heap → YP w s₁.heap →
   s₁.heap.get? fa = some o → o.data = .func (docDef d.name d.params d.body d.scope pm cd doc) → s₁.heap.CodeRec cd d.name → mg d.name = some (.ref fa) →
   s₁.heap.get? a = some { cls := .type "list", data := .seq vs.toArray } → IntsAre vs ns → ns.length ≤ n → (∀ z ∈ ns, z.natAbs.log2 < 1048577) → s₁.gens = #[] →
   codeAny (model l.prog w) callerA (.call (.ref fa) ⟨[.ref a], []⟩) (fun r s' => r = .ok (.ret (.bool true)) ∧ OldK s₁.heap s'.heap ∧ s'.os = s₁.os ∧ AllBare s'.gens) s₁) :
  WalkO q loose XP YP l.row.toRowW d [] (fun f vs => PySem.call f vs) := by
 intro w s₀ s₁ mg mb G Y fa o pm cd doc dV kV ho hd hcd hD hmg hg args vals as hpre hlay hrd hwl hlo
 obtain rfl : dV = .none := Dflts.none hD hdf
 obtain rfl : kV = .none := Dflts.noKw hD
 obtain ⟨a, vs, ns, rfl, rfl, hobj, hints, hlen⟩ := script_of hn hpre hwl
 have hbits : ∀ z ∈ ns, z.natAbs.log2 < 1048577 := fun z hz => by
  have l1 := layableW_arg hlay (WData.list (ns.map WData.int)) (by simp)
  have l2 := layableW_item l1 (WData.int z) (List.mem_map.mpr ⟨z, hz, rfl⟩)
  have l3 : (if z == 0 then 0 else z.natAbs.log2 + 1) ≤ 2 ^ 20 := by simpa [WData.weight] using (layableW_iff.mp l2).2.2
  by_cases h0 : z = 0
  ·subst h0; decide
  ·rw [if_neg (by simpa using h0)] at l3
   omega
 refine enter_call (codeAny_mono (call w s₀ s₁ mg mb fa o pm cd doc a vs ns G Y ho (fd_plain hd) hcd hmg hobj hints hlen hbits hg) fun r s' hq => ?_)
 obtain ⟨rfl, h2, h3, h4⟩ := hq
 exact ⟨.inl ⟨.bool true, .bool true, [], rfl, fun _ => rfl, .bool true, post_true l _, fun _ => ⟨List.Pairwise.nil, fun _ hm => (nomatch hm)⟩⟩, h2, h3, h4⟩
section
variable {prog : Program} {w : World} {A : Around} {E : Value → Shared → Prop} {s : Shared} {K : Frag}
end
end Att
namespace L2
open PySem PySem.Spec PyProof.Rows
theorem vals_ints : ∀ {vs : List Value} {ns : List Int}, IntsAre vs ns → Vals (ns.map V.int) vs
 | _, _, .nil => .nil
 | _, _, .cons n t h => .cons ⟨t, rfl⟩ (vals_ints h)
def Only (H : Hp) : Prop := ∀ b, H b = none ∨ ∃ o xs, H b = some (.frz o (.lst xs))
theorem law_call {P : Program} {w : World} {K : PySem.W.Frag} {mg mb : Str → Option Value} {CX : CXT} {k : Nat} {fa a : Addr} {fd : FuncData} {x : Str} {sp : Sp} {s₁ : Shared} {vs : List Value} {ns : List Int}
  (KX : K.In s₁.heap) (hns : s₁.heap.Ns mainGlobals mg) (hb : s₁.heap.Ns builtinsNs mb) (hbb : ∀ x : Str, x ≠ "__name__" → mb x = bootBuiltins x) (hlim : s₁.heap.NoLimit) (hse : s₁.heap.NoSeer) (hg : s₁.gens = #[])
  (ha : s₁.heap.get? a = some { cls := .type "list", data := .seq vs.toArray }) (hi : IntsAre vs ns) (hl : ns.length ≤ sizeLine) (hr : Room k callerA)
  (F : ∀ base : Heap, K.In base → base.Ns mainGlobals mg → FnOk P w K mg base CX k fa fd [x] sp) (hbind : ∀ (s : Shared) (u : Value), BindsTo s fd ⟨[u], []⟩ [(x, u)])
  (hsp : ∀ H : Hp, Only H → SqL K H a (ns.map V.int) → sp [.ref a] H (fun v _ => v = .bl true) fun _ _ _ => False)
  (hCX : ∀ H e s', CX [] H s₁ (fun _ _ _ => False) e s' → False) :
  codeAny (model P w) callerA (.call (.ref fa) ⟨[.ref a], []⟩) (fun r s' => r = .ok (.ret (.bool true)) ∧ OldK s₁.heap s'.heap ∧ s'.os = s₁.os ∧ AllBare s'.gens) s₁ := by
 have rv := vals_ints hi
 have lenV := hi.length
 -- from an abstract heap in which nothing but the script may be tracked
 have core : ∀ H : Hp, Only H → SqL K H a (ns.map V.int) → HOk P w H s₁.heap → (∀ b, H b ≠ none → b = a) → (H a ≠ none → K.lookup a = none) →
   codeAny (model P w) callerA (.call (.ref fa) ⟨[.ref a], []⟩) (fun r s' => r = .ok (.ret (.bool true)) ∧ OldK s₁.heap s'.heap ∧ s'.os = s₁.os ∧ AllBare s'.gens) s₁ := by
  intro H hO hS hok hA hK
  have base_of : ∀ {b : Addr} {o : Obj}, s₁.heap.get? b = some o → H b = none → (hidT s₁.heap H).get? b = some o := fun e n => hidT_get e n
  have noA : ∀ {b : Addr} {o : Obj} {es : Array DictEntry} {ep : Nat}, s₁.heap.get? b = some o → o.data = .dict es ep → H b = none := fun {b o es ep} e d => by
   cases q : H b with
   | none => rfl
   | some u =>
    have e' : b = a := hA b (by rw [q]; simp)
    subst e'
    rw [ha] at e; cases e
    have d' : Data.seq vs.toArray _ = Data.dict es ep := d
    cases d'
  have nsK : ∀ {b : Addr} {m : Str → Option Value}, s₁.heap.Ns b m → (hidT s₁.heap H).Ns b m := fun {b m} ⟨o, es, ep, e, d, r⟩ => ⟨o, es, ep, base_of e (noA e d), d, r⟩
  have hKb : K.In (hidT s₁.heap H) := fun b o e => base_of (KX b o e) (by
   cases q : H b with
   | none => rfl
   | some u =>
    have e' : b = a := hA b (by rw [q]; simp)
    subst e'
    rw [hK (by rw [q]; simp)] at e; cases e)
  have hM : Mod K mg (hidT s₁.heap H) := ⟨hKb, nsK hns, ⟨mb, nsK hb, hbb⟩, let ⟨mc, h1, h2⟩ := hlim; ⟨mc, nsK h1, h2⟩,
   ⟨let ⟨mc, a, b⟩ := hse.statics; ⟨mc, nsK a, b⟩, let ⟨mc, a, b⟩ := hse.mods; ⟨mc, nsK a, b⟩, let ⟨mc, a, b⟩ := hse.imp; ⟨mc, nsK a, b⟩, let ⟨mg', bm, ob, a', b', c', d', e'⟩ := hse.main; ⟨mg', bm, ob, nsK a', b', base_of c' (by
    cases q : H bm with
    | none => rfl
    | some u =>
     have e2 : bm = a := hA bm (by rw [q]; simp)
     subst e2
     rw [ha] at c'; cases c'
     have d2 : Value.type "list" = Value.type "module" := d'
     exact absurd d2 (by decide +kernel)), d', e'⟩⟩⟩
  have e0 : Env0 P w K mg (hidT s₁.heap H) callerA [] s₁ H := ⟨rfl, hM, fun b o e => of_hidT e, Nat.le_of_eq (hidT_size _ _), trivial, fun b hb => absurd (show b ∈ ([] : List Addr) from hb) (by simp), hok, .of_eq hg⟩
  refine codeAny_mono ((F _ hKb (nsK hns)).run callerA [] s₁ H ⟨[.ref a], []⟩ [.ref a] [.ref a] _ _ hr e0 (hbind s₁ (.ref a)) (.cons rfl .nil) (hsp H hO hS)) fun r s' h => ?_
  cases r with
  | error e => exact (hCX H e s' h).elim
  | ok fl =>
   cases fl with
   | next => exact False.elim h
   | brk => exact False.elim h
   | cont => exact False.elim h
   | ret u =>
    obtain ⟨v, H', os, bare, un, hok', r', q⟩ := h
    have q' : v = .bl true := q
    subst q'
    obtain rfl : u = Value.bool true := r'
    refine ⟨rfl, OldK.of_keep fun b o e => ?_, os, bare⟩
    cases q : H b with
    | none => exact un.keep b o e q (by intro z; exact absurd (show b ∈ ([] : List Addr) from z) (by simp)) (by simp)
    | some u =>
     rcases hO b with z | ⟨ob, xs, z⟩
     ·rw [q] at z; cases z
     ·have z2 := un.frzs b ob _ z
      obtain ⟨e1, _⟩ := hok b _ z
      obtain ⟨e2, _⟩ := hok' b _ z2
      rw [e] at e1; cases e1
      exact e2
 cases hk : K.lookup a with
 | some o =>
  -- the script is one of the module's own objects
  have e := KX a o hk
  rw [ha] at e
  cases e
  refine core (fun _ => none) (fun _ => .inl rfl) (.inr ⟨_, vs.toArray, _, hk, rfl, rfl, rfl, by rw [List.size_toArray, lenV]; exact hl, by simpa using rv⟩) (fun b u z => by have z' : (none : Option HO) = some u := z; cases z') (fun b z => absurd rfl z) fun z => absurd rfl z
 | none =>
  refine core (fun b => if b = a then some (.frz { cls := .type "list", data := .seq vs.toArray } (.lst (ns.map V.int))) else none) (fun b => ?_) (.inl (.inr ⟨{ cls := .type "list", data := .seq vs.toArray }, if_pos rfl⟩)) (fun b u z => ?_) (fun b z => ?_) fun _ => hk
  ·by_cases hb : b = a
   ·exact .inr ⟨_, _, if_pos hb⟩
   ·exact .inl (if_neg hb)
  ·by_cases hb : b = a
   ·have z' := (if_pos hb).symm.trans z
    cases z'
    subst hb
    exact ⟨ha, by rw [List.length_map]; exact hl, vs, _, rv, ha⟩
   ·have z' := (if_neg hb).symm.trans z
    cases z'
  ·by_cases hb : b = a
   ·exact hb
   ·exact absurd (if_neg hb) z
end L2
namespace L2
open PySem PySem.Spec PyProof.Rows
abbrev KOf {K : PySem.W.Frag} {h : Heap} (_ : K.In h) : PySem.W.Frag := K
theorem walk_of {l : PySem.W.OpenLaw} {n k : Nat} {q : Program} {loose : List Str} {XP : (Str → Option Value) → Heap → Prop} {YP : World → Heap → Prop} {d : DefRec} {K : Params → PySem.W.Frag} {CX : World → CXT} {sp : World → Sp} {x : Str}
  (hn : l.most = some n) (hn2 : n ≤ sizeLine) (hdf : d.params.defaults = []) (hr : Room k callerA)
  (hY : ∀ (w : World) (h : Heap), YP w h → (K w.params).In h)
  (F : ∀ (w : World) (mg : Str → Option Value) (fa : Addr) (h : Heap), (K w.params).In h → h.Ns mainGlobals mg → mg d.name = some (.ref fa) →
   ∃ fd : FuncData, (∀ (s : Shared) (u : Value), BindsTo s fd ⟨[u], []⟩ [(x, u)]) ∧
    ∀ base : Heap, (K w.params).In base → base.Ns mainGlobals mg → FnOk l.prog w (K w.params) mg base (CX w) k fa fd [x] (sp w))
  (hq : PyProof.Rows.importsNone q = true)
  (hsp : ∀ (w : World) (H : Hp) (a : Addr) (ns : List Int), ns.length ≤ n → (∀ z ∈ ns, z.natAbs.log2 < 1048577) → Only H → SqL (K w.params) H a (ns.map V.int) → sp w [.ref a] H (fun v _ => v = .bl true) fun _ _ _ => False)
  (hCX : ∀ (w : World) (H : Hp) (s : Shared) (e : Value) (s' : Shared), CX w [] H s (fun _ _ _ => False) e s' → False) :
  PySem.W.WalkO q loose XP YP l.row.toRowW d [] (fun f vs => PySem.call f vs) := by
 refine Att.attach_call hn hdf fun w s₀ s₁ mg mb fa o pm cd doc a vs ns G Y ho hd hcd hmg hobj hints hlen hbits hg => ?_
 have KX := hY w _ Y
 obtain ⟨fd, hb, hF⟩ := F w mg fa _ KX G.T.g hmg
 exact law_call KX G.T.g G.T.b G.T.builtins G.T.nolimit (G.T.seer hq) hg hobj hints (Nat.le_trans hlen hn2) hr hF hb (fun H hO hS => hsp w H a ns hlen hbits hO hS) fun H e s' => hCX w H s₁ e s'
end L2
namespace L2
open PySem PySem.Spec PyProof.Rows
def zI (s : Stmt) : Arguments := match s with
 | .FunctionDef _ a _ _ _ _ _ _ _ _ => a
 | _ => { posonlyargs := [], args := [], vararg := none, kwonlyargs := [], kw_defaults := [], kwarg := none, defaults := [] }
def zG (s : Stmt) : List Stmt := match s with
 | .FunctionDef _ _ b _ _ _ _ _ _ _ => b
 | _ => []
def zC (s : Stmt) : Scope := match s with
 | .FunctionDef _ _ _ _ _ _ sc _ _ _ => sc
 | _ => { kind := .function, names := [], isGenerator := false, isCoroutine := false }
abbrev CX0 : CXT := fun _ _ _ _ _ _ => False
abbrev E0 : XK := fun _ _ _ => False
theorem zT {X : Cx} : Passes CX0 X E0 := fun _ _ _ _ _ _ _ h => h.elim
structure Fun (K : PySem.W.Frag) (x qual : Str) (st : Stmt) (f : Addr) (fd : FuncData) : Prop where
 ex : ∃ (oc : Value) (od : Option Addr) (kV doc pm : Value) (an : Option Addr) (cdv ct : Value) (osl : Array (Option Value)),
  fd = PySem.W.fnOf x qual (zI st) (zG st) (zC st) .none kV doc pm an cdv ct ∧ K.lookup f = some ⟨oc, od, .func fd, osl⟩ ∧ PySem.W.codeIn K cdv qual = true
 kp : PySem.W.keepIn K (.ref f) = true
section
variable {P : Program} {w : World} {K : PySem.W.Frag} {mg : Str → Option Value} {base : Heap}
theorem Fun.ok {x qual : Str} {st : Stmt} {f : Addr} {fd : FuncData} {N ps : List Str} {k : Nat} {sp : Sp} (F : Fun K x qual st f fd) (S : zN N ps (zC st)) (len : ∀ vs H Q E, sp vs H Q E → vs.length = ps.length)
  (hbody : ∀ (cdv : Value) (A : Around) (outer : List Env) (s : Shared) (H : Hp) (vs : List V) (Q : VK) (E : XK), Room k (A.deeper (envOfC qual (zC st) s.heap.objs.size f cdv)) → sp vs H Q E →
   ∃ t, PSs (cxOf CX0 P w K mg base N qual (zC st) f cdv A outer s H E).nox (zG st) t ∧ t { nx := fun _ H' => Q .non H', rt := Q } (start N vs) H) : FnOk P w K mg base CX0 (k + 1) f fd ps sp := by
 obtain ⟨oc, od, kV, doc, pm, an, cdv, ct, osl, rfl, lk, hcd⟩ := F.ex
 refine fn_of lk hcd S len fun A outer s H vs Q E hr hsp => ?_
 obtain ⟨t, h, q⟩ := hbody cdv A outer s H vs Q E hr hsp
 exact ⟨t, h.nox, q⟩
theorem Fun.binds {x qual : Str} {st : Stmt} {f : Addr} {fd : FuncData} {ps : List Str} (F : Fun K x qual st f fd)
  (h : ∀ (kV doc pm : Value) (an : Option Addr) (cdv ct : Value) (us : List Value), us.length = ps.length → bindArgs (PySem.W.fnOf x qual (zI st) (zG st) (zC st) .none kV doc pm an cdv ct) ⟨us, []⟩ = pure (ps.zip us)) : zV K fd ps [] := by
 obtain ⟨oc, od, kV, doc, pm, an, cdv, ct, osl, rfl, lk, hcd⟩ := F.ex
 exact .all (h kV doc pm an cdv ct)
theorem yC {x qual : Str} {st : Stmt} {f : Addr} {oc : Value} {od an : Option Addr} {osl : Array (Option Value)} {kV doc pm cdv ct : Value} (l : K.lookup f = some ⟨oc, od, .func (PySem.W.fnOf x qual (zI st) (zG st) (zC st) .none kV doc pm an cdv ct), osl⟩)
  (c : PySem.W.codeIn K cdv qual = true) (k : PySem.W.keepIn K (.ref f) = true) : Fun K x qual st f (PySem.W.fnOf x qual (zI st) (zG st) (zC st) .none kV doc pm an cdv ct) := ⟨⟨oc, od, kV, doc, pm, an, cdv, ct, osl, rfl, l, c⟩, k⟩
end
section
variable {X : Cx}
end
def Same (H H' : Hp) : Prop := ∀ b o, H b = some o → H' b = some o
theorem Same.free {H H' : Hp} (e : Same H H') {l : Addr} (h : H' l = Option.none) : H l = Option.none := by
 cases q : H l with
 | none => rfl
 | some o =>
  rw [e l o q] at h
  cases h
end L2
end
section
namespace Np
open PySem
inductive D where
 | non | bl (b : Bool) | int (i : Int) | str (x : Str) | tup (xs : List D) | ref (a : Nat) | exc (c : Str) | scr (xs : List D)
 deriving Inhabited
inductive O where
 | lst (xs : List D) | dct (kvs : List (D × D)) | ins (c : Str) (fs : List (Str × D))
 deriving Inhabited
abbrev Sto := List O
inductive Rs (α : Type) where
 | ok (a : α) (S : Sto)
 | er (c : Str) (S : Sto)
abbrev R (α : Type) := Option (Rs α)
@[reducible] def ok {α : Type} (a : α) (S : Sto) : R α := some (.ok a S)
@[reducible] def er {α : Type} (c : Str) (S : Sto) : R α := some (.er c S)
def bnd {α β : Type} (m : R α) (k : α → Sto → R β) : R β := match m with
 | some (.ok a S) => k a S
 | some (.er c S) => some (.er c S)
 | none => none
@[simp] theorem bnd_ok {α β : Type} (a : α) (S : Sto) (k : α → Sto → R β) : bnd (some (Rs.ok a S)) k = k a S := rfl
theorem bnd_some {α β : Type} {m : R α} {k : α → Sto → R β} {r : Rs β} (h : bnd m k = some r) : (∃ a S, m = ok a S ∧ k a S = some r) ∨ ∃ c S, m = er c S ∧ r = .er c S := by
 cases m with
 | none => cases h
 | some m =>
  cases m with
  | ok a S => exact .inl ⟨a, S, rfl, h⟩
  | er c S => cases h; exact .inr ⟨c, S, rfl, rfl⟩
abbrev DS := List (Option D)
inductive Fl where
 | nx (δ : DS) | rt (d : D) | bk (δ : DS) | ct (δ : DS)
abbrev DE := DS → Sto → R D
abbrev DT := DS → Sto → R Bool
abbrev DA := DS → Sto → R (List D)
abbrev DSt := DS → Sto → R Fl
abbrev DG := D → DS → Sto → R DS
def vr (i : Nat) (δ : DS) (S : Sto) : R D := match δ[i]? with
 | some (some d) => ok d S
 | _ => none
def cst (d : D) (_ : DS) (S : Sto) : R D := ok d S
def op1 (f : D → Sto → R D) (a : DE) (δ : DS) (S : Sto) : R D := bnd (a δ S) f
def op2K (f : D → D → Sto → R D) (b : DE) (δ : DS) (x : D) (S : Sto) : R D := bnd (b δ S) (f x)
def op2 (f : D → D → Sto → R D) (a b : DE) (δ : DS) (S : Sto) : R D := bnd (a δ S) (op2K f b δ)
def aNil (_ : DS) (S : Sto) : R (List D) := ok [] S
def consK (x : D) (xs : List D) (S : Sto) : R (List D) := ok (x :: xs) S
def aConsK (r : DA) (δ : DS) (x : D) (S : Sto) : R (List D) := bnd (r δ S) (consK x)
def yF (e : DE) (r : DA) (δ : DS) (S : Sto) : R (List D) := bnd (e δ S) (aConsK r δ)
def fnE (f : List D → Sto → R D) (as : DA) (δ : DS) (S : Sto) : R D := bnd (as δ S) f
def fnD (f : List D → Sto → R D) (ds : List D) (as : List D) (S : Sto) : R D := f (as ++ ds) S
def ifEK (a b : DE) (δ : DS) : Bool → Sto → R D
 | true, S => a δ S
 | false, S => b δ S
def ifE (t : DT) (a b : DE) (δ : DS) (S : Sto) : R D := bnd (t δ S) (ifEK a b δ)
def zH (S : Sto) (a : Nat) : Option (List D) := match S[a]? with
 | some (.lst xs) => some xs
 | _ => none
def truV : D → Sto → R Bool
 | .bl b, S => ok b S
 | _, _ => none
def tv (e : DE) (δ : DS) (S : Sto) : R Bool := bnd (e δ S) truV
def andTK (b : DT) (δ : DS) : Bool → Sto → R Bool
 | true, S => b δ S
 | false, S => ok false S
def andT (a b : DT) (δ : DS) (S : Sto) : R Bool := bnd (a δ S) (andTK b δ)
def orTK (b : DT) (δ : DS) : Bool → Sto → R Bool
 | true, S => ok true S
 | false, S => b δ S
def orT (a b : DT) (δ : DS) (S : Sto) : R Bool := bnd (a δ S) (orTK b δ)
def notK (c : Bool) (S : Sto) : R Bool := ok (!c) S
def notT (a : DT) (δ : DS) (S : Sto) : R Bool := bnd (a δ S) notK
def andVB (b : DE) (δ : DS) : Bool → Sto → R D
 | true, S => b δ S
 | false, S => ok (.bl false) S
def andVK (b : DE) (δ : DS) (x : D) (S : Sto) : R D := bnd (truV x S) (andVB b δ)
def andV (a b : DE) (δ : DS) (S : Sto) : R D := bnd (a δ S) (andVK b δ)
def orVB (b : DE) (δ : DS) : Bool → Sto → R D
 | true, S => ok (.bl true) S
 | false, S => b δ S
def orVK (b : DE) (δ : DS) (x : D) (S : Sto) : R D := bnd (truV x S) (orVB b δ)
def orV (a b : DE) (δ : DS) (S : Sto) : R D := bnd (a δ S) (orVK b δ)
def notVB (c : Bool) (S : Sto) : R D := ok (.bl (!c)) S
def notVK (x : D) (S : Sto) : R D := bnd (truV x S) notVB
def notV (a : DE) (δ : DS) (S : Sto) : R D := bnd (a δ S) notVK
def nxS (δ : DS) (S : Sto) : R Fl := ok (.nx δ) S
def seqK (b : DSt) : Fl → Sto → R Fl
 | .nx δ, S => b δ S
 | .rt d, S => ok (.rt d) S
 | .bk δ, S => ok (.bk δ) S
 | .ct δ, S => ok (.ct δ) S
def seqS (a b : DSt) (δ : DS) (S : Sto) : R Fl := bnd (a δ S) (seqK b)
def dropK (δ : DS) (_ : D) (S : Sto) : R Fl := ok (.nx δ) S
def dropS (e : DE) (δ : DS) (S : Sto) : R Fl := bnd (e δ S) (dropK δ)
def retK (d : D) (S : Sto) : R Fl := ok (.rt d) S
def retS (e : DE) (δ : DS) (S : Sto) : R Fl := bnd (e δ S) retK
def ifK (a b : DSt) (δ : DS) : Bool → Sto → R Fl
 | true, S => a δ S
 | false, S => b δ S
def ifS (t : DT) (a b : DSt) (δ : DS) (S : Sto) : R Fl := bnd (t δ S) (ifK a b δ)
def brkS (δ : DS) (S : Sto) : R Fl := ok (.bk δ) S
def cntS (δ : DS) (S : Sto) : R Fl := ok (.ct δ) S
def setG (i : Nat) (d : D) (δ : DS) (S : Sto) : R DS := ok (δ.set i (some d)) S
def asgK (g : DG) (δ : DS) (d : D) (S : Sto) : R Fl := bnd (g d δ S) nxS
def asgS (e : DE) (g : DG) (δ : DS) (S : Sto) : R Fl := bnd (e δ S) (asgK g δ)
abbrev setS (i : Nat) (e : DE) : DSt := asgS e (setG i)
def parK2 (i j : Nat) (δ : DS) (x y : D) (S : Sto) : R Fl := ok (.nx ((δ.set i (some x)).set j (some y))) S
def parK (i j : Nat) (b : DE) (δ : DS) (x : D) (S : Sto) : R Fl := bnd (b δ S) (parK2 i j δ x)
def parS (i j : Nat) (a b : DE) (δ : DS) (S : Sto) : R Fl := bnd (a δ S) (parK i j b δ)
def tupGs : List DG → List D → DS → Sto → R DS
 | [], [], δ, S => ok δ S
 | g :: gs, d :: ds, δ, S => bnd (g d δ S) (tupGs gs ds)
 | _, _, _, _ => none
def tupG (gs : List DG) (d : D) (δ : DS) (S : Sto) : R DS := match d with
 | .tup ds => if ds.length = gs.length then tupGs gs ds δ S else none
 | _ => none
inductive Src where
 | fix (xs : List D) | one (a : Nat) | two (a b : Nat) | enm (a : Nat) | rev (a n : Nat)
def enm1 (i : Nat) : Option D → Option D
 | some x => some (.tup [.int i, x])
 | none => none
def two1 : Option D → Option D → Option D
 | some x, some y => some (.tup [x, y])
 | _, _ => none
def Src.get : Src → Sto → Nat → Option (Option D)
 | .fix xs, _, i => some xs[i]?
 | .one a, S, i => match zH S a with
  | some xs => some xs[i]?
  | none => none
 | .two a b, S, i => match zH S a, zH S b with
  | some xs, some ys => some (two1 xs[i]? ys[i]?)
  | _, _ => none
 | .enm a, S, i => match zH S a with
  | some xs => some (enm1 i xs[i]?)
  | none => none
 | .rev a n, S, i => match zH S a with
  | some xs => if i < n then (match xs[n - 1 - i]? with
    | some x => some (some x)
    | none => none) else some none
  | none => none
def Src.len : Src → Sto → Nat
 | .fix xs, _ => xs.length
 | .one a, S => match zH S a with
  | some xs => xs.length
  | none => 0
 | .two a _, S => match zH S a with
  | some xs => xs.length
  | none => 0
 | .enm a, S => match zH S a with
  | some xs => xs.length
  | none => 0
 | .rev _ n, _ => n
abbrev DI := DS → Sto → R Src
def loopK (k : DSt) : Fl → Sto → R Fl
 | .nx δ, S => k δ S
 | .ct δ, S => k δ S
 | .bk δ, S => ok (.nx δ) S
 | .rt d, S => ok (.rt d) S
def turnK (b k : DSt) (δ : DS) (S : Sto) : R Fl := bnd (b δ S) (loopK k)
def forD (src : Src) (g : DG) (b : DSt) : Nat → Nat → DSt
 | 0, i, δ, S => match src.get S i with
  | some none => ok (.nx δ) S
  | _ => none
 | n + 1, i, δ, S => match src.get S i with
  | some none => ok (.nx δ) S
  | some (some x) => bnd (g x δ S) (turnK b (forD src g b n (i + 1)))
  | none => none
def forK (g : DG) (b : DSt) (δ : DS) (src : Src) (S : Sto) : R Fl := forD src g b (src.len S) 0 δ S
def forS (it : DI) (g : DG) (b : DSt) (δ : DS) (S : Sto) : R Fl := bnd (it δ S) (forK g b δ)
def whK (b k : DSt) (δ : DS) : Bool → Sto → R Fl
 | true, S => turnK b k δ S
 | false, S => ok (.nx δ) S
def whileD (t : DT) (b : DSt) : Nat → DSt
 | 0, _, _ => none
 | n + 1, δ, S => bnd (t δ S) (whK b (whileD t b n) δ)
theorem whileD_succ (t : DT) (b : DSt) : ∀ (n : Nat) (δ : DS) (S : Sto) (r : Rs Fl), whileD t b n δ S = some r → whileD t b (n + 1) δ S = some r
 | 0, _, _, _, h => by cases h
 | n + 1, δ, S, r, h => by
  have h : bnd (t δ S) (whK b (whileD t b n) δ) = some r := h
  show bnd (t δ S) (whK b (whileD t b (n + 1)) δ) = some r
  rcases bnd_some h with ⟨c, S1, e, q⟩ | ⟨c, S1, e, q⟩
  ·rw [e]
   cases c with
   | false => exact q
   | true =>
    show bnd (b δ S1) (loopK (whileD t b (n + 1))) = some r
    rcases bnd_some (show bnd (b δ S1) (loopK (whileD t b n)) = some r from q) with ⟨f, S2, e2, q2⟩ | ⟨c, S2, e2, q2⟩
    ·rw [e2]
     cases f with
     | nx δ' => exact whileD_succ t b n δ' S2 r q2
     | ct δ' => exact whileD_succ t b n δ' S2 r q2
     | bk δ' => exact q2
     | rt d => exact q2
    ·rw [e2, q2]
     rfl
  ·rw [e, q]
   rfl
theorem whileD_le {t : DT} {b : DSt} {n m : Nat} {δ : DS} {S : Sto} {r : Rs Fl} (h : whileD t b n δ S = some r) (hm : n ≤ m) : whileD t b m δ S = some r := by
 obtain ⟨k, rfl⟩ := Nat.exists_eq_add_of_le hm
 induction k with
 | zero => exact h
 | succ k ih => exact whileD_succ t b (n + k) δ S r (ih (Nat.le_add_right _ _))
noncomputable def whileS (t : DT) (b : DSt) (δ : DS) (S : Sto) : R Fl := open Classical in if h : ∃ n r, whileD t b n δ S = some r then whileD t b (Classical.choose h) δ S else none
theorem whileS_of {t : DT} {b : DSt} {n : Nat} {δ : DS} {S : Sto} {r : Rs Fl} (h : whileD t b n δ S = some r) : whileS t b δ S = some r := by
 have hx : ∃ n r, whileD t b n δ S = some r := ⟨n, r, h⟩
 unfold whileS
 rw [dif_pos hx]
 obtain ⟨r', hr'⟩ := Classical.choose_spec hx
 have h1 := whileD_le hr' (Nat.le_max_left _ n)
 have h2 := whileD_le h (Nat.le_max_right (Classical.choose hx) n)
 rw [hr', ← h1, h2]
theorem whileS_some {t : DT} {b : DSt} {δ : DS} {S : Sto} {r : Rs Fl} (h : whileS t b δ S = some r) : ∃ n, whileD t b n δ S = some r := by
 unfold whileS at h
 split at h
 ·exact ⟨_, h⟩
 ·cases h
def nevS (_ : DS) (_ : Sto) : R Fl := none
def raiseS (c : Str) (_ : DS) (S : Sto) : R Fl := er c S
def itL : D → Sto → R Src
 | .ref a, S => match zH S a with
  | some _ => ok (.one a) S
  | none => none
 | .scr xs, S => ok (.fix xs) S
 | _, _ => none
def intsD (lo : Int) : Nat → List D
 | 0 => []
 | n + 1 => .int lo :: intsD (lo + 1) n
theorem limEx : ∃ v : Int, v = 1000000 := ⟨_, rfl⟩
noncomputable def lim : Int := Classical.choose limEx
theorem lim_eq : lim = 1000000 := Classical.choose_spec limEx
noncomputable def rng1D : List D → Sto → R Src
 | [.int n], S => if n < lim ∧ -lim < n then ok (.fix (intsD 0 n.toNat)) S else none
 | _, _ => none
noncomputable def rng2D : List D → Sto → R Src
 | [.int a, .int b], S => if (a < lim ∧ -lim < a) ∧ b < lim ∧ -lim < b then ok (.fix (intsD a (b - a).toNat)) S else none
 | _, _ => none
def zip2D : List D → Sto → R Src
 | [.ref a, .ref b], S => match zH S a, zH S b with
  | some _, some _ => ok (.two a b) S
  | _, _ => none
 | _, _ => none
def enumD : List D → Sto → R Src
 | [.ref a], S => match zH S a with
  | some _ => ok (.enm a) S
  | none => none
 | _, _ => none
def itE (f : D → Sto → R Src) (e : DE) (δ : DS) (S : Sto) : R Src := bnd (e δ S) f
def itA (f : List D → Sto → R Src) (as : DA) (δ : DS) (S : Sto) : R Src := bnd (as δ S) f
def newO (o : O) (S : Sto) : R D := ok (.ref S.length) (S ++ [o])
def compK2 (k : DA) (δ : DS) (d : D) (S : Sto) : R (List D) := bnd (k δ S) (consK d)
def compK (e : DE) (k : DA) (δ : DS) (S : Sto) : R (List D) := bnd (e δ S) (compK2 k δ)
def compD (src : Src) (g : DG) (e : DE) : Nat → Nat → DA
 | 0, i, δ, S => match src.get S i with
  | some none => ok [] S
  | _ => none
 | n + 1, i, δ, S => match src.get S i with
  | some none => ok [] S
  | some (some x) => bnd (g x δ S) (compK e (compD src g e n (i + 1)))
  | none => none
def compIB (e : DE) (k : DA) (δ : DS) : Bool → Sto → R (List D)
 | true, S => bnd (e δ S) (compK2 k δ)
 | false, S => k δ S
def compIK (t : DT) (e : DE) (k : DA) (δ : DS) (S : Sto) : R (List D) := bnd (t δ S) (compIB e k δ)
def compID (src : Src) (g : DG) (t : DT) (e : DE) : Nat → Nat → DA
 | 0, i, δ, S => match src.get S i with
  | some none => ok [] S
  | _ => none
 | n + 1, i, δ, S => match src.get S i with
  | some none => ok [] S
  | some (some x) => bnd (g x δ S) (compIK t e (compID src g t e n (i + 1)))
  | none => none
def lstK (ds : List D) (S : Sto) : R D := newO (.lst ds) S
def noer {α : Type} : R α → R α
 | some (.ok a S) => ok a S
 | some (.er _ _) => none
 | none => none
def compL (g : DG) (e : DE) (δ : DS) (src : Src) (S : Sto) : R D := if src.len S ≤ 1000000 then bnd (noer (compD src g e (src.len S) 0 δ S)) lstK else none
def compE (it : DI) (k : Nat) (g : DG) (e : DE) (δ : DS) (S : Sto) : R D := bnd (it δ S) (compL g e (δ ++ List.replicate k none))
def compIL (g : DG) (t : DT) (e : DE) (δ : DS) (src : Src) (S : Sto) : R D := if src.len S ≤ 1000000 then bnd (noer (compID src g t e (src.len S) 0 δ S)) lstK else none
def compI (it : DI) (k : Nat) (g : DG) (t : DT) (e : DE) (δ : DS) (S : Sto) : R D := bnd (it δ S) (compIL g t e (δ ++ List.replicate k none))
def outF : R Fl → R D
 | some (.ok (.nx _) S) => ok .non S
 | some (.ok (.rt d) S) => ok d S
 | some (.ok (.bk _) _) => none
 | some (.ok (.ct _) _) => none
 | some (.er c S) => er c S
 | none => none
def startD (n : Nat) (ds : List D) : DS := ds.map some ++ List.replicate (n - ds.length) none
def fnF (n k : Nat) (g : DSt) (ds : List D) (S : Sto) : R D := if ds.length = k then noer (outF (g (startD n ds) S)) else none
def noerS (g : DSt) (δ : DS) (S : Sto) : R Fl := noer (g δ S)
def fnX (n k : Nat) (g : DSt) (ds : List D) (S : Sto) : R D := if ds.length = k then outF (g (startD n ds) S) else none
def op3K2 (f : D → D → D → Sto → R D) (x y : D) (z : D) (S : Sto) : R D := f x y z S
def op3K (f : D → D → D → Sto → R D) (c : DE) (δ : DS) (x y : D) (S : Sto) : R D := bnd (c δ S) (op3K2 f x y)
def op3J (f : D → D → D → Sto → R D) (b c : DE) (δ : DS) (x : D) (S : Sto) : R D := bnd (b δ S) (op3K f c δ x)
def op3 (f : D → D → D → Sto → R D) (a b c : DE) (δ : DS) (S : Sto) : R D := bnd (a δ S) (op3J f b c δ)
def chnB (g : D → D → Sto → R D) (c : DE) (δ : DS) (y : D) : Bool → Sto → R D
 | true, S => bnd (c δ S) (g y)
 | false, S => ok (.bl false) S
def chnT (g : D → D → Sto → R D) (c : DE) (δ : DS) (y : D) (t : D) (S : Sto) : R D := bnd (truV t S) (chnB g c δ y)
def chnK2 (f g : D → D → Sto → R D) (c : DE) (δ : DS) (x y : D) (S : Sto) : R D := bnd (f x y S) (chnT g c δ y)
def chnK (f g : D → D → Sto → R D) (b c : DE) (δ : DS) (x : D) (S : Sto) : R D := bnd (b δ S) (chnK2 f g c δ x)
def chn (f g : D → D → Sto → R D) (a b c : DE) (δ : DS) (S : Sto) : R D := bnd (a δ S) (chnK f g b c δ)
@[simp] theorem truV_bl (b : Bool) (S : Sto) : truV (.bl b) S = ok b S := rfl
@[simp] theorem seqK_nx (b : DSt) (δ : DS) (S : Sto) : seqK b (.nx δ) S = b δ S := rfl
@[simp] theorem seqK_rt (b : DSt) (d : D) (S : Sto) : seqK b (.rt d) S = ok (.rt d) S := rfl
@[simp] theorem ifK_t (a b : DSt) (δ : DS) (S : Sto) : ifK a b δ true S = a δ S := rfl
@[simp] theorem ifK_f (a b : DSt) (δ : DS) (S : Sto) : ifK a b δ false S = b δ S := rfl
end Np
end
section
namespace Np
open PySem
def tupD (ds : List D) (S : Sto) : R D := if ds.length ≤ 1000 then ok (.tup ds) S else none
def lstD (ds : List D) (S : Sto) : R D := if ds.length ≤ 1000 then newO (.lst ds) S else none
def catD (a b : Option (List D)) (S : Sto) : R D := match a, b with
 | some xs, some ys => if xs.length + ys.length ≤ 1000000 then newO (.lst (xs ++ ys)) S else none
 | _, _ => none
def addD : D → D → Sto → R D
 | .int i, .int j, S => ok (.int (i + j)) S
 | .str x, .str y, S => if x.length + y.length ≤ 1000000 then ok (.str (x ++ y)) S else none
 | .ref a, .ref b, S => catD (zH S a) (zH S b) S
 | _, _, _ => none
def subD : D → D → Sto → R D
 | .int i, .int j, S => ok (.int (i - j)) S
 | _, _, _ => none
def repD (a : Option (List D)) (k : Int) (S : Sto) : R D := match a with
 | some xs => if xs.length * k.toNat ≤ 1000000 ∧ -1000000000 < k ∧ k < 1000000000 then newO (.lst (List.replicate k.toNat xs).flatten) S else none
 | none => none
def mulD : D → D → Sto → R D
 | .int i, .int j, S => if i.natAbs.log2 + j.natAbs.log2 ≤ 100000000 then ok (.int (i * j)) S else none
 | .ref a, .int k, S => repD (zH S a) k S
 | _, _, _ => none
def fdivD : D → D → Sto → R D
 | .int i, .int j, S => if j = 0 then none else ok (.int (i.fdiv j)) S
 | _, _, _ => none
def modD : D → D → Sto → R D
 | .int i, .int j, S => if j = 0 then none else ok (.int (i.fmod j)) S
 | _, _, _ => none
def powD : D → D → Sto → R D
 | .int i, .int j, S => if (0 ≤ j ∧ j ≤ 1000) ∧ i.natAbs < 1000000 then ok (.int (i ^ j.toNat)) S else none
 | _, _, _ => none
def negD : D → Sto → R D
 | .int i, S => ok (.int (-i)) S
 | _, _ => none
def absD : List D → Sto → R D
 | [.int i], S => ok (.int (if i < 0 then -i else i)) S
 | _, _ => none
inductive T where
 | non | bl (b : Bool) | int (i : Int) | str (x : Str) | tup (xs : List T) | lst (xs : List T)
mutual
def eqT : T → T → Bool
 | .non, .non => true
 | .bl a, .bl b => a == b
 | .bl a, .int j => (if a then 1 else 0) == j
 | .int i, .bl b => i == (if b then 1 else 0)
 | .int i, .int j => i == j
 | .str x, .str y => x == y
 | .lst xs, .lst ys => eqTs xs ys
 | .tup xs, .tup ys => eqTs xs ys
 | _, _ => false
def eqTs : List T → List T → Bool
 | [], [] => true
 | x :: xs, y :: ys => eqT x y && eqTs xs ys
 | _, _ => false
end
def rdl (f : D → Option T) : List D → Option (List T)
 | [] => some []
 | d :: ds => match f d, rdl f ds with
  | some t, some ts => some (t :: ts)
  | _, _ => none
def rd : Nat → Sto → D → Option T
 | _, _, .non => some .non
 | _, _, .bl b => some (.bl b)
 | _, _, .int i => some (.int i)
 | _, _, .str x => if x.cps.all (· < 0x110000) = true then some (.str x) else none
 | n + 1, S, .tup ds => (rdl (rd n S) ds).map .tup
 | n + 1, S, .ref a => match zH S a with
  | some ds => (rdl (rd n S) ds).map .lst
  | none => none
 | _, _, _ => none
def eqK (neg : Bool) (S : Sto) : Option T → Option T → R D
 | some t, some u => ok (.bl (if neg = true then !eqT t u else eqT t u)) S
 | _, _ => none
def eqD (x y : D) (S : Sto) : R D := eqK false S (rd 9 S x) (rd 9 S y)
def neD (x y : D) (S : Sto) : R D := eqK true S (rd 9 S x) (rd 9 S y)
def ltD : D → D → Sto → R D
 | .int i, .int j, S => ok (.bl (decide (i < j))) S
 | _, _, _ => none
def leD : D → D → Sto → R D
 | .int i, .int j, S => ok (.bl (decide (i ≤ j))) S
 | _, _, _ => none
def gtD : D → D → Sto → R D
 | .int i, .int j, S => ok (.bl (decide (j < i))) S
 | _, _, _ => none
def geD : D → D → Sto → R D
 | .int i, .int j, S => ok (.bl (decide (j ≤ i))) S
 | _, _, _ => none
def isNoneB : D → Bool
 | .non => true
 | _ => false
def isND (x y : D) (S : Sto) : R D := match y with
 | .non => ok (.bl (isNoneB x)) S
 | _ => none
def isNND (x y : D) (S : Sto) : R D := match y with
 | .non => ok (.bl (!isNoneB x)) S
 | _ => none
def ixA (n : Nat) (i : Int) : Option Nat := if 0 ≤ i then (if i < n then some i.toNat else none) else if -(n : Int) ≤ i then some (i + n).toNat else none
def ixK (xs : Option (List D)) (i : Int) (S : Sto) : R D := match xs with
 | some xs => match (ixA xs.length i).bind (fun j => xs[j]?) with
  | some d => ok d S
  | none => none
 | none => none
def ixD : D → D → Sto → R D
 | .tup xs, .int i, S => ixK (some xs) i S
 | .ref a, .int i, S => ixK (zH S a) i S
 | .scr xs, .int i, S => ixK (some xs) i S
 | _, _, _ => none
def lenK (xs : Option (List D)) (S : Sto) : R D := match xs with
 | some xs => ok (.int xs.length) S
 | none => none
def lenD : List D → Sto → R D
 | [.scr xs], S => lenK (some xs) S
 | [.tup xs], S => lenK (some xs) S
 | [.ref a], S => lenK (zH S a) S
 | [.str x], S => if x.length ≤ 1000000 then ok (.int x.length) S else none
 | _, _ => none
inductive Kd where
 | int | bool | str | lst | tup
 deriving DecidableEq
def isK : Kd → D → Sto → Option Bool
 | _, .exc _, _ => none
 | _, .scr _, _ => none
 | .lst, .ref a, S => match S[a]? with
  | some (.lst _) => some true
  | _ => none
 | _, .ref a, S => match S[a]? with
  | some (.lst _) => some false
  | _ => none
 | .int, .int _, _ => some true
 | .int, .bl _, _ => some true
 | .bool, .bl _, _ => some true
 | .str, .str _, _ => some true
 | .tup, .tup _, _ => some true
 | _, _, _ => some false
def isiD (k : Kd) (x : D) (S : Sto) : R D := match isK k x S with
 | some b => ok (.bl b) S
 | none => none
def sIxD (n d : Nat) : Option Int → Nat
 | none => d
 | some v => if v < 0 then (v + (n : Int)).toNat else min v.toNat n
def cutD (xs : List D) (lo hi : Option Int) : List D := (xs.drop (sIxD xs.length 0 lo)).take (sIxD xs.length xs.length hi - sIxD xs.length 0 lo)
abbrev DO := DS → Sto → R (Option Int)
def noP (_ : DS) (S : Sto) : R (Option Int) := ok none S
def atPK : D → Sto → R (Option Int)
 | .int i, S => ok (some i) S
 | _, _ => none
def atP (e : DE) (δ : DS) (S : Sto) : R (Option Int) := bnd (e δ S) atPK
def slD (x : D) (lo hi : Option Int) (S : Sto) : R D := match x with
 | .ref a => match zH S a with
  | some xs => newO (.lst (cutD xs lo hi)) S
  | none => none
 | .scr xs => newO (.lst (cutD xs lo hi)) S
 | .tup xs => if sIxD xs.length 0 lo = 0 ∧ sIxD xs.length xs.length hi = xs.length then none else ok (.tup (cutD xs lo hi)) S
 | _ => none
def slK2 (x : D) (lo : Option Int) (hi : Option Int) (S : Sto) : R D := slD x lo hi S
def slK1 (h : DO) (δ : DS) (x : D) (lo : Option Int) (S : Sto) : R D := bnd (h δ S) (slK2 x lo)
def slK (l h : DO) (δ : DS) (x : D) (S : Sto) : R D := bnd (l δ S) (slK1 h δ x)
def slE (e : DE) (l h : DO) (δ : DS) (S : Sto) : R D := bnd (e δ S) (slK l h δ)
def lofD : List D → Sto → R D
 | [.ref a], S => match zH S a with
  | some xs => newO (.lst xs) S
  | none => none
 | [.scr xs], S => newO (.lst xs) S
 | [.tup xs], S => newO (.lst xs) S
 | _, _ => none
def appD (x : D) (y : D) (S : Sto) : R D := match x with
 | .ref a => match zH S a with
  | some xs => if xs.length < 1000000 then ok .non (S.set a (.lst (xs ++ [y]))) else none
  | none => none
 | _ => none
def setXA (v : D) (δ : DS) (x y : D) (S : Sto) : R DS := match x, y with
 | .ref a, .int j => match zH S a with
  | some xs => match ixA xs.length j with
   | some k => ok δ (S.set a (.lst (xs.set k v)))
   | none => none
  | none => none
 | _, _ => none
def setXK (i : DE) (v : D) (δ : DS) (x : D) (S : Sto) : R DS := bnd (i δ S) (setXA v δ x)
def setXG (o i : DE) (v : D) (δ : DS) (S : Sto) : R DS := bnd (o δ S) (setXK i v δ)
def isL (x : D) (S : Sto) : Bool := match x with
 | .ref a => (zH S a).isSome
 | _ => false
def opMK (f : D → D → Sto → R D) (b : DE) (δ : DS) (x : D) (S : Sto) : R D := if isL x S = true then bnd (b δ S) (f x) else none
def opM (f : D → D → Sto → R D) (a b : DE) (δ : DS) (S : Sto) : R D := bnd (a δ S) (opMK f b δ)
def opM3K (f : D → D → D → Sto → R D) (b c : DE) (δ : DS) (x : D) (S : Sto) : R D := if isL x S = true then op3J f b c δ x S else none
def opM3 (f : D → D → D → Sto → R D) (a b c : DE) (δ : DS) (S : Sto) : R D := bnd (a δ S) (opM3K f b c δ)
def extD (x : D) (y : D) (S : Sto) : R D := match x, y with
 | .ref a, .ref b => match zH S a, zH S b with
  | some xs, some ys => if xs.length + ys.length ≤ 1000000 then ok .non (S.set a (.lst (xs ++ ys))) else none
  | _, _ => none
 | _, _ => none
def allB : List D → Option Bool
 | [] => some true
 | .bl b :: r => match allB r with
  | some c => some (b && c)
  | none => none
 | _ :: _ => none
def allD : List D → Sto → R D
 | [.ref a], S => match zH S a with
  | some xs => match allB xs with
   | some b => ok (.bl b) S
   | none => none
  | none => none
 | _, _ => none
def dvmD : List D → Sto → R D
 | [.int i, .int j], S => if j = 0 then none else ok (.tup [.int (i.fdiv j), .int (i.fmod j)]) S
 | _, _ => none
def intD : List D → Sto → R D
 | [.int i], S => ok (.int i) S
 | [.bl b], S => ok (.int (if b = true then 1 else 0)) S
 | _, _ => none
def memT (t : T) : List T → Bool
 | [] => false
 | u :: us => eqT t u || memT t us
def inA (neg : Bool) (x y : D) (S : Sto) : R D := match y with
 | .ref a => match zH S a with
  | some ys => match rd 8 S x, rdl (rd 8 S) ys with
   | some t, some ts => ok (.bl (if neg = true then !memT t ts else memT t ts)) S
   | _, _ => none
  | none => none
 | _ => none
def notinD (x y : D) (S : Sto) : R D := inA true x y S
end Np
end
section
namespace Np
open PySem
end Np
end
section
namespace Np
open PySem PySem.Spec PyProof.Rows L2
structure Gx where
 K : PySem.W.Frag
 mg : Str → Option Value
structure Wd where
 μ : Nat → Addr
 S : Sto
def excAt (a C : Addr) : Heap → Prop := fun h => ∃ o, h.get? a = some o ∧ o.cls = .ref C
def Sc (K : PySem.W.Frag) (H : Hp) (a : Addr) (xs : List V) : Prop := (∃ o, H a = some (.frz o (.lst xs))) ∨ SqL K (fun _ => none) a xs
theorem Sc.sq {K : PySem.W.Frag} {H : Hp} {a : Addr} {xs : List V} (h : Sc K H a xs) : SqL K H a xs := by
 rcases h with ⟨o, h⟩ | (h | h)
 ·exact .inl (.inr ⟨o, h⟩)
 ·rcases h with h | ⟨o, h⟩ <;> cases h
 ·exact .inr h
mutual
def Rep (G : Gx) (H : Hp) (W : Wd) : D → V → Prop
 | .non, v => v = .non
 | .bl b, v => v = .bl b
 | .int i, v => v = .int i
 | .str x, v => v = .str x
 | .tup ds, v => ∃ a xs, v = .ref a ∧ SqT G.K H a xs ∧ RepL G H W ds xs
 | .ref i, v => i < W.S.length ∧ v = .ref (W.μ i)
 | .exc c, v => ∃ a C, v = .ref a ∧ G.mg c = some (.ref C) ∧ H a = some (.ext (excAt a C))
 | .scr ds, v => ∃ a xs, v = .ref a ∧ Sc G.K H a xs ∧ RepL G H W ds xs
def RepL (G : Gx) (H : Hp) (W : Wd) : List D → List V → Prop
 | [], vs => vs = []
 | d :: ds, vs => ∃ v r, vs = v :: r ∧ Rep G H W d v ∧ RepL G H W ds r
end
def RepO (G : Gx) (H : Hp) (W : Wd) (a : Addr) : O → Prop
 | .lst ds => ∃ xs, H a = some (.lst xs) ∧ RepL G H W ds xs
 | .dct kvs => kvs = [] ∧ H a = some (.dK [])
 | .ins c fs => ∃ C dx ps, G.mg c = some (.ref C) ∧ H a = some (.ins C dx ps) ∧ ps.map (·.1) = fs.map (·.1) ∧ RepL G H W (fs.map (·.2)) (ps.map (·.2))
structure StOk (G : Gx) (H : Hp) (W : Wd) : Prop where
 inj : ∀ i j, i < W.S.length → j < W.S.length → W.μ i = W.μ j → i = j
 get : ∀ i o, W.S[i]? = some o → RepO G H W (W.μ i) o
def stB : HO → Bool
 | .lst _ => true
 | .dK _ => true
 | .ins _ _ _ => true
 | _ => false
theorem StOk.at {G : Gx} {H : Hp} {W : Wd} (h : StOk G H W) {i : Nat} (hi : i < W.S.length) : ∃ o, H (W.μ i) = some o ∧ stB o = true := by
 have := h.get i W.S[i] (by simp [hi])
 cases q : W.S[i] with
 | lst ds => rw [q] at this; obtain ⟨xs, e, _⟩ := this; exact ⟨_, e, rfl⟩
 | dct kvs => rw [q] at this; obtain ⟨_, e⟩ := this; exact ⟨_, e, rfl⟩
 | ins c fs => rw [q] at this; obtain ⟨_, _, _, _, e, _⟩ := this; exact ⟨_, e, rfl⟩
theorem StOk.apart {G : Gx} {H : Hp} {W : Wd} (h : StOk G H W) {b : Addr} {o : HO} (e : H b = some o) (ho : stB o = false) : ∀ i, i < W.S.length → W.μ i ≠ b := fun i hi z => by
 obtain ⟨u, eu, hu⟩ := h.at hi
 rw [z, e] at eu
 cases eu
 rw [ho] at hu
 cases hu
theorem StOk.new {G : Gx} {H : Hp} {W : Wd} (h : StOk G H W) {b : Addr} (e : H b = none) : ∀ i, i < W.S.length → W.μ i ≠ b := fun i hi z => by
 obtain ⟨u, eu, hu⟩ := h.at hi
 rw [z, e] at eu
 cases eu
structure Mv (H : Hp) (W : Wd) (H' : Hp) (W' : Wd) : Prop where
 len : W.S.length ≤ W'.S.length
 old : ∀ i, i < W.S.length → W'.μ i = W.μ i
 frm : ∀ b o, H b = some o → stB o = false → H' b = some o
theorem Mv.sqT {K : PySem.W.Frag} {H H' : Hp} {W W' : Wd} {a : Addr} {xs : List V} (e : Mv H W H' W') (h : SqT K H a xs) : SqT K H' a xs := by
 rcases h with (h | ⟨o, h⟩) | h
 ·exact .inl (.inl (e.frm _ _ h rfl))
 ·exact .inl (.inr ⟨o, e.frm _ _ h rfl⟩)
 ·exact .inr h
theorem Mv.sc {K : PySem.W.Frag} {H H' : Hp} {W W' : Wd} {a : Addr} {xs : List V} (e : Mv H W H' W') (h : Sc K H a xs) : Sc K H' a xs := by
 rcases h with ⟨o, h⟩ | h
 ·exact .inl ⟨o, e.frm _ _ h rfl⟩
 ·exact .inr h
mutual
theorem Rep.mv {G : Gx} {H H' : Hp} {W W' : Wd} (s : Mv H W H' W') : ∀ {d : D} {v : V}, Rep G H W d v → Rep G H' W' d v
 | .non, _, h => h
 | .bl _, _, h => h
 | .int _, _, h => h
 | .str _, _, h => h
 | .tup ds, _, h => by
  obtain ⟨a, xs, e, q, r⟩ := h
  exact ⟨a, xs, e, s.sqT q, RepL.mv s r⟩
 | .ref i, _, h => by
  obtain ⟨l, e⟩ := h
  exact ⟨Nat.lt_of_lt_of_le l s.len, by rw [e, s.old i l]⟩
 | .exc c, _, h => by
  obtain ⟨a, C, e, m, q⟩ := h
  exact ⟨a, C, e, m, s.frm _ _ q rfl⟩
 | .scr ds, _, h => by
  obtain ⟨a, xs, e, q, r⟩ := h
  exact ⟨a, xs, e, s.sc q, RepL.mv s r⟩
theorem RepL.mv {G : Gx} {H H' : Hp} {W W' : Wd} (s : Mv H W H' W') : ∀ {ds : List D} {vs : List V}, RepL G H W ds vs → RepL G H' W' ds vs
 | [], _, h => h
 | d :: ds, _, h => by
  obtain ⟨v, r, e, q, t⟩ := h
  exact ⟨v, r, e, Rep.mv s q, RepL.mv s t⟩
end
theorem RepL.length {G : Gx} {H : Hp} {W : Wd} : ∀ {ds : List D} {vs : List V}, RepL G H W ds vs → ds.length = vs.length
 | [], _, h => by cases h; rfl
 | d :: ds, _, h => by
  obtain ⟨v, r, e, q, t⟩ := h
  subst e
  simp [RepL.length t]
theorem RepL.get {G : Gx} {H : Hp} {W : Wd} : ∀ {ds : List D} {vs : List V} {i : Nat} {d : D}, RepL G H W ds vs → ds[i]? = some d → ∃ v, vs[i]? = some v ∧ Rep G H W d v
 | [], _, _, _, _, e => by simp at e
 | d :: ds, _, 0, _, h, e => by
  obtain ⟨v, r, rfl, q, t⟩ := h
  simp at e; subst e
  exact ⟨v, rfl, q⟩
 | d :: ds, _, i + 1, _, h, e => by
  obtain ⟨v, r, rfl, q, t⟩ := h
  obtain ⟨u, h1, h2⟩ := RepL.get (i := i) t (by simpa using e)
  exact ⟨u, by simpa using h1, h2⟩
theorem RepL.append {G : Gx} {H : Hp} {W : Wd} : ∀ {ds es : List D} {vs us : List V}, RepL G H W ds vs → RepL G H W es us → RepL G H W (ds ++ es) (vs ++ us)
 | [], _, _, _, h, k => by cases h; exact k
 | d :: ds, _, _, _, h, k => by
  obtain ⟨v, r, rfl, q, t⟩ := h
  exact ⟨v, _, rfl, q, RepL.append t k⟩
theorem RepL.take {G : Gx} {H : Hp} {W : Wd} : ∀ {ds : List D} {vs : List V} (n : Nat), RepL G H W ds vs → RepL G H W (ds.take n) (vs.take n)
 | _, _, 0, _ => by simp [RepL]
 | [], _, n + 1, h => by cases h; simp [RepL]
 | d :: ds, _, n + 1, h => by
  obtain ⟨v, r, rfl, q, t⟩ := h
  exact ⟨v, _, rfl, q, RepL.take n t⟩
theorem RepL.drop {G : Gx} {H : Hp} {W : Wd} : ∀ {ds : List D} {vs : List V} (n : Nat), RepL G H W ds vs → RepL G H W (ds.drop n) (vs.drop n)
 | _, _, 0, h => h
 | [], _, n + 1, h => by cases h; simp [RepL]
 | d :: ds, _, n + 1, h => by
  obtain ⟨v, r, rfl, q, t⟩ := h
  exact RepL.drop n t
theorem RepL.set {G : Gx} {H : Hp} {W : Wd} {d' : D} {v' : V} (q' : Rep G H W d' v') : ∀ {ds : List D} {vs : List V} (n : Nat), RepL G H W ds vs → RepL G H W (ds.set n d') (vs.set n v')
 | [], _, n, h => by cases h; simp [RepL]
 | d :: ds, _, 0, h => by
  obtain ⟨v, r, rfl, q, t⟩ := h
  exact ⟨v', _, rfl, q', t⟩
 | d :: ds, _, n + 1, h => by
  obtain ⟨v, r, rfl, q, t⟩ := h
  exact ⟨v, _, rfl, q, RepL.set q' n t⟩
theorem RepL.one {G : Gx} {H : Hp} {W : Wd} {d : D} {v : V} (h : Rep G H W d v) : RepL G H W [d] [v] := ⟨v, [], rfl, h, rfl⟩
theorem RepO.mv {G : Gx} {H H' : Hp} {W W' : Wd} {a : Addr} {o : O} (s : Mv H W H' W') (e : H' a = H a) (h : RepO G H W a o) : RepO G H' W' a o := by
 cases o with
 | lst ds => obtain ⟨xs, q, r⟩ := h; exact ⟨xs, by rw [e]; exact q, r.mv s⟩
 | dct kvs => obtain ⟨q, r⟩ := h; exact ⟨q, by rw [e]; exact r⟩
 | ins c fs => obtain ⟨C, dx, ps, m, q, n, r⟩ := h; exact ⟨C, dx, ps, m, by rw [e]; exact q, n, r.mv s⟩
theorem lstAt_some {S : Sto} {a : Nat} {xs : List D} (h : zH S a = some xs) : S[a]? = some (.lst xs) := by
 unfold zH at h
 split at h
 ·rename_i ys e
  cases h
  exact e
 ·cases h
theorem StOk.lst {G : Gx} {H : Hp} {W : Wd} {a : Nat} {v : V} {ds : List D} (h : StOk G H W) (r : Rep G H W (.ref a) v) (e : zH W.S a = some ds) : ∃ xs, v = .ref (W.μ a) ∧ H (W.μ a) = some (.lst xs) ∧ RepL G H W ds xs := by
 obtain ⟨xs, q, rl⟩ := h.get a _ (lstAt_some e)
 exact ⟨xs, r.2, q, rl⟩
structure Nxt (G : Gx) (H : Hp) (W : Wd) (H' : Hp) (W' : Wd) : Prop where
 ok : StOk G H' W'
 len : W.S.length ≤ W'.S.length
 old : ∀ i, i < W.S.length → W'.μ i = W.μ i
 new : ∀ i, W.S.length ≤ i → i < W'.S.length → H (W'.μ i) = none
 frm : ∀ b o, H b = some o → (∀ i, i < W.S.length → W.μ i ≠ b) → H' b = some o
theorem Nxt.mv {G : Gx} {H H' : Hp} {W W' : Wd} (h : Nxt G H W H' W') (s : StOk G H W) : Mv H W H' W' := ⟨h.len, h.old, fun b o e q => h.frm b o e (s.apart e q)⟩
theorem Nxt.rfl {G : Gx} {H : Hp} {W : Wd} (s : StOk G H W) : Nxt G H W H W := ⟨s, Nat.le_refl _, fun _ _ => by rfl, fun i h h' => absurd h' (Nat.not_lt.mpr h), fun _ _ e _ => e⟩
theorem Nxt.trans {G : Gx} {H H' H'' : Hp} {W W' W'' : Wd} (a : Nxt G H W H' W') (b : Nxt G H' W' H'' W'') : Nxt G H W H'' W'' := by
 refine ⟨b.ok, Nat.le_trans a.len b.len, fun i hi => (b.old i (Nat.lt_of_lt_of_le hi a.len)).trans (a.old i hi), fun i h1 h2 => ?_, fun c o e q => ?_⟩
 ·by_cases hi : i < W'.S.length
  ·rw [b.old i hi]
   exact a.new i h1 hi
  ·have hn := b.new i (Nat.le_of_not_lt hi) h2
   cases q : H (W''.μ i) with
   | none => rfl
   | some o =>
    by_cases hz : ∃ j, j < W.S.length ∧ W.μ j = W''.μ i
    ·obtain ⟨j, hj, ej⟩ := hz
     obtain ⟨o', e', _⟩ := a.ok.at (Nat.lt_of_lt_of_le hj a.len)
     rw [a.old j hj, ej, hn] at e'
     cases e'
    ·have := a.frm _ o q fun j hj ej => hz ⟨j, hj, ej⟩
     rw [hn] at this
     cases this
 ·refine b.frm c o (a.frm c o e q) fun i hi => ?_
  by_cases hl : i < W.S.length
  ·rw [a.old i hl]
   exact q i hl
  ·intro z
   have := a.new i (Nat.le_of_not_lt hl) hi
   rw [z, e] at this
   cases this
def Wd.push (W : Wd) (p : Addr) (o : O) : Wd := ⟨fun i => if i = W.S.length then p else W.μ i, W.S ++ [o]⟩
theorem Mv.push {G : Gx} {H : Hp} {W : Wd} {p : Addr} (hp : H p = none) (u : HO) (o : O) : Mv H W (upd H p u) (W.push p o) :=
 ⟨by simp [Wd.push], fun i hi => if_neg (Nat.ne_of_lt hi), fun b v e _ => by rw [zO (ne_of_none e hp)]; exact e⟩
theorem Nxt.alloc {G : Gx} {H : Hp} {W : Wd} {p : Addr} {u : HO} {o : O} (h : StOk G H W) (hp : H p = none) (hr : RepO G (upd H p u) (W.push p o) p o) : Nxt G H W (upd H p u) (W.push p o) := by
 have m := Mv.push (G := G) (W := W) hp u o
 have hμ : ∀ i, i < W.S.length → (W.push p o).μ i = W.μ i := fun i hi => if_neg (Nat.ne_of_lt hi)
 have hl : (W.push p o).S.length = W.S.length + 1 := by simp [Wd.push]
 have hn : (W.push p o).μ W.S.length = p := if_pos _root_.rfl
 refine ⟨⟨fun i j hi hj e => ?_, fun i o' e => ?_⟩, m.len, hμ, fun i h1 h2 => ?_, fun b v e _ => by rw [zO (ne_of_none e hp)]; exact e⟩
 ·rw [hl] at hi hj
  by_cases h1 : i < W.S.length
  ·by_cases h2 : j < W.S.length
   ·rw [hμ i h1, hμ j h2] at e
    exact h.inj i j h1 h2 e
   ·have : j = W.S.length := by omega
    subst this
    rw [hμ i h1, hn] at e
    exact absurd e (h.new hp i h1)
  ·have : i = W.S.length := by omega
   subst this
   by_cases h2 : j < W.S.length
   ·rw [hμ j h2, hn] at e
    exact absurd e.symm (h.new hp j h2)
   ·omega
 ·have e' : (W.S ++ [o])[i]? = some o' := e
  by_cases h1 : i < W.S.length
  ·rw [List.getElem?_append_left h1] at e'
   rw [hμ i h1]
   exact (h.get i o' e').mv m (zO (h.new hp i h1))
  ·have h2 : i < (W.S ++ [o]).length := (List.getElem?_eq_some_iff.mp e').1
   have : i = W.S.length := by simp at h2; omega
   subst this
   simp at e'
   subst e'
   rw [hn]
   exact hr
 ·rw [hl] at h2
  have : i = W.S.length := by omega
  subst this
  rw [hn]
  exact hp
def Wd.put (W : Wd) (i : Nat) (o : O) : Wd := ⟨W.μ, W.S.set i o⟩
theorem Mv.put {G : Gx} {H : Hp} {W : Wd} {i : Nat} (h : StOk G H W) (hi : i < W.S.length) (u : HO) (o : O) : Mv H W (upd H (W.μ i) u) (W.put i o) :=
 ⟨by simp [Wd.put], fun _ _ => by rfl, fun b v e q => by rw [zO fun z => h.apart e q i hi z.symm]; exact e⟩
theorem Nxt.write {G : Gx} {H : Hp} {W : Wd} {i : Nat} {u : HO} {o : O} (h : StOk G H W) (hi : i < W.S.length) (hr : RepO G (upd H (W.μ i) u) (W.put i o) (W.μ i) o) : Nxt G H W (upd H (W.μ i) u) (W.put i o) := by
 have m := Mv.put h hi u o
 have hl : (W.put i o).S.length = W.S.length := by simp [Wd.put]
 refine ⟨⟨fun a b ha hb e => h.inj a b (by rw [← hl]; exact ha) (by rw [← hl]; exact hb) e, fun j o' e => ?_⟩, m.len, m.old, fun j h1 h2 => by omega, fun b v e q => by rw [zO fun z => q i hi z.symm]; exact e⟩
 have e' : (W.S.set i o)[j]? = some o' := e
 by_cases hj : i = j
 ·subst hj
  rw [List.getElem?_set_self hi] at e'
  cases e'
  exact hr
 ·rw [List.getElem?_set_ne hj] at e'
  have hjl : j < W.S.length := (List.getElem?_eq_some_iff.mp e').1
  exact (h.get j o' e').mv m (zO fun z => hj (h.inj i j hi hjl z.symm))
theorem Nxt.heap {G : Gx} {H : Hp} {W : Wd} {p : Addr} (h : StOk G H W) (hp : H p = none) (u : HO) : Nxt G H W (upd H p u) W := by
 have m : Mv H W (upd H p u) W := ⟨Nat.le_refl _, fun _ _ => _root_.rfl, fun b v e _ => by rw [zO (ne_of_none e hp)]; exact e⟩
 exact ⟨⟨h.inj, fun i o e => (h.get i o e).mv m (zO (h.new hp i (List.getElem?_eq_some_iff.mp e).1))⟩, Nat.le_refl _, fun _ _ => _root_.rfl, fun i h1 h2 => by omega, fun b v e _ => by rw [zO (ne_of_none e hp)]; exact e⟩
def RepS (G : Gx) (H : Hp) (W : Wd) (δ : DS) (σ : L2.St) : Prop := δ.length = σ.length ∧ ∀ (i : Nat) (d : D), δ[i]? = some (some d) → ∃ v, σ[i]? = some (some v) ∧ Rep G H W d v
theorem RepS.mv {G : Gx} {H H' : Hp} {W W' : Wd} {δ : DS} {σ : L2.St} (h : RepS G H W δ σ) (s : Mv H W H' W') : RepS G H' W' δ σ :=
 ⟨h.1, fun i d e => let ⟨v, e1, r⟩ := h.2 i d e; ⟨v, e1, r.mv s⟩⟩
theorem RepS.set {G : Gx} {H : Hp} {W : Wd} {δ : DS} {σ : L2.St} {d : D} {v : V} (i : Nat) (h : RepS G H W δ σ) (r : Rep G H W d v) : RepS G H W (δ.set i (some d)) (σ.set i (some v)) := by
 refine ⟨by simpa using h.1, fun j e hj => ?_⟩
 by_cases ij : i = j
 ·subst ij
  have hl : i < δ.length := by
   have := (List.getElem?_eq_some_iff.mp hj).1
   simpa using this
  rw [List.getElem?_set_self hl] at hj
  cases hj
  exact ⟨v, List.getElem?_set_self (h.1 ▸ hl), r⟩
 ·rw [List.getElem?_set_ne ij] at hj
  obtain ⟨u, e1, q⟩ := h.2 j e hj
  exact ⟨u, by rw [List.getElem?_set_ne ij]; exact e1, q⟩
theorem RepS.start {G : Gx} {H : Hp} {W : Wd} {ds : List D} {vs : List V} (N : List Str) (h : RepL G H W ds vs) : RepS G H W (startD N.length ds) (start N vs) := by
 have hl := h.length
 refine ⟨by simp [startD, L2.start, hl], fun i d e => ?_⟩
 unfold startD at e
 by_cases hi : i < ds.length
 ·rw [List.getElem?_append_left (by simpa using hi), List.getElem?_map] at e
  cases q : ds[i]? with
  | none => rw [q] at e; cases e
  | some d' =>
   rw [q] at e; cases e
   obtain ⟨v, e1, r⟩ := h.get q
   refine ⟨v, ?_, r⟩
   unfold L2.start
   rw [List.getElem?_append_left (by rw [List.length_map]; omega), List.getElem?_map, e1] <;> rfl
 ·rw [List.getElem?_append_right (by simpa using hi), List.getElem?_replicate] at e
  split at e <;> cases e
def After {α : Type} (G : Gx) (E : XK) (H : Hp) (W : Wd) (r : Rs α) (P : α → Hp → Wd → Prop) : Prop := match r with
 | .ok a S' => ∀ H' W', W'.S = S' → Nxt G H W H' W' → P a H' W'
 | .er c S' => ∃ C, G.mg c = some (.ref C) ∧ ∀ H' W', W'.S = S' → Nxt G H W H' W' → E (.ref C) none H'
theorem After.nxt {α : Type} {G : Gx} {E : XK} {H H1 : Hp} {W W1 : Wd} {r : Rs α} {P : α → Hp → Wd → Prop} (h : After G E H W r P) (s : Nxt G H W H1 W1) : After G E H1 W1 r P := by
 cases r with
 | ok a S' => exact fun H' W' e s' => h H' W' e (s.trans s')
 | er c S' =>
  obtain ⟨C, m, q⟩ := h
  exact ⟨C, m, fun H' W' e s' => q H' W' e (s.trans s')⟩
theorem After.now {α : Type} {G : Gx} {E : XK} {H : Hp} {W : Wd} {a : α} {P : α → Hp → Wd → Prop} (h : After G E H W (.ok a W.S) P) (s : StOk G H W) : P a H W := h H W rfl (.rfl s)
abbrev VP (G : Gx) (Q : VK) : D → Hp → Wd → Prop := fun d H' W' => ∀ v, Rep G H' W' d v → Q v H'
abbrev AV (G : Gx) (Q : List V → Hp → Prop) : List D → Hp → Wd → Prop := fun ds H' W' => ∀ vs, RepL G H' W' ds vs → Q vs H'
abbrev BV (Q : Bool → Hp → Prop) : Bool → Hp → Wd → Prop := fun b H' _ => Q b H'
def SV (G : Gx) (D : Ends) : Fl → Hp → Wd → Prop := fun f H' W' => match f with
 | .nx δ => ∀ σ, RepS G H' W' δ σ → D.nx σ H'
 | .rt d => ∀ v, Rep G H' W' d v → D.rt v H'
 | .bk δ => ∀ σ, RepS G H' W' δ σ → D.bk σ H'
 | .ct δ => ∀ σ, RepS G H' W' δ σ → D.ct σ H'
def Go {α : Type} (G : Gx) (E : XK) (g : DS → Sto → R α) (P : α → Hp → Wd → Prop) (σ : L2.St) (H : Hp) : Prop := ∃ W δ r, StOk G H W ∧ RepS G H W δ σ ∧ g δ W.S = some r ∧ After G E H W r P
def tF (G : Gx) (E : XK) (g : DE) : TE := fun σ H Q => Go G E g (VP G Q) σ H
def tFT (G : Gx) (E : XK) (g : DT) : TT := fun σ H Q => Go G E g (BV Q) σ H
def tFA (G : Gx) (E : XK) (g : DA) : TA := fun σ H Q => Go G E g (AV G Q) σ H
def tFS (G : Gx) (E : XK) (g : DSt) : TS := fun D σ H => Go G E g (SV G D) σ H
def tFG (G : Gx) (E : XK) (g : DG) : TG := fun v σ H Q => ∃ W δ d r, StOk G H W ∧ RepS G H W δ σ ∧ Rep G H W d v ∧ g d δ W.S = some r ∧ After G E H W r (fun δ' H' W' => ∀ σ', RepS G H' W' δ' σ' → Q σ' H')
abbrev gx (X : Cx) : Gx := ⟨X.K, X.mg⟩
@[irreducible] def PDE (X : Cx) (E : XK) (e : Expr) (g : DE) : Prop := PE X e (tF (gx X) E g)
@[irreducible] def PDT (X : Cx) (E : XK) (e : Expr) (g : DT) : Prop := PT X e (tFT (gx X) E g)
@[irreducible] def PDW (X : Cx) (E : XK) (e : Expr) (g : DT) : Prop := PW X e (tFT (gx X) E g)
@[irreducible] def PDA (X : Cx) (E : XK) (es : List Expr) (g : DA) : Prop := PA X es (tFA (gx X) E g)
@[irreducible] def PDS (X : Cx) (E : XK) (st : Stmt) (g : DSt) : Prop := PS X st (tFS (gx X) E g)
@[irreducible] def PDSs (X : Cx) (E : XK) (sts : List Stmt) (g : DSt) : Prop := PSs X sts (tFS (gx X) E g)
@[irreducible] def PDG (X : Cx) (E : XK) (tg : Expr) (g : DG) : Prop := PG X tg (tFG (gx X) E g)
theorem PDA.o {X : Cx} {E : XK} {es : List Expr} {g : DA} (h : PDA X E es g) : PA X es (tFA (gx X) E g) := by
 unfold PDA at h
 exact h
theorem PDE.o {X : Cx} {E : XK} {e : Expr} {g : DE} (h : PDE X E e g) : PE X e (tF (gx X) E g) := by
 unfold PDE at h
 exact h
theorem PE.imp {X : Cx} {e : Expr} {t t' : TE} (h : PE X e t) (hi : ∀ σ H Q, t' σ H Q → t σ H Q) : PE X e t' := fun pins s σ H Q I q => h pins s σ H Q I (hi σ H Q q)
theorem PT.imp {X : Cx} {e : Expr} {t t' : TT} (h : PT X e t) (hi : ∀ σ H Q, t' σ H Q → t σ H Q) : PT X e t' := fun pins s σ H Q I q => h pins s σ H Q I (hi σ H Q q)
theorem PW.imp {X : Cx} {e : Expr} {t t' : TT} (h : PW X e t) (hi : ∀ σ H Q, t' σ H Q → t σ H Q) : PW X e t' := fun wh pins s σ H Q I q => h wh pins s σ H Q I (hi σ H Q q)
theorem PA.imp {X : Cx} {es : List Expr} {t t' : TA} (h : PA X es t) (hi : ∀ σ H Q, t' σ H Q → t σ H Q) : PA X es t' := fun p pins s σ H Q I q => h p pins s σ H Q I (hi σ H Q q)
theorem PS.imp {X : Cx} {st : Stmt} {t t' : TS} (h : PS X st t) (hi : ∀ D σ H, t' D σ H → t D σ H) : PS X st t' := fun pins s σ H D I q => h pins s σ H D I (hi D σ H q)
theorem PSs.imp {X : Cx} {st : List Stmt} {t t' : TS} (h : PSs X st t) (hi : ∀ D σ H, t' D σ H → t D σ H) : PSs X st t' := fun pins s σ H D I q => h pins s σ H D I (hi D σ H q)
section
variable {G : Gx} {E : XK} {σ : L2.St} {H : Hp} {δ : DS} {W : Wd}
theorem Go.thn {α β : Type} {ga : DS → Sto → R α} {k : α → Sto → R β} {r : Rs β} {P : β → Hp → Wd → Prop} {P1 : α → Hp → Wd → Prop} (hS : StOk G H W) (hδ : RepS G H W δ σ) (h : bnd (ga δ W.S) k = some r) (hA : After G E H W r P)
  (next : ∀ a H1 W1, Nxt G H W H1 W1 → RepS G H1 W1 δ σ → k a W1.S = some r → After G E H1 W1 r P → P1 a H1 W1) : Go G E ga P1 σ H := by
 rcases bnd_some h with ⟨a, S, e, q⟩ | ⟨c, S, e, q⟩
 ·exact ⟨W, δ, .ok a S, hS, hδ, e, fun H1 W1 e1 s => next a H1 W1 s (hδ.mv (s.mv hS)) (by rw [e1]; exact q) (hA.nxt s)⟩
 ·subst q
  exact ⟨W, δ, .er c S, hS, hδ, e, hA⟩
end
section
variable {X : Cx} {E : XK} {a b c e : Expr} {pos : Pos} {ga gb : DE}
theorem zA (i : Nat) {x : Str} (hN : X.N[i]? = some x := by rfl) (hv : Vis X.env.scope x := by first | exact Or.inl rfl | exact Or.inr (Or.inl rfl) | exact Or.inr (Or.inr rfl)) (hd : (x == ("__debug__" : Str)) = false := by decide +kernel)
  (hcd : (x == ("__classdict__" : Str)) = false := by decide +kernel) : PDE X E (.Name x pos) (vr i) := by
 try unfold PDE at *
 refine PE.imp (pe_var hN hv hd hcd) fun σ H Q ⟨W, δ, r, hS, hδ, hg, hA⟩ => ?_
 unfold vr at hg
 cases q : δ[i]? with
 | none => rw [q] at hg; cases hg
 | some o =>
  cases o with
  | none => rw [q] at hg; cases hg
  | some d =>
   rw [q] at hg
   obtain rfl : Rs.ok d W.S = r := Option.some.inj hg
   obtain ⟨v, e1, rv⟩ := hδ.2 i d q
   exact ⟨v, e1, hA.now hS v rv⟩
theorem pd_cst {t : TE} {d : D} {v : V} (h : PE X e t) (ht : ∀ σ H Q, Q v H → t σ H Q) (hr : ∀ H W, Rep (gx X) H W d v) : PDE X E e (cst d) := by
 try unfold PDE at *
 refine PE.imp h fun σ H Q ⟨W, δ, r, hS, hδ, hg, hA⟩ => ?_
 obtain rfl : Rs.ok d W.S = r := Option.some.inj hg
 exact ht σ H Q (hA.now hS v (hr H W))
theorem zF {i : Int} {j} : PDE X E (.Constant (.int i) j pos) (cst (.int i)) := by
 first
 | exact (
  pd_cst pe_int (fun _ _ _ q => q) fun _ _ => rfl)
 | ((try unfold PDE at *); exact (
  pd_cst pe_int (fun _ _ _ q => q) fun _ _ => rfl))
theorem pd_bl {i : Bool} {j} : PDE X E (.Constant (.bool i) j pos) (cst (.bl i)) := by
 first
 | exact (
  pd_cst pe_bl (fun _ _ _ q => q) fun _ _ => rfl)
 | ((try unfold PDE at *); exact (
  pd_cst pe_bl (fun _ _ _ q => q) fun _ _ => rfl))
theorem pd_non {j} : PDE X E (.Constant .none j pos) (cst .non) := by
 first
 | exact (
  pd_cst pe_non (fun _ _ _ q => q) fun _ _ => rfl)
 | ((try unfold PDE at *); exact (
  pd_cst pe_non (fun _ _ _ q => q) fun _ _ => rfl))
theorem pd_str {x : Str} {j} : PDE X E (.Constant (.str x) j pos) (cst (.str x)) := by
 first
 | exact (
  pd_cst pe_str (fun _ _ _ q => q) fun _ _ => rfl)
 | ((try unfold PDE at *); exact (
  pd_cst pe_str (fun _ _ _ q => q) fun _ _ => rfl))
theorem pd_glob {x : Str} {u : Value} {v : V} {d : D} (hg : Gl X x) (hm : X.mg x = some u) (r : RelV v u) (hr : ∀ H W, Rep (gx X) H W d v) (hd : (x == ("__debug__" : Str)) = false := by decide +kernel) : PDE X E (.Name x pos) (cst d) := by
 first
 | exact (
  pd_cst (pe_glob hg hm r hd) (fun _ _ _ q => q) hr)
 | ((try unfold PDE at *); exact (
  pd_cst (pe_glob hg hm r hd) (fun _ _ _ q => q) hr))
def CstAt (K : PySem.W.Frag) (mg : Str → Option Value) (x : Str) (d : D) : Prop := ∃ u v, mg x = some u ∧ RelV v u ∧ ∀ H W, Rep ⟨K, mg⟩ H W d v
theorem pd_C {x : Str} {d : D} (hg : Gl X x) (h : CstAt X.K X.mg x d) (hd : (x == ("__debug__" : Str)) = false := by decide +kernel) : PDE X E (.Name x pos) (cst d) := by
 obtain ⟨u, v, hm, r, hr⟩ := h
 exact pd_glob hg hm r hr hd
def OpD (G : Gx) (r : R2) (f : D → D → Sto → R D) : Prop :=
 ∀ (E : XK) (H : Hp) (W : Wd) (x y : V) (dx dy : D) (Q : VK) (rr : Rs D), StOk G H W → Rep G H W dx x → Rep G H W dy y → f dx dy W.S = some rr → After G E H W rr (VP G Q) → r x y H Q
theorem tF_op2 {r : R2} {f : D → D → Sto → R D} (hf : OpD (gx X) r f) : ∀ σ H Q, tF (gx X) E (op2 f ga gb) σ H Q → tOp r (tF (gx X) E ga) (tF (gx X) E gb) σ H Q := by
 intro σ H Q ⟨W, δ, rr, hS, hδ, hg, hA⟩
 refine Go.thn hS hδ hg hA fun dx H1 W1 s1 hδ1 hg1 hA1 x rx => ?_
 refine Go.thn s1.ok hδ1 hg1 hA1 fun dy H2 W2 s2 hδ2 hg2 hA2 y ry => ?_
 exact hf E H2 W2 x y dx dy Q rr s2.ok (rx.mv (s2.mv s1.ok)) ry hg2 hA2
theorem pd_op {op : Operator} {r : R2} {f : D → D → Sto → R D} (ho : OpR X (binaryOp op) r) (hf : OpD (gx X) r f) (ha : PDE X E a ga) (hb : PDE X E b gb) : PDE X E (.BinOp a op b pos) (op2 f ga gb) := by
 first
 | exact (
  PE.imp (pe_op ho ha hb) (tF_op2 hf))
 | ((try unfold PDE at *); exact (
  PE.imp (pe_op ho ha hb) (tF_op2 hf)))
theorem pd_cmp {op : CmpOp} {r : R2} {f : D → D → Sto → R D} (ho : OpR X (compareOp op) r) (hf : OpD (gx X) r f) (ha : PDE X E a ga) (hb : PDE X E b gb) (hm : behindInMarks op b = false) : PDE X E (.Compare a [op] [b] pos) (op2 f ga gb) := by
 first
 | exact (
  PE.imp (pe_cmpR ho ha hb hm) (tF_op2 hf))
 | ((try unfold PDE at *); exact (
  PE.imp (pe_cmpR ho ha hb hm) (tF_op2 hf)))
theorem tB_tF {t : TE} (ht : ∀ σ H Q, tF (gx X) E ga σ H Q → t σ H Q) : ∀ σ H Q, tFT (gx X) E (tv ga) σ H Q → t σ H fun x H1 => ∃ k, x = .bl k ∧ Q k H1 := by
 intro σ H Q ⟨W, δ, rr, hS, hδ, hg, hA⟩
 refine ht σ H _ (Go.thn hS hδ hg hA fun d H1 W1 s1 hδ1 hg1 hA1 v rv => ?_)
 cases d with
 | bl k =>
  obtain rfl : Rs.ok k W1.S = rr := Option.some.inj hg1
  exact ⟨k, rv, hA1.now s1.ok⟩
 | _ => cases hg1
theorem zY {op : CmpOp} {r : R2} {f : D → D → Sto → R D} (ho : OpR X (compareOp op) r) (hf : OpD (gx X) r f) (ha : PDE X E a ga) (hb : PDE X E b gb) (hm : behindInMarks op b = false) : PDT X E (.Compare a [op] [b] pos) (tv (op2 f ga gb)) := by
 first
 | exact (
  PT.imp (pt_cmpR ho ha hb hm) (tB_tF (tF_op2 hf)))
 | ((try unfold PDE at *); (try unfold PDT at *); exact (
  PT.imp (pt_cmpR ho ha hb hm) (tB_tF (tF_op2 hf))))
theorem pt_valD (ha : PDE X E a ga) (he : ∀ whole, isTrue a X.env whole = (do let v ← whole; standAt a.pos; holding [v] (truthy v)) := by intro _; rfl) : PDT X E a (tv ga) := by
 first
 | exact (
  PT.imp (pt_val ha he) (tB_tF fun _ _ _ q => q))
 | ((try unfold PDE at *); (try unfold PDT at *); exact (
  PT.imp (pt_val ha he) (tB_tF fun _ _ _ q => q)))
def UnD (G : Gx) (r : V → Hp → VK → Prop) (f : D → Sto → R D) : Prop :=
 ∀ (E : XK) (H : Hp) (W : Wd) (x : V) (dx : D) (Q : VK) (rr : Rs D), StOk G H W → Rep G H W dx x → f dx W.S = some rr → After G E H W rr (VP G Q) → r x H Q
theorem pd_un {op : UnaryOp} {r : V → Hp → VK → Prop} {f : D → Sto → R D} (ho : UnR X (unaryOp op) r) (hf : UnD (gx X) r f) (ha : PDE X E a ga) : PDE X E (.UnaryOp op a pos) (op1 f ga) := by
 try unfold PDE at *
 refine PE.imp (pe_un ho ha) fun σ H Q ⟨W, δ, rr, hS, hδ, hg, hA⟩ => ?_
 exact Go.thn hS hδ hg hA fun dx H1 W1 s1 hδ1 hg1 hA1 x rx => hf E H1 W1 x dx Q rr s1.ok rx hg1 hA1
variable {ta tb : DT} {rest : List Expr}
theorem pd_and1 (ha : PDT X E a ta) : PDW X E (.BoolOp .And [a] pos) ta := by
 first
 | exact (
  pw_and1 ha)
 | ((try unfold PDT at *); (try unfold PDW at *); exact (
  pw_and1 ha))
theorem pd_or1 (ha : PDT X E a ta) : PDW X E (.BoolOp .Or [a] pos) ta := by
 first
 | exact (
  pw_or1 ha)
 | ((try unfold PDT at *); (try unfold PDW at *); exact (
  pw_or1 ha))
theorem pd_and (ha : PDT X E a ta) (hb : PDW X E (.BoolOp .And (b :: rest) pos) tb) : PDW X E (.BoolOp .And (a :: b :: rest) pos) (andT ta tb) := by
 try unfold PDT at *
 try unfold PDW at *
 refine PW.imp (pw_and ha hb) fun σ H Q ⟨W, δ, rr, hS, hδ, hg, hA⟩ => ?_
 refine Go.thn hS hδ hg hA fun c H1 W1 s1 hδ1 hg1 hA1 => ?_
 cases c with
 | true => exact ⟨W1, δ, rr, s1.ok, hδ1, hg1, hA1⟩
 | false =>
  obtain rfl : Rs.ok false W1.S = rr := Option.some.inj hg1
  exact hA1.now s1.ok
theorem pd_or (ha : PDT X E a ta) (hb : PDW X E (.BoolOp .Or (b :: rest) pos) tb) : PDW X E (.BoolOp .Or (a :: b :: rest) pos) (orT ta tb) := by
 try unfold PDT at *
 try unfold PDW at *
 refine PW.imp (pw_or ha hb) fun σ H Q ⟨W, δ, rr, hS, hδ, hg, hA⟩ => ?_
 refine Go.thn hS hδ hg hA fun c H1 W1 s1 hδ1 hg1 hA1 => ?_
 cases c with
 | true =>
  obtain rfl : Rs.ok true W1.S = rr := Option.some.inj hg1
  exact hA1.now s1.ok
 | false => exact ⟨W1, δ, rr, s1.ok, hδ1, hg1, hA1⟩
theorem pd_wt (h : PDW X E a ta) : PDT X E a ta := by
 first
 | exact (
  PW.pt h)
 | ((try unfold PDT at *); (try unfold PDW at *); exact (
  PW.pt h))
theorem pd_not (ha : PDT X E a ta) : PDT X E (.UnaryOp .Not a pos) (notT ta) := by
 try unfold PDT at *
 refine PT.imp (pt_not ha) fun σ H Q ⟨W, δ, rr, hS, hδ, hg, hA⟩ => ?_
 refine Go.thn hS hδ hg hA fun c H1 W1 s1 hδ1 hg1 hA1 => ?_
 obtain rfl : Rs.ok (!c) W1.S = rr := Option.some.inj hg1
 exact hA1.now s1.ok
theorem pd_oneV {op} (ha : PDE X E a ga) : PDE X E (.BoolOp op [a] pos) ga := by
 first
 | exact (
  pe_one ha)
 | ((try unfold PDE at *); exact (
  pe_one ha))
theorem pd_andV (ha : PDE X E a ga) (hb : PDE X E (.BoolOp .And (b :: rest) pos) gb) : PDE X E (.BoolOp .And (a :: b :: rest) pos) (andV ga gb) := by
 try unfold PDE at *
 refine PE.imp (pe_and ha hb) fun σ H Q ⟨W, δ, rr, hS, hδ, hg, hA⟩ => ?_
 refine Go.thn hS hδ hg hA fun d H1 W1 s1 hδ1 hg1 hA1 v rv => ?_
 cases d with
 | bl k =>
  refine ⟨k, rv, ?_⟩
  cases k with
  | true => exact ⟨W1, δ, rr, s1.ok, hδ1, hg1, hA1⟩
  | false =>
   obtain rfl : Rs.ok (D.bl false) W1.S = rr := Option.some.inj hg1
   exact hA1.now s1.ok _ rfl
 | _ => cases hg1
theorem pd_notV (ha : PDE X E a ga) : PDE X E (.UnaryOp .Not a pos) (notV ga) := by
 try unfold PDE at *
 refine PE.imp (pe_not ha) fun σ H Q ⟨W, δ, rr, hS, hδ, hg, hA⟩ => ?_
 refine Go.thn hS hδ hg hA fun d H1 W1 s1 hδ1 hg1 hA1 v rv => ?_
 cases d with
 | bl k =>
  refine ⟨k, rv, ?_⟩
  obtain rfl : Rs.ok (D.bl (!k)) W1.S = rr := Option.some.inj hg1
  exact hA1.now s1.ok _ rfl
 | _ => cases hg1
theorem pd_ifE (hc : PDT X E c ta) (ha : PDE X E a ga) (hb : PDE X E b gb) : PDE X E (.IfExp c a b pos) (ifE ta ga gb) := by
 try unfold PDE at *
 try unfold PDT at *
 refine PE.imp (pe_ifExp hc ha hb) fun σ H Q ⟨W, δ, rr, hS, hδ, hg, hA⟩ => ?_
 refine Go.thn hS hδ hg hA fun k H1 W1 s1 hδ1 hg1 hA1 => ?_
 cases k with
 | true => exact ⟨W1, δ, rr, s1.ok, hδ1, hg1, hA1⟩
 | false => exact ⟨W1, δ, rr, s1.ok, hδ1, hg1, hA1⟩
variable {es : List Expr} {gs : DA}
theorem zE : PDA X E [] aNil := by
 try unfold PDA at *
 refine PA.imp pa_nil fun σ H Q ⟨W, δ, rr, hS, hδ, hg, hA⟩ => ?_
 obtain rfl : Rs.ok [] W.S = rr := Option.some.inj hg
 exact hA.now hS [] rfl
theorem zB (ha : PDE X E e ga) (hr : PDA X E es gs) (hs : starEach (e :: es) X.env = (false, eval e X.env) :: starEach es X.env := by rfl) : PDA X E (e :: es) (yF ga gs) := by
 try unfold PDE at *
 try unfold PDA at *
 refine PA.imp (pa_cons ha hr hs) fun σ H Q ⟨W, δ, rr, hS, hδ, hg, hA⟩ => ?_
 refine Go.thn hS hδ hg hA fun d H1 W1 s1 hδ1 hg1 hA1 v rv => ?_
 refine Go.thn s1.ok hδ1 hg1 hA1 fun ds H2 W2 s2 hδ2 hg2 hA2 vs rvs => ?_
 obtain rfl : Rs.ok (d :: ds) W2.S = rr := Option.some.inj hg2
 exact hA2.now s2.ok _ ⟨v, vs, rfl, rv.mv (s2.mv s1.ok), rvs⟩
theorem sz {n : Nat} (h : n ≤ 1000000) : n ≤ sizeLine := Nat.le_trans h (by decide)
theorem Mv.heap {H : Hp} {W : Wd} {p : Addr} (hp : H p = none) (u : HO) : Mv H W (upd H p u) W := ⟨Nat.le_refl _, fun _ _ => rfl, fun b v e _ => by rw [zO (ne_of_none e hp)]; exact e⟩
theorem pd_tup {x1} (h : PDA X E es gs) : PDE X E (.Tuple es x1 pos) (fnE tupD gs) := by
 try unfold PDE at *
 try unfold PDA at *
 refine PE.imp (pe_tup h) fun σ H Q ⟨W, δ, rr, hS, hδ, hg, hA⟩ => ?_
 refine Go.thn hS hδ hg hA fun ds H1 W1 s1 hδ1 hg1 hA1 vs rvs => ?_
 unfold tupD at hg1
 split at hg1
 ·rename_i hl
  obtain rfl : Rs.ok (D.tup ds) W1.S = rr := Option.some.inj hg1
  refine ⟨by rw [← rvs.length]; exact sz (by omega), fun p hp => hA1 _ W1 rfl (Nxt.heap s1.ok hp _) _ ?_⟩
  exact ⟨p, vs, rfl, SqT.of zW, rvs.mv (Mv.heap hp _)⟩
 ·cases hg1
theorem new_lst {G : Gx} {H : Hp} {W : Wd} {E : XK} {rr : Rs D} {Q : VK} {ds : List D} {vs : List V} {p : Addr} (hS : StOk G H W) (hg : newO (.lst ds) W.S = some rr) (hA : After G E H W rr (VP G Q)) (rl : RepL G H W ds vs) (hp : H p = none) : Q (.ref p) (upd H p (.lst vs)) := by
 obtain rfl : Rs.ok (D.ref W.S.length) (W.S ++ [O.lst ds]) = rr := Option.some.inj hg
 refine hA _ (W.push p (.lst ds)) rfl (Nxt.alloc hS hp ⟨vs, zW, rl.mv (Mv.push (G := G) hp _ _)⟩) _ ⟨?_, ?_⟩
 ·simp [Wd.push]
 ·show V.ref p = .ref (if W.S.length = W.S.length then p else _)
  rw [if_pos rfl]
theorem pd_lst (h : PDA X E es gs) : PDE X E (.List es pos) (fnE lstD gs) := by
 try unfold PDE at *
 try unfold PDA at *
 refine PE.imp (pe_lst h) fun σ H Q ⟨W, δ, rr, hS, hδ, hg, hA⟩ => ?_
 refine Go.thn hS hδ hg hA fun ds H1 W1 s1 hδ1 hg1 hA1 vs rvs => ?_
 unfold lstD at hg1
 split at hg1
 ·rename_i hl
  exact ⟨by rw [← rvs.length]; exact sz (by omega), fun p hp => new_lst s1.ok hg1 hA1 rvs hp⟩
 ·cases hg1
def CallD (G : Gx) (r : List V → Hp → VK → Prop) (f : List D → Sto → R D) : Prop :=
 ∀ (E : XK) (H : Hp) (W : Wd) (vs : List V) (ds : List D) (Q : VK) (rr : Rs D), StOk G H W → RepL G H W ds vs → f ds W.S = some rr → After G E H W rr (VP G Q) → r vs H Q
theorem tF_call {r : List V → Hp → VK → Prop} {f : List D → Sto → R D} (hf : CallD (gx X) r f) : ∀ σ H Q, tF (gx X) E (fnE f gs) σ H Q → tCB r (tFA (gx X) E gs) σ H Q := by
 intro σ H Q ⟨W, δ, rr, hS, hδ, hg, hA⟩
 exact Go.thn hS hδ hg hA fun ds H1 W1 s1 hδ1 hg1 hA1 vs rvs => hf E H1 W1 vs ds Q rr s1.ok rvs hg1 hA1
theorem yA {x : Str} {id : String} {p : Pos} {r : List V → Hp → VK → Prop} {f : List D → Sto → R D} (hc : CallR X (.builtin id) r) (hf : CallD (gx X) r f) (hg : Gl X x) (hm : X.mg x = none) (hv : bootBuiltins x = some (.builtin id)) (ha : PDA X E (e :: es) gs) (hn : x ≠ "__name__" := by decide +kernel)
  (hdb : (x == ("__debug__" : Str)) = false := by decide +kernel) (he : starEach (e :: es) X.env = (false, eval e X.env) :: starEach es X.env := by rfl) (hpl : (backTo pos (starEach es X.env)).any (·.1) = false := by rfl) : PDE X E (.Call (.Name x p) (e :: es) [] pos) (fnE f gs) := by
 first
 | exact (
  PE.imp (pe_callB hc hg hm hv ha hn hdb he hpl) (tF_call hf))
 | ((try unfold PDE at *); (try unfold PDA at *); exact (
  PE.imp (pe_callB hc hg hm hv ha hn hdb he hpl) (tF_call hf)))
theorem pd_callTy {x : Str} {T : String} {p : Pos} {r : List V → Hp → VK → Prop} {f : List D → Sto → R D} (hc : CallR X (.type T) r) (hf : CallD (gx X) r f) (hg : Gl X x) (hm : X.mg x = none) (hv : bootBuiltins x = some (.type T)) (ha : PDA X E (e :: es) gs) (hn : x ≠ "__name__" := by decide +kernel)
  (hdb : (x == ("__debug__" : Str)) = false := by decide +kernel) (he : starEach (e :: es) X.env = (false, eval e X.env) :: starEach es X.env := by rfl) (hpl : (backTo pos (starEach es X.env)).any (·.1) = false := by rfl) : PDE X E (.Call (.Name x p) (e :: es) [] pos) (fnE f gs) := by
 first
 | exact (
  PE.imp (pe_callTy hc hg hm hv ha hn hdb he hpl) (tF_call hf))
 | ((try unfold PDE at *); (try unfold PDA at *); exact (
  PE.imp (pe_callTy hc hg hm hv ha hn hdb he hpl) (tF_call hf)))
def spF (G : Gx) (f : List D → Sto → R D) : Sp := fun vs H Q E => ∃ W ds rr, StOk G H W ∧ RepL G H W ds vs ∧ f ds W.S = some rr ∧ After G E H W rr (VP G Q)
theorem pd_call {CX : CXT} {k : Nat} {fa : Addr} {fd : FuncData} {ps : List Str} {x : Str} {p : Pos} {f : List D → Sto → R D} {dds : List D} {dvs : List V} {ds : List Value} (F : FnOk X.prog X.w X.K X.mg X.base CX k fa fd ps (spF (gx X) f)) (hr : Room k X.A) (hg : Gl X x) (hm : X.mg x = some (.ref fa)) (hk : PySem.W.keepIn X.K (.ref fa) = true)
  (hb : zV X.K fd ps ds) (hd : Vals dvs ds) (hdd : ∀ H W, RepL (gx X) H W dds dvs) (hx : Passes CX X E) (ha : PDA X E (e :: es) gs) (hdb : (x == ("__debug__" : Str)) = false := by decide +kernel) (he : starEach (e :: es) X.env = (false, eval e X.env) :: starEach es X.env := by rfl)
  (hpl : (backTo pos (starEach es X.env)).any (·.1) = false := by rfl) : PDE X E (.Call (.Name x p) (e :: es) [] pos) (fnE (fnD f dds) gs) := by
 try unfold PDE at *
 try unfold PDA at *
 refine PE.imp (pe_call F hr hg hm hk hb hd hx ha hdb he hpl) fun σ H Q ⟨W, δ, rr, hS, hδ, hg, hA⟩ => ?_
 exact Go.thn hS hδ hg hA fun as H1 W1 s1 hδ1 hg1 hA1 vs rvs => ⟨W1, as ++ dds, rr, s1.ok, rvs.append (hdd H1 W1), hg1, hA1⟩
theorem pd_fn {CX : CXT} {k : Nat} {fa : Addr} {fd : FuncData} {ps : List Str} {x : Str} {p : Pos} {f : List D → Sto → R D} (F : FnOk X.prog X.w X.K X.mg X.base CX k fa fd ps (spF (gx X) f)) (hr : Room k X.A) (hg : Gl X x) (hm : X.mg x = some (.ref fa)) (hk : PySem.W.keepIn X.K (.ref fa) = true)
  (hb : zV X.K fd ps []) (hx : Passes CX X E) (ha : PDA X E (e :: es) gs) (hdb : (x == ("__debug__" : Str)) = false := by decide +kernel) (he : starEach (e :: es) X.env = (false, eval e X.env) :: starEach es X.env := by rfl)
  (hpl : (backTo pos (starEach es X.env)).any (·.1) = false := by rfl) : PDE X E (.Call (.Name x p) (e :: es) [] pos) (fnE f gs) := by
 try unfold PDE at *
 try unfold PDA at *
 refine PE.imp (pe_call F hr hg hm hk hb .nil hx ha hdb he hpl) fun σ H Q ⟨W, δ, rr, hS, hδ, hg, hA⟩ => ?_
 exact Go.thn hS hδ hg hA fun as H1 W1 s1 hδ1 hg1 hA1 vs rvs => ⟨W1, as, rr, s1.ok, by rw [List.append_nil]; exact rvs, hg1, hA1⟩
theorem pd_ix {r : R2} {f : D → D → Sto → R D} (hr : IxR X r) (hf : OpD (gx X) r f) (ha : PDE X E a ga) (hb : PDE X E b gb) (hs : PlainIx b) : PDE X E (.Subscript a b pos) (op2 f ga gb) := by
 first
 | exact (
  PE.imp (pe_ix hr ha hb hs) (tF_op2 hf))
 | ((try unfold PDE at *); exact (
  PE.imp (pe_ix hr ha hb hs) (tF_op2 hf)))
end
section
variable {X : Cx} {E : XK} {st : Stmt} {rest : List Stmt} {e : Expr} {pos : Pos} {ge : DE} {gs gr : DSt} {t : DT}
theorem pds_nil : PDSs X E [] nxS := by
 try unfold PDSs at *
 refine PSs.imp pss_nil fun D σ H ⟨W, δ, rr, hS, hδ, hg, hA⟩ => ?_
 obtain rfl : Rs.ok (Fl.nx δ) W.S = rr := Option.some.inj hg
 exact hA.now hS σ hδ
theorem zJ (h : PDS X E st gs) : PDSs X E [st] gs := by
 first
 | exact (
  pss_one h)
 | ((try unfold PDS at *); (try unfold PDSs at *); exact (
  pss_one h))
theorem zD (h : PDS X E st gs) (hr : PDSs X E rest gr) : PDSs X E (st :: rest) (seqS gs gr) := by
 try unfold PDS at *
 try unfold PDSs at *
 refine PSs.imp (pss_cons h hr) fun D σ H ⟨W, δ, rr, hS, hδ, hg, hA⟩ => ?_
 refine Go.thn hS hδ hg hA fun f H1 W1 s1 hδ1 hg1 hA1 => ?_
 cases f with
 | nx δ' => exact fun σ' hδ' => ⟨W1, δ', rr, s1.ok, hδ', hg1, hA1⟩
 | rt d =>
  obtain rfl : Rs.ok (Fl.rt d) W1.S = rr := Option.some.inj hg1
  exact hA1.now s1.ok
 | bk δ' =>
  obtain rfl : Rs.ok (Fl.bk δ') W1.S = rr := Option.some.inj hg1
  exact hA1.now s1.ok
 | ct δ' =>
  obtain rfl : Rs.ok (Fl.ct δ') W1.S = rr := Option.some.inj hg1
  exact hA1.now s1.ok
theorem zP (he : PDE X E e ge) : PDS X E (.Return (some e) pos) (retS ge) := by
 try unfold PDE at *
 try unfold PDS at *
 refine PS.imp (ps_ret he) fun D σ H ⟨W, δ, rr, hS, hδ, hg, hA⟩ => ?_
 refine Go.thn hS hδ hg hA fun d H1 W1 s1 hδ1 hg1 hA1 v rv => ?_
 obtain rfl : Rs.ok (Fl.rt d) W1.S = rr := Option.some.inj hg1
 exact hA1.now s1.ok v rv
theorem pd_expr (he : PDE X E e ge) (hs : swapsWith e none pos.line X.env = pure false := by rfl) : PDS X E (.Expr e pos) (dropS ge) := by
 try unfold PDE at *
 try unfold PDS at *
 refine PS.imp (ps_expr he hs) fun D σ H ⟨W, δ, rr, hS, hδ, hg, hA⟩ => ?_
 refine Go.thn hS hδ hg hA fun d H1 W1 s1 hδ1 hg1 hA1 v rv => ?_
 obtain rfl : Rs.ok (Fl.nx δ) W1.S = rr := Option.some.inj hg1
 exact hA1.now s1.ok σ hδ1
theorem pd_continue : PDS X E (.Continue pos) cntS := by
 try unfold PDS at *
 refine PS.imp ps_continue fun D σ H ⟨W, δ, rr, hS, hδ, hg, hA⟩ => ?_
 obtain rfl : Rs.ok (Fl.ct δ) W.S = rr := Option.some.inj hg
 exact hA.now hS σ hδ
theorem pd_if {c : Expr} {a b : List Stmt} {gb : DSt} (hc : PDT X E c t) (ha : PDSs X E a gs) (hb : PDSs X E b gb) : PDS X E (.If c a b pos) (ifS t gs gb) := by
 try unfold PDT at *
 try unfold PDS at *
 try unfold PDSs at *
 refine PS.imp (ps_if hc ha hb) fun D σ H ⟨W, δ, rr, hS, hδ, hg, hA⟩ => ?_
 refine Go.thn hS hδ hg hA fun k H1 W1 s1 hδ1 hg1 hA1 => ?_
 cases k with
 | true => exact ⟨W1, δ, rr, s1.ok, hδ1, hg1, hA1⟩
 | false => exact ⟨W1, δ, rr, s1.ok, hδ1, hg1, hA1⟩
theorem pd_never : PDS X E st nevS := by
 first
 | exact (
  PS.imp ps_never fun D σ H ⟨W, δ, rr, hS, hδ, hg, hA⟩ => by cases hg)
 | ((try unfold PDS at *); exact (
  PS.imp ps_never fun D σ H ⟨W, δ, rr, hS, hδ, hg, hA⟩ => by cases hg))
theorem zS (i : Nat) {x : Str} {pos' : Pos} (hN : X.N.Nodup) (he : PDE X E e ge) (hi : X.N[i]? = some x := by rfl) (hx : Loc X.env.scope x := by first | exact Or.inl rfl | exact Or.inr rfl) (hs : swapsWith e (some (.Name x pos')) pos.line X.env = pure false := by rfl)
  (hf : X.fn x = true ∨ X.env.scope.names.lookup x = some .local := by first | exact .inl rfl | exact .inr rfl | assumption) : PDS X E (.Assign [.Name x pos'] e pos) (setS i ge) := by
 try unfold PDE at *
 try unfold PDS at *
 refine PS.imp (ps_set hN hi hx he hs hf) fun D σ H ⟨W, δ, rr, hS, hδ, hg, hA⟩ => ?_
 refine Go.thn hS hδ hg hA fun d H1 W1 s1 hδ1 hg1 hA1 v rv => ?_
 obtain rfl : Rs.ok (Fl.nx (δ.set i (some d))) W1.S = rr := Option.some.inj hg1
 exact hA1.now s1.ok _ (hδ1.set i rv)
theorem pd_par (i j : Nat) {x y : Str} {a b : Expr} {ga gb : DE} {px py pt : Pos} {kt k2 pt2} (hc : X.calm = true) (hN : X.N.Nodup) (ha : PDE X E a ga) (hb : PDE X E b gb) (hi : X.N[i]? = some x := by rfl) (hj : X.N[j]? = some y := by rfl) (hij : i ≠ j := by decide)
  (hx : X.env.scope.names.lookup x = some .local := by rfl) (hy : X.env.scope.names.lookup y = some .local := by rfl)
  (hst : starEach (a :: [b]) X.env = (false, eval a X.env) :: starEach [b] X.env := by rfl) (hst2 : starEach (b :: []) X.env = (false, eval b X.env) :: starEach [] X.env := by rfl)
  (hw : swappedStores [.Tuple [.Name x px, .Name y py] kt pt] (.Tuple [a, b] k2 pt2) X.env = pure (some [x, y]) := by rfl)
  (hs : swapsWithSole [.Tuple [.Name x px, .Name y py] kt pt] (.Tuple [a, b] k2 pt2) pos.line X.env = pure false := by rfl) :
  PDS X E (.Assign [.Tuple [.Name x px, .Name y py] kt pt] (.Tuple [a, b] k2 pt2) pos) (parS i j ga gb) := by
 try unfold PDE at *
 try unfold PDS at *
 refine PS.imp (ps_par hc hN hi hj hij hx hy (pa_cons ha (pa_cons hb pa_nil hst2) hst) hw hs) fun D σ H ⟨W, δ, rr, hS, hδ, hg, hA⟩ => ?_
 refine Go.thn hS hδ hg hA fun d1 H1 W1 s1 hδ1 hg1 hA1 v1 rv1 => ?_
 refine Go.thn s1.ok hδ1 hg1 hA1 fun d2 H2 W2 s2 hδ2 hg2 hA2 v2 rv2 => ?_
 obtain rfl : Rs.ok (Fl.nx ((δ.set i (some d1)).set j (some d2))) W2.S = rr := Option.some.inj hg2
 exact ⟨v1, v2, rfl, hA2.now s2.ok _ ((hδ2.set i (rv1.mv (s2.mv s1.ok))).set j rv2)⟩
theorem zL (i : Nat) {x : Str} (hN : X.N.Nodup) (hi : X.N[i]? = some x := by rfl) (hx : Loc X.env.scope x := by first | exact Or.inl rfl | exact Or.inr rfl) (hf : X.fn x = true ∨ X.env.scope.names.lookup x = some .local := by first | exact .inl rfl | exact .inr rfl | assumption) :
  PDG X E (.Name x pos) (setG i) := by
 try unfold PDG at *
 intro pins s σ H v u Q I rv h
 obtain ⟨W, δ, d, rr, hS, hδ, hd, hg, hA⟩ := h
 obtain rfl : Rs.ok (δ.set i (some d)) W.S = rr := Option.some.inj hg
 exact pg_name hN hi hx hf pins s σ H v u Q I rv (hA.now hS _ (hδ.set i hd))
def tFGs (G : Gx) (E : XK) (gs : List DG) : TGs := fun vs σ H Q => ∃ W δ ds r, StOk G H W ∧ RepS G H W δ σ ∧ RepL G H W ds vs ∧ tupGs gs ds δ W.S = some r ∧ After G E H W r (fun δ' H' W' => ∀ σ', RepS G H' W' δ' σ' → Q σ' H')
@[irreducible] def PDGs (X : Cx) (E : XK) (ts : List Expr) (gs : List DG) : Prop := PGs X ts (tFGs (gx X) E gs)
theorem pdgs_nil : PDGs X E [] [] := by
 try unfold PDGs at *
 intro pins s σ H vs us Q I rv h
 obtain ⟨W, δ, ds, rr, hS, hδ, hd, hg, hA⟩ := h
 cases ds with
 | nil =>
  obtain rfl : Rs.ok δ W.S = rr := Option.some.inj hg
  have e : vs = [] := hd
  exact pgs_nil pins s σ H vs us Q I rv ⟨e, hA.now hS σ hδ⟩
 | cons d ds => cases hg
theorem zX {tg : Expr} {ts : List Expr} {g : DG} {gs : List DG} (h : PDG X E tg g) (hr : PDGs X E ts gs) (hs : (assignEach (tg :: ts) X.env).map (·.2) = assign tg X.env :: (assignEach ts X.env).map (·.2) := by rfl) : PDGs X E (tg :: ts) (g :: gs) := by
 try unfold PDGs at *
 try unfold PDG at *
 intro pins s σ H vs us Q I rv h'
 obtain ⟨W, δ, ds, rr, hS, hδ, hd, hg, hA⟩ := h'
 cases ds with
 | nil => cases hg
 | cons d ds =>
  obtain ⟨v, r, rfl, q, tl⟩ := hd
  refine pgs_cons h hr hs pins s σ H _ us Q I rv ⟨v, r, rfl, ?_⟩
  rcases bnd_some (show bnd (g d δ W.S) (tupGs gs ds) = some rr from hg) with ⟨δ1, S1, e1, q1⟩ | ⟨c, S1, e1, q1⟩
  ·exact ⟨W, δ, d, .ok δ1 S1, hS, hδ, q, e1, fun H1 W1 e s1 σ1 hδ1 => ⟨W1, δ1, ds, rr, s1.ok, hδ1, tl.mv (s1.mv hS), by rw [e]; exact q1, hA.nxt s1⟩⟩
  ·subst q1
   exact ⟨W, δ, d, .er c S1, hS, hδ, q, e1, hA⟩
theorem pdg_tup {ts : List Expr} {k : Nat} {gs : List DG} (hc : X.calm = true) (h : PDGs X E ts gs) (hn : (assignEach ts X.env).length = gs.length := by rfl) (hst : (assignEach ts X.env).findIdx? (·.1) = none := by rfl) : PDG X E (.Tuple ts k pos) (tupG gs) := by
 try unfold PDGs at *
 try unfold PDG at *
 intro pins s σ H v u Q I rv h'
 obtain ⟨W, δ, d, rr, hS, hδ, hd, hg, hA⟩ := h'
 cases d with
 | tup ds =>
  obtain ⟨a, xs, e, q, r⟩ := hd
  have hg' : (if ds.length = gs.length then tupGs gs ds δ W.S else none) = some rr := hg
  split at hg'
  ·rename_i l
   exact pg_tup (n := gs.length) hc h hn hst pins s σ H v u Q I rv ⟨a, xs, e, q, by rw [← r.length]; exact l, W, δ, ds, rr, hS, hδ, r, hg', hA⟩
  ·cases hg'
 | _ => cases hg
theorem pd_asg {tg : Expr} {g : DG} (he : PDE X E e ge) (hg : PDG X E tg g) (hs : swapsWithSole [tg] e pos.line X.env = pure false := by rfl) (hw : swappedStores [tg] e X.env = pure none := by rfl)
  (h1 : (assignEach [tg] X.env).map (·.2) = [assign tg X.env] := by rfl) : PDS X E (.Assign [tg] e pos) (asgS ge g) := by
 try unfold PDE at *
 try unfold PDS at *
 try unfold PDG at *
 refine PS.imp (ps_asg he hg hs hw h1) fun D σ H ⟨W, δ, rr, hS, hδ, hg, hA⟩ => ?_
 refine Go.thn hS hδ hg hA fun d H1 W1 s1 hδ1 hg1 hA1 v rv => ?_
 rcases bnd_some (show bnd (g d δ W1.S) nxS = some rr from hg1) with ⟨δ', S', e1, q⟩ | ⟨c, S', e1, q⟩
 ·obtain rfl : Rs.ok (Fl.nx δ') S' = rr := Option.some.inj q
  exact ⟨W1, δ, d, .ok δ' S', s1.ok, hδ1, rv, e1, fun H2 W2 e s2 σ2 hδ2 => hA1 H2 W2 e s2 σ2 hδ2⟩
 ·subst q
  exact ⟨W1, δ, d, .er c S', s1.ok, hδ1, rv, e1, hA1⟩
theorem pd_while {c : Expr} {body : List Stmt} (hp : PassesOwn (model X.prog X.w) X.A X.env X.xe) (hc : PDT X E c t) (hb : PDSs X E body gs) : PDS X E (.While c body [] pos) (whileS t gs) := by
 try unfold PDT at *
 try unfold PDS at *
 try unfold PDSs at *
 refine PS.imp (ps_while hp hc hb) fun D σ H ⟨W, δ, rr, hS, hδ, hg, hA⟩ => ?_
 obtain ⟨n, hg⟩ := whileS_some hg
 refine ⟨fun m σ1 H1 => ∃ W1 δ1, StOk (gx X) H1 W1 ∧ RepS (gx X) H1 W1 δ1 σ1 ∧ whileD t gs m δ1 W1.S = some rr ∧ After (gx X) E H1 W1 rr (SV (gx X) D), ⟨n, W, δ, hS, hδ, hg, hA⟩, ?_⟩
 rintro m σ1 H1 ⟨W1, δ1, hS1, hδ1, hg1, hA1⟩
 cases m with
 | zero => cases hg1
 | succ m =>
  refine Go.thn hS1 hδ1 hg1 hA1 fun k H2 W2 s2 hδ2 hg2 hA2 => ?_
  cases k with
  | false =>
   obtain rfl : Rs.ok (Fl.nx δ1) W2.S = rr := Option.some.inj hg2
   exact hA2.now s2.ok σ1 hδ2
  | true =>
   refine ⟨fun σ3 H3 => ∃ W3 δ3, StOk (gx X) H3 W3 ∧ RepS (gx X) H3 W3 δ3 σ3 ∧ whileD t gs m δ3 W3.S = some rr ∧ After (gx X) E H3 W3 rr (SV (gx X) D), fun σ3 H3 h3 => ⟨m, Nat.lt_succ_self m, h3⟩, ?_⟩
   refine Go.thn s2.ok hδ2 hg2 hA2 fun f H3 W3 s3 hδ3 q hA3 => ?_
   cases f with
   | nx δ3 => exact fun σ3 h3 => ⟨W3, δ3, s3.ok, h3, q, hA3⟩
   | ct δ3 => exact fun σ3 h3 => ⟨W3, δ3, s3.ok, h3, q, hA3⟩
   | bk δ3 =>
    obtain rfl : Rs.ok (Fl.nx δ3) W3.S = rr := Option.some.inj q
    exact fun σ3 h3 => hA3.now s3.ok σ3 h3
   | rt d =>
    obtain rfl : Rs.ok (Fl.rt d) W3.S = rr := Option.some.inj q
    exact fun v rv => hA3.now s3.ok v rv
def Walks (G : Gx) (J : It) (H : Hp) (W : Wd) (src : Src) : Prop :=
 ∀ (i : Nat) (H1 : Hp) (W1 : Wd), Nxt G H W H1 W1 → (src.get W1.S i = some none → J.stop i H1) ∧ ∀ d, src.get W1.S i = some (some d) → J.go i H1 ∧ ∀ x H2, J.yld i H1 x H2 → ∃ W2, W2.S = W1.S ∧ Nxt G H1 W1 H2 W2 ∧ Rep G H2 W2 d x
def tFI (G : Gx) (E : XK) (g : DI) : TI := fun σ H R => Go G E g (fun src H' W' => ∀ J, Walks G J H' W' src → R J H') σ H
@[irreducible] def PDI (X : Cx) (E : XK) (tg iter : Expr) (g : DI) : Prop := PI X tg iter (tFI (gx X) E g)
theorem forD_cases {src : Src} {g : DG} {b : DSt} {n i : Nat} {δ : DS} {S : Sto} {r : Rs Fl} (h : forD src g b n i δ S = some r) :
  (src.get S i = some none ∧ r = .ok (.nx δ) S) ∨ ∃ x m, n = m + 1 ∧ src.get S i = some (some x) ∧ bnd (g x δ S) (turnK b (forD src g b m (i + 1))) = some r := by
 cases n with
 | zero =>
  unfold forD at h
  split at h
  ·rename_i e
   exact .inl ⟨e, (Option.some.inj h).symm⟩
  ·cases h
 | succ n =>
  unfold forD at h
  split at h
  ·rename_i e
   exact .inl ⟨e, (Option.some.inj h).symm⟩
  ·rename_i x e
   exact .inr ⟨x, n, rfl, e, h⟩
  ·cases h
theorem pd_for {tg iter : Expr} {body : List Stmt} {gi : DI} {g : DG} (hp : PassesOwn (model X.prog X.w) X.A X.env X.xe) (hc : X.calm = true) (hi : PDI X E tg iter gi) (hg : PDG X E tg g) (hb : PDSs X E body gs)
  (hs : ∀ x, foldedSetIterable iter X.env x = pure x := by intro _; rfl) : PDS X E (.For tg iter body [] pos) (forS gi g gs) := by
 try unfold PDS at *
 try unfold PDSs at *
 try unfold PDG at *
 try unfold PDI at *
 refine PS.imp (ps_for hp hc hi hg hb hs) fun D σ H ⟨W, δ, rr, hS, hδ, hg, hA⟩ => ?_
 refine Go.thn hS hδ hg hA fun src H1 W1 s1 hδ1 q hA1 J hJ => ?_
 refine ⟨fun i m σ2 H2 => ∃ W2, Nxt (gx X) H1 W1 H2 W2 ∧ ∃ δ2, RepS (gx X) H2 W2 δ2 σ2 ∧ forD src g gs m i δ2 W2.S = some rr ∧ After (gx X) E H2 W2 rr (SV (gx X) D), ⟨src.len W1.S, W1, .rfl s1.ok, δ, hδ1, q, hA1⟩, ?_⟩
 rintro i m σ2 H2 ⟨W2, s2, δ2, hδ2, hg2, hA2⟩
 obtain ⟨w1, w2⟩ := hJ i H2 W2 s2
 rcases forD_cases hg2 with ⟨e, rfl⟩ | ⟨d, m, rfl, e, hg2⟩
 ·exact .inl ⟨w1 e, hA2.now s2.ok σ2 hδ2⟩
 ·obtain ⟨wg, wy⟩ := w2 d e
  refine .inr ⟨wg, fun σ' H' => ∃ W', Nxt (gx X) H1 W1 H' W' ∧ ∃ δ', RepS (gx X) H' W' δ' σ' ∧ forD src g gs m (i + 1) δ' W'.S = some rr ∧ After (gx X) E H' W' rr (SV (gx X) D), fun σ' H' h' => ⟨m, Nat.lt_succ_self m, h'⟩, fun x H3 y => ?_⟩
  obtain ⟨W3, e3, s3, rx⟩ := wy x H3 y
  rcases bnd_some hg2 with ⟨δ4, S4, e4, q4⟩ | ⟨c, S4, e4, q4⟩
  ·refine ⟨W3, δ2, d, .ok δ4 S4, s3.ok, hδ2.mv (s3.mv s2.ok), rx, by rw [e3]; exact e4, fun H4 W4 eS4 s4 σ4 hδ4 => ?_⟩
   refine Go.thn s4.ok hδ4 (by rw [eS4]; exact q4) ((hA2.nxt s3).nxt s4) fun f H5 W5 s5 hδ5 q5 hA5 => ?_
   have s15 := (s2.trans s3).trans (s4.trans s5)
   cases f with
   | nx δ5 => exact fun σ5 h5 => ⟨W5, s15, δ5, h5, q5, hA5⟩
   | ct δ5 => exact fun σ5 h5 => ⟨W5, s15, δ5, h5, q5, hA5⟩
   | bk δ5 =>
    obtain rfl : Rs.ok (Fl.nx δ5) W5.S = rr := Option.some.inj q5
    exact fun σ5 h5 => hA5.now s5.ok σ5 h5
   | rt d =>
    obtain rfl : Rs.ok (Fl.rt d) W5.S = rr := Option.some.inj q5
    exact fun v rv => hA5.now s5.ok v rv
  ·subst q4
   exact ⟨W3, δ2, d, .er c S4, s3.ok, hδ2.mv (s3.mv s2.ok), rx, by rw [e3]; exact e4, hA2.nxt s3⟩
theorem Src.one_some {a : Nat} {S : Sto} {i : Nat} {o : Option D} (h : (Src.one a).get S i = some o) : ∃ ds, zH S a = some ds ∧ ds[i]? = o := by
 have h' : (match zH S a with | some xs => some xs[i]? | none => none) = some o := h
 cases q : zH S a with
 | none => rw [q] at h'; cases h'
 | some ds => rw [q] at h'; exact ⟨ds, rfl, Option.some.inj h'⟩
theorem walks_list {G : Gx} {H : Hp} {W : Wd} {a : Nat} (ha : a < W.S.length) : Walks G (Itl G.K (W.μ a)) H W (.one a) := fun i H1 W1 s1 => by
 refine ⟨fun h => ?_, fun d hd => ?_⟩
 ·obtain ⟨ds, e, hn⟩ := Src.one_some h
  obtain ⟨xs, ex, q, rl⟩ := s1.ok.lst (v := .ref (W1.μ a)) ⟨Nat.lt_of_lt_of_le ha s1.len, rfl⟩ e
  rw [s1.old a ha] at q
  exact ⟨xs, .inl (.inl q), by rw [← rl.length]; exact List.getElem?_eq_none_iff.mp hn⟩
 ·obtain ⟨ds, e, hn⟩ := Src.one_some hd
  obtain ⟨xs, ex, q, rl⟩ := s1.ok.lst (v := .ref (W1.μ a)) ⟨Nat.lt_of_lt_of_le ha s1.len, rfl⟩ e
  rw [s1.old a ha] at q
  obtain ⟨x, hx, rx⟩ := rl.get hn
  refine ⟨⟨xs, x, .inl (.inl q), hx⟩, fun y H3 hy => ?_⟩
  obtain ⟨e3, hy⟩ := hy
  subst e3
  have := hy xs (.inl (.inl q))
  rw [hx] at this
  cases this
  exact ⟨W1, rfl, .rfl s1.ok, rx⟩
theorem walks_scr {G : Gx} {H : Hp} {W : Wd} {a : Addr} {ds : List D} {xs : List V} (hS : StOk G H W) (q : Sc G.K H a xs) (rl : RepL G H W ds xs) : Walks G (Itl G.K a) H W (.fix ds) := fun i H1 W1 s1 => by
 have q1 : Sc G.K H1 a xs := (s1.mv hS).sc q
 have rl1 := rl.mv (s1.mv hS)
 refine ⟨fun h => ?_, fun d hd => ?_⟩
 ·have h : ds[i]? = none := Option.some.inj h
  exact ⟨xs, q1.sq, by rw [← rl.length]; exact List.getElem?_eq_none_iff.mp h⟩
 ·have hd : ds[i]? = some d := Option.some.inj hd
  obtain ⟨x, hx, rx⟩ := rl1.get hd
  refine ⟨⟨xs, x, q1.sq, hx⟩, fun y H3 hy => ?_⟩
  obtain ⟨e3, hy⟩ := hy
  subst e3
  have := hy xs q1.sq
  rw [hx] at this
  cases this
  exact ⟨W1, rfl, .rfl s1.ok, rx⟩
theorem pdi_list {tg l : Expr} {gl : DE} (hl : PDE X E l gl) : PDI X E tg l (itE itL gl) := by
 try unfold PDE at *
 try unfold PDI at *
 intro pins s σ H R I ⟨W, δ, rr, hS, hδ, hg, hA⟩
 refine pi_list hl pins s σ H R I (Go.thn hS hδ hg hA fun d H1 W1 s1 hδ1 hg1 hA1 v rv => ?_)
 cases d with
 | ref a =>
  have hg1 : (match zH W1.S a with | some _ => ok (.one a) W1.S | none => none) = some rr := hg1
  cases q : zH W1.S a with
  | none => rw [q] at hg1; cases hg1
  | some ds =>
   rw [q] at hg1
   obtain rfl : Rs.ok (Src.one a) W1.S = rr := Option.some.inj hg1
   obtain ⟨xs, ex, qx, rl⟩ := s1.ok.lst rv q
   exact ⟨W1.μ a, ex, ⟨xs, .inl (.inl qx)⟩, hA1.now s1.ok _ (walks_list rv.1)⟩
 | scr ds =>
  obtain rfl : Rs.ok (Src.fix ds) W1.S = rr := Option.some.inj hg1
  obtain ⟨a, xs, e, q, rl⟩ := rv
  exact ⟨a, e, ⟨xs, q.sq⟩, hA1.now s1.ok _ (walks_scr s1.ok q rl)⟩
 | _ => cases hg1
theorem intsD_get : ∀ (n : Nat) (lo : Int) (i : Nat) (d : D), (intsD lo n)[i]? = some d → i < n ∧ d = .int (lo + i)
 | 0, _, _, _, h => by simp [intsD] at h
 | n + 1, lo, 0, d, h => by
  simp [intsD] at h
  exact ⟨Nat.succ_pos n, by rw [← h]; simp⟩
 | n + 1, lo, i + 1, d, h => by
  simp only [intsD, List.getElem?_cons_succ] at h
  obtain ⟨h1, h2⟩ := intsD_get n (lo + 1) i d h
  refine ⟨Nat.succ_lt_succ h1, ?_⟩
  rw [h2]
  congr 1
  omega
theorem intsD_length : ∀ (n : Nat) (lo : Int), (intsD lo n).length = n
 | 0, _ => rfl
 | n + 1, lo => by simp [intsD, intsD_length n]
theorem walks_ints {G : Gx} {H : Hp} {W : Wd} (lo : Int) (n : Nat) : Walks G (Itr lo n) H W (.fix (intsD lo n)) := fun i H1 W1 s1 =>
 ⟨fun h => by
  have h : (intsD lo n)[i]? = none := Option.some.inj h
  have := List.getElem?_eq_none_iff.mp h
  rw [intsD_length] at this
  exact this, fun d hd => by
  obtain ⟨h1, h2⟩ := intsD_get n lo i d (Option.some.inj hd)
  refine ⟨h1, fun x H2 hy => ?_⟩
  obtain ⟨e, hx⟩ := hy
  subst e
  subst h2
  exact ⟨W1, rfl, .rfl s1.ok, hx⟩⟩
theorem pdi_range1 {tg a : Expr} {ga : DE} {p pos : Pos} (hg : Gl X "range") (hm : X.mg "range" = none) (ha : PDE X E a ga) (hs : starEach [a] X.env = [(false, eval a X.env)] := by rfl) (hst : starEach (a :: []) X.env = (false, eval a X.env) :: starEach [] X.env := by rfl) :
  PDI X E tg (.Call (.Name "range" p) [a] [] pos) (itA rng1D (yF ga aNil)) := by
 try unfold PDI at *
 intro pins s σ H R I ⟨W, δ, rr, hS, hδ, hg', hA⟩
 refine pi_range1 hg hm (zB ha zE hst).o hs pins s σ H R I (Go.thn hS hδ hg' hA fun ds H1 W1 s1 hδ1 hg1 hA1 vs rv => ?_)
 have hlim := lim_eq
 unfold rng1D at hg1
 split at hg1
 ·rename_i n
  split at hg1
  ·obtain ⟨v, r, e, q, t⟩ := rv
   have q : v = .int n := q
   have t : r = [] := t
   subst e q t
   obtain rfl : Rs.ok (Src.fix (intsD 0 n.toNat)) W1.S = rr := Option.some.inj hg1
   exact ⟨n, rfl, by omega, by omega, hA1.now s1.ok _ (walks_ints 0 n.toNat)⟩
  ·cases hg1
 ·cases hg1
theorem pdi_range2 {tg a b : Expr} {ga gb : DE} {p pos : Pos} (hg : Gl X "range") (hm : X.mg "range" = none) (ha : PDE X E a ga) (hb : PDE X E b gb) (hs : starEach [a, b] X.env = [(false, eval a X.env), (false, eval b X.env)] := by rfl) (hs2 : starEach [b] X.env = [(false, eval b X.env)] := by rfl)
  (hst : starEach (a :: [b]) X.env = (false, eval a X.env) :: starEach [b] X.env := by rfl) (hst2 : starEach (b :: []) X.env = (false, eval b X.env) :: starEach [] X.env := by rfl) :
  PDI X E tg (.Call (.Name "range" p) [a, b] [] pos) (itA rng2D (yF ga (yF gb aNil))) := by
 try unfold PDI at *
 intro pins s σ H R I ⟨W, δ, rr, hS, hδ, hg', hA⟩
 refine pi_range2 hg hm (zB ha (zB hb zE hst2) hst).o hs hs2 pins s σ H R I (Go.thn hS hδ hg' hA fun ds H1 W1 s1 hδ1 hg1 hA1 vs rv => ?_)
 have hlim := lim_eq
 unfold rng2D at hg1
 split at hg1
 ·rename_i i j
  split at hg1
  ·rename_i hb
   obtain ⟨v, r, e, q, t⟩ := rv
   obtain ⟨v2, r2, e2, q2, t2⟩ := t
   have q : v = .int i := q
   have q2 : v2 = .int j := q2
   have t2 : r2 = [] := t2
   subst e e2 q q2 t2
   obtain rfl : Rs.ok (Src.fix (intsD i (j - i).toNat)) W1.S = rr := Option.some.inj hg1
   exact ⟨i, j, rfl, ⟨by omega, by omega, by omega, by omega⟩, hA1.now s1.ok _ (walks_ints i _)⟩
  ·cases hg1
 ·cases hg1
end
mutual
def Bd (n : Nat) : D → Prop
 | .ref i => i < n
 | .tup ds => BdL n ds
 | .scr ds => BdL n ds
 | _ => True
def BdL (n : Nat) : List D → Prop
 | [] => True
 | d :: ds => Bd n d ∧ BdL n ds
end
mutual
def mapD (ρ : Nat → Nat) : D → D
 | .ref i => .ref (ρ i)
 | .tup ds => .tup (mapL ρ ds)
 | .scr ds => .scr (mapL ρ ds)
 | .non => .non
 | .bl b => .bl b
 | .int i => .int i
 | .str x => .str x
 | .exc c => .exc c
def mapL (ρ : Nat → Nat) : List D → List D
 | [] => []
 | d :: ds => mapD ρ d :: mapL ρ ds
end
def BdO (n : Nat) : O → Prop
 | .lst ds => BdL n ds
 | .dct kvs => kvs = []
 | .ins _ fs => BdL n (fs.map (·.2))
def mapO (ρ : Nat → Nat) : O → O
 | .lst ds => .lst (mapL ρ ds)
 | .dct kvs => .dct kvs
 | .ins c fs => .ins c (fs.map fun p => (p.1, mapD ρ p.2))
mutual
theorem Rep.bd {G : Gx} {H : Hp} {W : Wd} : ∀ {d : D} {v : V}, Rep G H W d v → Bd W.S.length d
 | .ref i, _, h => h.1
 | .tup ds, _, h => by obtain ⟨a, xs, _, _, r⟩ := h; exact RepL.bd r
 | .scr ds, _, h => by obtain ⟨a, xs, _, _, r⟩ := h; exact RepL.bd r
 | .non, _, _ => trivial
 | .bl _, _, _ => trivial
 | .int _, _, _ => trivial
 | .str _, _, _ => trivial
 | .exc _, _, _ => trivial
theorem RepL.bd {G : Gx} {H : Hp} {W : Wd} : ∀ {ds : List D} {vs : List V}, RepL G H W ds vs → BdL W.S.length ds
 | [], _, _ => trivial
 | d :: ds, _, h => by obtain ⟨v, r, _, q, t⟩ := h; exact ⟨Rep.bd q, RepL.bd t⟩
end
theorem RepO.bd {G : Gx} {H : Hp} {W : Wd} {a : Addr} {o : O} (h : RepO G H W a o) : BdO W.S.length o := by
 cases o with
 | lst ds => obtain ⟨xs, _, r⟩ := h; exact r.bd
 | dct kvs => exact h.1
 | ins c fs => obtain ⟨_, _, _, _, _, _, r⟩ := h; exact r.bd
mutual
theorem Rep.back {G : Gx} {H : Hp} {W : Wd} {S' : Sto} (ρ : Nat → Nat) : ∀ {d : D} {v : V}, Bd S'.length d → Rep G H W (mapD ρ d) v → Rep G H ⟨fun i => W.μ (ρ i), S'⟩ d v
 | .ref i, _, b, h => ⟨b, h.2⟩
 | .tup ds, _, b, h => by obtain ⟨a, xs, e, q, r⟩ := h; exact ⟨a, xs, e, q, RepL.back ρ b r⟩
 | .scr ds, _, b, h => by obtain ⟨a, xs, e, q, r⟩ := h; exact ⟨a, xs, e, q, RepL.back ρ b r⟩
 | .non, _, _, h => h
 | .bl _, _, _, h => h
 | .int _, _, _, h => h
 | .str _, _, _, h => h
 | .exc _, _, _, h => h
theorem RepL.back {G : Gx} {H : Hp} {W : Wd} {S' : Sto} (ρ : Nat → Nat) : ∀ {ds : List D} {vs : List V}, BdL S'.length ds → RepL G H W (mapL ρ ds) vs → RepL G H ⟨fun i => W.μ (ρ i), S'⟩ ds vs
 | [], _, _, h => h
 | d :: ds, _, b, h => by obtain ⟨v, r, e, q, t⟩ := h; exact ⟨v, r, e, Rep.back ρ b.1 q, RepL.back ρ b.2 t⟩
end
theorem mapL_map (ρ : Nat → Nat) : ∀ ds : List D, mapL ρ ds = ds.map (mapD ρ)
 | [] => by simp [mapL]
 | d :: ds => by simp [mapL, mapL_map ρ ds]
theorem RepO.back {G : Gx} {H : Hp} {W : Wd} {S' : Sto} {a : Addr} (ρ : Nat → Nat) {o : O} (b : BdO S'.length o) (h : RepO G H W a (mapO ρ o)) : RepO G H ⟨fun i => W.μ (ρ i), S'⟩ a o := by
 cases o with
 | lst ds => obtain ⟨xs, e, r⟩ := h; exact ⟨xs, e, r.back ρ b⟩
 | dct kvs => exact h
 | ins c fs =>
  obtain ⟨C, dx, ps, m, e, n, r⟩ := h
  refine ⟨C, dx, ps, m, e, by rw [n, List.map_map]; rfl, RepL.back ρ b ?_⟩
  rw [mapL_map]
  rw [List.map_map] at r ⊢
  exact r
structure Emb (n : Nat) (ρ : Nat → Nat) (S' S1 : Sto) : Prop where
 len : n ≤ S'.length
 fix : ∀ i, i < n → ρ i = i
 inj : ∀ i j, i < S'.length → j < S'.length → ρ i = ρ j → i = j
 get : ∀ i o, S'[i]? = some o → S1[ρ i]? = some (mapO ρ o) ∧ BdO S'.length o
def Em (n : Nat) : Rs D → Rs D → Prop
 | .ok d S', .ok d1 S1 => ∃ ρ, Emb n ρ S' S1 ∧ Bd S'.length d ∧ d1 = mapD ρ d
 | .er c S', .er c1 S1 => c1 = c ∧ ∃ ρ, Emb n ρ S' S1
 | _, _ => False
theorem Emb.nxt {G : Gx} {H H1 : Hp} {W W1 : Wd} {S' : Sto} {ρ : Nat → Nat} (e : Emb W.S.length ρ S' W1.S) (s : Nxt G H W H1 W1) : Nxt G H W H1 ⟨fun i => W1.μ (ρ i), S'⟩ := by
 have hlt : ∀ i, i < S'.length → ρ i < W1.S.length := fun i hi => by
  have := (e.get i S'[i] (by simp [hi])).1
  exact (List.getElem?_eq_some_iff.mp this).1
 refine ⟨⟨fun i j hi hj h => e.inj i j hi hj (s.ok.inj _ _ (hlt i hi) (hlt j hj) h), fun i o h => ?_⟩, e.len, fun i hi => ?_, fun i h1 h2 => ?_, s.frm⟩
 ·obtain ⟨g1, g2⟩ := e.get i o h
  exact (s.ok.get _ _ g1).back ρ g2
 ·show W1.μ (ρ i) = _
  rw [e.fix i hi]
  exact s.old i hi
 ·show H (W1.μ (ρ i)) = none
  refine s.new _ ?_ (hlt i h2)
  by_cases hz : ρ i < W.S.length
  ·have h3 := e.fix _ hz
   have := e.inj (ρ i) i (Nat.lt_of_lt_of_le hz e.len) h2 h3
   omega
  ·exact Nat.le_of_not_lt hz
def Wf (S : Sto) (ds : List D) : Prop := (∀ (i : Nat) (o : O), S[i]? = some o → BdO S.length o) ∧ BdL S.length ds
structure FunG (K : PySem.W.Frag) (x qual : Str) (st : Stmt) (f : Addr) (fd : FuncData) : Prop where
 ex : ∃ (dV oc : Value) (od : Option Addr) (kV doc pm : Value) (an : Option Addr) (cdv ct : Value) (osl : Array (Option Value)),
  fd = PySem.W.fnOf x qual (zI st) (zG st) (zC st) dV kV doc pm an cdv ct ∧ K.lookup f = some ⟨oc, od, .func fd, osl⟩ ∧ PySem.W.codeIn K cdv qual = true
theorem FunG.ok {P : Program} {w : World} {K : PySem.W.Frag} {mg : Str → Option Value} {base : Heap} {x qual : Str} {st : Stmt} {f : Addr} {fd : FuncData} {N ps : List Str} {k : Nat} {sp : Sp} (F : FunG K x qual st f fd) (S : zN N ps (zC st)) (len : ∀ vs H Q E, sp vs H Q E → vs.length = ps.length)
  (hbody : ∀ (cdv : Value) (A : Around) (outer : List Env) (s : Shared) (H : Hp) (vs : List V) (Q : VK) (E : XK), Room k (A.deeper (envOfC qual (zC st) s.heap.objs.size f cdv)) → sp vs H Q E →
   ∃ t, PSs (cxOf CX0 P w K mg base N qual (zC st) f cdv A outer s H E).nox (zG st) t ∧ t { nx := fun _ H' => Q .non H', rt := Q } (start N vs) H) : FnOk P w K mg base CX0 (k + 1) f fd ps sp := by
 obtain ⟨dV, oc, od, kV, doc, pm, an, cdv, ct, osl, rfl, lk, hcd⟩ := F.ex
 refine fn_of lk hcd S len fun A outer s H vs Q E hr hsp => ?_
 obtain ⟨t, h, q⟩ := hbody cdv A outer s H vs Q E hr hsp
 exact ⟨t, h.nox, q⟩
theorem _root_.L2.Fun.g {K : PySem.W.Frag} {x qual : Str} {st : Stmt} {f : Addr} {fd : FuncData} (F : Fun K x qual st f fd) : FunG K x qual st f fd :=
 ⟨let ⟨oc, od, kV, doc, pm, an, cdv, ct, osl, h1, h2, h3⟩ := F.ex; ⟨.none, oc, od, kV, doc, pm, an, cdv, ct, osl, h1, h2, h3⟩⟩
structure FunD (K : PySem.W.Frag) (x qual : Str) (st : Stmt) (f : Addr) (fd : FuncData) (T : Addr) (items : Array Value) : Prop where
 ex : ∃ (oc : Value) (od : Option Addr) (kV doc pm : Value) (an : Option Addr) (cdv ct : Value) (osl : Array (Option Value)),
  fd = PySem.W.fnOf x qual (zI st) (zG st) (zC st) (.ref T) kV doc pm an cdv ct ∧ K.lookup f = some ⟨oc, od, .func fd, osl⟩ ∧ PySem.W.codeIn K cdv qual = true
 tup : ∃ o n, K.lookup T = some o ∧ o.data = .seq items n
theorem FunD.g {K : PySem.W.Frag} {x qual : Str} {st : Stmt} {f : Addr} {fd : FuncData} {T : Addr} {items : Array Value} (F : FunD K x qual st f fd T items) : FunG K x qual st f fd :=
 ⟨let ⟨oc, od, kV, doc, pm, an, cdv, ct, osl, h1, h2, h3⟩ := F.ex; ⟨.ref T, oc, od, kV, doc, pm, an, cdv, ct, osl, h1, h2, h3⟩⟩
theorem funD_mk {K : PySem.W.Frag} {x qual : Str} {st : Stmt} {f T : Addr} {oc : Value} {od an : Option Addr} {osl : Array (Option Value)} {kV doc pm cdv ct : Value} {items : Array Value} {o : Obj} {n : Nat} (l : K.lookup f = some ⟨oc, od, .func (PySem.W.fnOf x qual (zI st) (zG st) (zC st) (.ref T) kV doc pm an cdv ct), osl⟩)
  (c : PySem.W.codeIn K cdv qual = true) (lT : K.lookup T = some o) (hT : o.data = .seq items n) : FunD K x qual st f (PySem.W.fnOf x qual (zI st) (zG st) (zC st) (.ref T) kV doc pm an cdv ct) T items := ⟨⟨oc, od, kV, doc, pm, an, cdv, ct, osl, rfl, l, c⟩, ⟨o, n, lT, hT⟩⟩
theorem FunD.bindsTo {K : PySem.W.Frag} {x qual : Str} {st : Stmt} {f : Addr} {fd : FuncData} {T : Addr} {items : Array Value} (F : FunD K x qual st f fd T items) {s : Shared} {args : Args} {binds : List (Str × Value)} (KX : K.In s.heap)
  (h : ∀ (kV doc pm : Value) (an : Option Addr) (cdv ct : Value), ∃ k : Option (Array Value) → Sem (List (Str × Value)), bindArgs (PySem.W.fnOf x qual (zI st) (zG st) (zC st) (.ref T) kV doc pm an cdv ct) args = seqItems? (.ref T) >>= k ∧ k (some items) = pure binds) : BindsTo s fd args binds := by
 obtain ⟨oc, od, kV, doc, pm, an, cdv, ct, osl, rfl, lk, hcd⟩ := F.ex
 obtain ⟨o, n, lT, hT⟩ := F.tup
 obtain ⟨k, h1, h2⟩ := h kV doc pm an cdv ct
 exact BindsTo.of_defaults rfl (KX _ _ lT) hT h1 h2
theorem fn_den {P : Program} {w : World} {K : PySem.W.Frag} {mg : Str → Option Value} {base : Heap} {x qual : Str} {st : Stmt} {fa : Addr} {fd : FuncData} {N ps : List Str} {k : Nat} {f : List D → Sto → R D} {g : DSt} (F : FunG K x qual st fa fd) (S : zN N ps (zC st))
  (hlen : ∀ ds S rr, f ds S = some rr → ds.length = ps.length)
  (hg : ∀ ds S r, Wf S ds → f ds S = some r → ∃ r1, outF (g (startD N.length ds) S) = some r1 ∧ (r1 = r ∨ Em S.length r r1)) (hno : ∀ ds S c S', f ds S ≠ er c S')
  (hbody : ∀ (cdv : Value) (A : Around) (outer : List Env) (s : Shared) (H : Hp), Room k (A.deeper (envOfC qual (zC st) s.heap.objs.size fa cdv)) →
   PDSs (cxOf CX0 P w K mg base N qual (zC st) fa cdv A outer s H E0).nox E0 (zG st) g) : FnOk P w K mg base CX0 (k + 1) fa fd ps (spF ⟨K, mg⟩ f) := by
 try unfold PDSs at *
 refine F.ok S (fun vs H Q E h => ?_) (fun cdv A outer s H vs Q E hr h => ?_)
 ·obtain ⟨W, ds, rr, _, rl, e, _⟩ := h
  rw [← rl.length]
  exact hlen ds _ rr e
 ·obtain ⟨W, ds, rr, hS, rl, e, hA⟩ := h
  refine ⟨_, hbody cdv A outer s H hr, ?_⟩
  cases rr with
  | er c S' => exact absurd e (hno ds _ c S')
  | ok d S' =>
   obtain ⟨r1, q, hem⟩ := hg ds W.S _ ⟨fun i o h => (hS.get i o h).bd, rl.bd⟩ e
   have fin : ∀ d1 S1, r1 = .ok d1 S1 → ∀ H1 W1, W1.S = S1 → Nxt ⟨K, mg⟩ H W H1 W1 → ∀ v, Rep ⟨K, mg⟩ H1 W1 d1 v → Q v H1 := by
    intro d1 S1 e1 H1 W1 eS s1 v rv
    subst e1
    rcases hem with hem | hem
    ·cases hem
     exact hA H1 W1 eS s1 v rv
    ·obtain ⟨ρ, em, bd, rfl⟩ := hem
     subst eS
     exact hA H1 ⟨fun i => W1.μ (ρ i), S'⟩ rfl (em.nxt s1) v (rv.back ρ bd)
   cases z : g (startD N.length ds) W.S with
   | none => rw [z] at q; cases q
   | some r =>
    refine ⟨W, startD N.length ds, r, hS, RepS.start N rl, z, ?_⟩
    rw [z] at q
    cases r with
    | er c S1 =>
     cases q
     rcases hem with hem | hem
     ·cases hem
     ·exact hem.elim
    | ok fl S1 =>
     cases fl with
     | nx δ =>
      obtain rfl : Rs.ok D.non S1 = r1 := Option.some.inj q
      exact fun H1 W1 eS s1 σ1 hδ1 => fin _ _ rfl H1 W1 eS s1 .non rfl
     | rt d' =>
      obtain rfl : Rs.ok d' S1 = r1 := Option.some.inj q
      exact fun H1 W1 eS s1 v rv => fin _ _ rfl H1 W1 eS s1 v rv
     | bk δ => cases q
     | ct δ => cases q
theorem noer_some {α : Type} {m : R α} {r : Rs α} (h : noer m = some r) : ∃ a S, m = ok a S ∧ r = .ok a S := by
 cases m with
 | none => cases h
 | some m =>
  cases m with
  | ok a S => cases h; exact ⟨a, S, rfl, rfl⟩
  | er c S => cases h
theorem fn_F {P : Program} {w : World} {K : PySem.W.Frag} {mg : Str → Option Value} {base : Heap} {x qual : Str} {st : Stmt} {fa : Addr} {fd : FuncData} {N ps : List Str} {k : Nat} {g : DSt} (F : FunG K x qual st fa fd) (S : zN N ps (zC st))
  (hbody : ∀ (cdv : Value) (A : Around) (outer : List Env) (s : Shared) (H : Hp), Room k (A.deeper (envOfC qual (zC st) s.heap.objs.size fa cdv)) →
   PDSs (cxOf CX0 P w K mg base N qual (zC st) fa cdv A outer s H E0).nox E0 (zG st) g) : FnOk P w K mg base CX0 (k + 1) fa fd ps (spF ⟨K, mg⟩ (fnF N.length ps.length g)) := by
 refine fn_den (g := g) F S (fun ds S rr e => ?_) (fun ds S r _ e => ?_) (fun ds S c S' e => ?_) hbody
 ·unfold fnF at e
  split at e
  ·assumption
  ·cases e
 ·unfold fnF at e
  split at e
  ·obtain ⟨a, S1, e1, e2⟩ := noer_some e
   exact ⟨_, e1, .inl e2.symm⟩
  ·cases e
 ·unfold fnF at e
  split at e
  ·obtain ⟨a, S1, e1, e2⟩ := noer_some e
   cases e2
  ·cases e
theorem fn_N {P : Program} {w : World} {K : PySem.W.Frag} {mg : Str → Option Value} {base : Heap} {x qual : Str} {st : Stmt} {fa : Addr} {fd : FuncData} {N ps : List Str} {k : Nat} (n m : Nat) (g : DSt) {f : List D → Sto → R D} (hf : f = fnF n m g) (F : FunG K x qual st fa fd) (S : zN N ps (zC st)) (hn : N.length = n) (hm : ps.length = m)
  (hbody : ∀ (cdv : Value) (A : Around) (outer : List Env) (s : Shared) (H : Hp), Room k (A.deeper (envOfC qual (zC st) s.heap.objs.size fa cdv)) →
   PDSs (cxOf CX0 P w K mg base N qual (zC st) fa cdv A outer s H E0).nox E0 (zG st) g) : FnOk P w K mg base CX0 (k + 1) fa fd ps (spF ⟨K, mg⟩ f) := by
 subst hf hn hm
 exact fn_F F S hbody
end Np
end
section
namespace Np
open PySem PySem.Spec PyProof.Rows L2
section
variable {X : Cx} {E : XK} {G : Gx}
theorem opD_int {C : Int → Int → Prop} {g : Int → Int → Int} {f : D → D → Sto → R D} (hf : ∀ dx dy S rr, f dx dy S = some rr → ∃ i j, dx = .int i ∧ dy = .int j ∧ C i j ∧ rr = .ok (.int (g i j)) S) : OpD G (rI C fun i j => .int (g i j)) f := by
 intro E H W x y dx dy Q rr hS rx ry e hA
 obtain ⟨i, j, rfl, rfl, c, rfl⟩ := hf dx dy _ rr e
 exact ⟨i, j, rx, ry, c, hA.now hS _ rfl⟩
theorem opD_cmp {g : Int → Int → Bool} {f : D → D → Sto → R D} (hf : ∀ dx dy S rr, f dx dy S = some rr → ∃ i j, dx = .int i ∧ dy = .int j ∧ rr = .ok (.bl (g i j)) S) : OpD G (rI0 fun i j => .bl (g i j)) f := by
 intro E H W x y dx dy Q rr hS rx ry e hA
 obtain ⟨i, j, rfl, rfl, rfl⟩ := hf dx dy _ rr e
 exact ⟨i, j, rx, ry, hA.now hS _ rfl⟩
def rAddD : R2 := fun x y H Q => rI0 (fun i j => .int (i + j)) x y H Q ∨ (∃ i j, x = .str i ∧ y = .str j ∧ i.length + j.length ≤ sizeLine ∧ Q (.str (i ++ j)) H) ∨ rCat x y H Q
theorem op_addX : OpR X (binaryOp .Add) rAddD := OpR.or op_add (OpR.or op_add_str op_cat)
theorem od_add : OpD G rAddD addD := by
 intro E H W x y dx dy Q rr hS rx ry e hA
 unfold addD at e
 split at e
 ·rename_i i j
  obtain rfl : Rs.ok (D.int (i + j)) W.S = rr := Option.some.inj e
  exact .inl ⟨i, j, rx, ry, hA.now hS _ rfl⟩
 ·rename_i i j
  split at e
  ·rename_i hl
   obtain rfl : Rs.ok (D.str (i ++ j)) W.S = rr := Option.some.inj e
   exact .inr (.inl ⟨i, j, rx, ry, sz hl, hA.now hS _ rfl⟩)
  ·cases e
 ·rename_i a b
  unfold catD at e
  split at e
  ·rename_i xs ys hx hy
   split at e
   ·rename_i hl
    obtain ⟨us, ea, qa, ra⟩ := hS.lst rx hx
    obtain ⟨ws, eb, qb, rb⟩ := hS.lst ry hy
    exact .inr (.inr ⟨_, _, us, ws, ea, eb, .inl qa, .inl qb, by rw [← ra.length, ← rb.length]; exact sz hl, fun p hp => new_lst hS e hA (ra.append rb) hp⟩)
   ·cases e
  ·cases e
 ·cases e
theorem od_sub : OpD G (rI0 fun i j => .int (i - j)) subD := by
 intro E H W x y dx dy Q rr hS rx ry e hA
 unfold subD at e
 split at e
 ·rename_i i j
  obtain rfl : Rs.ok (D.int (i - j)) W.S = rr := Option.some.inj e
  exact ⟨i, j, rx, ry, hA.now hS _ rfl⟩
 ·cases e
def CBits (i j : Int) : Prop := i.natAbs.log2 + j.natAbs.log2 ≤ 100000000
theorem CBits.ok {i j : Int} (h : CBits i j) : IntMulOk i j := by
 have hb : ∀ k : Int, Builtin.Int.intBits k ≤ k.natAbs.log2 + 1 := fun k => by
  unfold Builtin.Int.intBits
  split <;> omega
 refine PyProof.Rows.mulOk_of_bits (m := i.natAbs.log2 + 1) (n := j.natAbs.log2 + 1) (hb i) (hb j) ?_
 have h' : i.natAbs.log2 + j.natAbs.log2 ≤ 100000000 := h
 omega
theorem op_mulB : OpR X (binaryOp .Mult) (rI CBits fun i j => .int (i * j)) := opI fun _ _ _ _ _ _ _ hc q => mul_int q hc.ok
def rMulD : R2 := fun x y H Q => rI CBits (fun i j => .int (i * j)) x y H Q ∨ rRep x y H Q
theorem op_mulX : OpR X (binaryOp .Mult) rMulD := OpR.or op_mulB op_rep
theorem RepL.rep {H : Hp} {W : Wd} {ds : List D} {vs : List V} (h : RepL G H W ds vs) : ∀ k : Nat, RepL G H W (List.replicate k ds).flatten (List.replicate k vs).flatten
 | 0 => rfl
 | k + 1 => by
  rw [List.replicate_succ, List.replicate_succ, List.flatten_cons, List.flatten_cons]
  exact h.append (RepL.rep h k)
theorem od_mul : OpD G rMulD mulD := by
 intro E H W x y dx dy Q rr hS rx ry e hA
 unfold mulD at e
 split at e
 ·rename_i i j
  split at e
  ·rename_i hl
   obtain rfl : Rs.ok (D.int (i * j)) W.S = rr := Option.some.inj e
   exact .inl ⟨i, j, rx, ry, hl, hA.now hS _ rfl⟩
  ·cases e
 ·rename_i a k
  unfold repD at e
  split at e
  ·rename_i xs hx
   split at e
   ·rename_i hl
    obtain ⟨hl, h1, h2⟩ := hl
    obtain ⟨us, ea, qa, ra⟩ := hS.lst rx hx
    exact .inr ⟨_, k, us, ea, ry, .inl qa, by omega, by omega, by rw [← ra.length]; exact sz hl, fun p hp => new_lst hS e hA (ra.rep k.toNat) hp⟩
   ·cases e
  ·cases e
 ·cases e
theorem room_pylong {k : Nat} {pins : List (Addr × Obj)} {σ : L2.St} {H : Hp} {s : Shared} (I : Inv X pins σ H s) (hr : Room k X.A) (ht : X.prog.given.tree = none) (hst : X.stack = X.env :: X.outer) (hgen : X.env.scope.isGenerator = false) (hco : X.env.scope.isCoroutine = false) :
  PySem.PylongRoom (model X.prog X.w) X.A s := by
 refine PySem.PylongRoom.of (I.mod.nolimit.keeps I.bk) ?_ (PySem.SeerAt.of (I.mod.seer.keeps I.bk) ht (by rw [I.ok.frames, hst]) hgen hco I.ok.blt I.ok.glob)
 have := hr.dp
 show X.A.depth + 100 < recursionLimit
 omega
theorem op_fdivX {k : Nat} (hr : Room k X.A) (ht : X.prog.given.tree = none) (hst : X.stack = X.env :: X.outer) (hgen : X.env.scope.isGenerator = false) (hco : X.env.scope.isCoroutine = false) : OpR X (binaryOp .FloorDiv) (rI (fun _ j => j ≠ 0) fun i j => .int (i.fdiv j)) := by
 intro pins s σ H x y v u Q I rx ry h
 obtain ⟨i, j, rfl, rfl, hc, q⟩ := h
 obtain ⟨t, rfl⟩ := rx
 obtain ⟨t', rfl⟩ := ry
 exact floordiv_int hc ⟨.int _, H, I.tok _, ⟨_, rfl⟩, q⟩ (.inr (room_pylong I hr ht hst hgen hco))
theorem od_fdiv : OpD G (rI (fun _ j => j ≠ 0) fun i j => .int (i.fdiv j)) fdivD := opD_int fun dx dy S rr e => by
 unfold fdivD at e
 split at e
 ·rename_i i j
  split at e
  ·cases e
  ·rename_i h
   exact ⟨i, j, rfl, rfl, h, (Option.some.inj e).symm⟩
 ·cases e
theorem od_mod : OpD G (rI (fun _ j => j ≠ 0) fun i j => .int (i.fmod j)) modD := opD_int fun dx dy S rr e => by
 unfold modD at e
 split at e
 ·rename_i i j
  split at e
  ·cases e
  ·rename_i h
   exact ⟨i, j, rfl, rfl, h, (Option.some.inj e).symm⟩
 ·cases e
theorem od_pow : OpD G (rI CPow fun i j => .int (i ^ j.toNat)) powD := opD_int fun dx dy S rr e => by
 unfold powD at e
 split at e
 ·rename_i i j
  split at e
  ·rename_i h
   exact ⟨i, j, rfl, rfl, ⟨h.1.1, by omega, by omega⟩, (Option.some.inj e).symm⟩
  ·cases e
 ·cases e
theorem ud_neg : UnD G (rU fun i => .int (-i)) negD := by
 intro E H W x dx Q rr hS rx e hA
 unfold negD at e
 split at e
 ·rename_i i
  obtain rfl : Rs.ok (D.int (-i)) W.S = rr := Option.some.inj e
  exact ⟨i, rx, hA.now hS _ rfl⟩
 ·cases e
theorem cd_abs : CallD G (fun xs H Q => ∃ i, xs = [.int i] ∧ Q (.int (if i < 0 then -i else i)) H) absD := by
 intro E H W vs ds Q rr hS rl e hA
 unfold absD at e
 split at e
 ·rename_i i
  obtain rfl : Rs.ok (D.int (if i < 0 then -i else i)) W.S = rr := Option.some.inj e
  obtain ⟨v, r, rfl, q, t⟩ := rl
  have q : v = .int i := q
  have t : r = [] := t
  subst q t
  exact ⟨i, rfl, hA.now hS _ rfl⟩
 ·cases e
mutual
def toPy : T → PyData
 | .non => .none
 | .bl b => .bool b
 | .int i => .int i
 | .str x => .str x
 | .tup ds => .tuple (toPys ds)
 | .lst ds => .list (toPys ds)
def toPys : List T → List PyData
 | [] => []
 | d :: ds => toPy d :: toPys ds
end
mutual
theorem eqT_py : ∀ (d e : T), PyData.eqv (toPy d) (toPy e) = eqT d e
 | .non, e => by cases e <;> simp [toPy, PyData.eqv, eqT]
 | .bl _, e => by cases e <;> simp [toPy, PyData.eqv, eqT]
 | .int _, e => by cases e <;> simp [toPy, PyData.eqv, eqT]
 | .str _, e => by cases e <;> simp [toPy, PyData.eqv, eqT]
 | .tup ds, e => by
  cases e with
  | tup es => simp only [toPy, PyData.eqv, eqT]; exact eqTs_py ds es
  | _ => simp [toPy, PyData.eqv, eqT]
 | .lst ds, e => by
  cases e with
  | lst es => simp only [toPy, PyData.eqv, eqT]; exact eqTs_py ds es
  | _ => simp [toPy, PyData.eqv, eqT]
theorem eqTs_py : ∀ (ds es : List T), PyData.eqvAll (toPys ds) (toPys es) = eqTs ds es
 | [], [] => by simp [toPys, PyData.eqvAll, eqTs]
 | [], _ :: _ => by simp [toPys, PyData.eqvAll, eqTs]
 | _ :: _, [] => by simp [toPys, PyData.eqvAll, eqTs]
 | d :: ds, e :: es => by simp only [toPys, PyData.eqvAll, eqTs, eqT_py d e, eqTs_py ds es]
end
def Seen (s : Shared) (n : Nat) (t : T) (u : Value) : Prop := (toPy t).canLay0 = true ∧ (toPy t).depth ≤ n ∧ ∃ as, Reads s.heap u (toPy t) as
def Seens (s : Shared) (n : Nat) (ts : List T) (us : List Value) : Prop := PyData.canLayAll0 (toPys ts) = true ∧ PyData.depthAll (toPys ts) ≤ n ∧ ∃ as, ReadsAll s.heap us (toPys ts) as
theorem seens {pins : List (Addr × Obj)} {σ : L2.St} {H : Hp} {W : Wd} {s : Shared} (I : Inv X pins σ H s) {n : Nat} {S : Sto} (ih : ∀ {d : D} {v : V} {u : Value} {t : T}, rd n S d = some t → Rep (gx X) H W d v → RelV v u → Seen s n t u) :
  ∀ {ds : List D} {vs : List V} {us : List Value} {ts : List T}, rdl (rd n S) ds = some ts → RepL (gx X) H W ds vs → Vals vs us → Seens s n ts us
 | [], _, _, _, h, r, q => by
  cases r; cases q
  obtain rfl := Option.some.inj h
  exact ⟨by simp [toPys, PyData.canLayAll0], by simp [toPys, PyData.depthAll], _, ReadsAll.nil⟩
 | d :: ds, _, _, _, h, r, q => by
  obtain ⟨v, vs, rfl, rd1, rl⟩ := r
  cases q with
  | cons q1 q2 =>
   unfold rdl at h
   split at h
   ·rename_i t ts h1 h2
    obtain rfl := Option.some.inj h
    obtain ⟨a1, a2, as, a3⟩ := ih h1 rd1 q1
    obtain ⟨b1, b2, bs, b3⟩ := seens I ih h2 rl q2
    refine ⟨?_, ?_, _, ReadsAll.cons a3 b3⟩
    ·simp only [toPys, PyData.canLayAll0, a1, b1, Bool.and_self]
    ·simp only [toPys, PyData.depthAll]
     omega
   ·cases h
theorem seen {pins : List (Addr × Obj)} {σ : L2.St} {H : Hp} {W : Wd} {s : Shared} (I : Inv X pins σ H s) (hS : StOk (gx X) H W) : ∀ {n : Nat} {d : D} {v : V} {u : Value} {t : T}, rd n W.S d = some t → Rep (gx X) H W d v → RelV v u → Seen s n t u
 | n, .non, _, _, t0, h, r, q => by
  cases r; cases q
  have h : some T.non = some t0 := by cases n <;> exact h
  obtain rfl := Option.some.inj h
  exact ⟨by simp [toPy, PyData.canLay0], by simp [toPy, PyData.depth], _, Reads.none⟩
 | n, .bl b, _, _, t0, h, r, q => by
  cases r; cases q
  have h : some (T.bl b) = some t0 := by cases n <;> exact h
  obtain rfl := Option.some.inj h
  exact ⟨by simp [toPy, PyData.canLay0], by simp [toPy, PyData.depth], _, Reads.bool b⟩
 | n, .int i, _, _, t0, h, r, q => by
  cases r
  obtain ⟨t, rfl⟩ := q
  have h : some (T.int i) = some t0 := by cases n <;> exact h
  obtain rfl := Option.some.inj h
  exact ⟨by simp [toPy, PyData.canLay0], by simp [toPy, PyData.depth], _, Reads.int i t⟩
 | n, .str i, _, _, t0, h, r, q => by
  cases r
  obtain ⟨t, rfl⟩ := q
  have h : (if i.cps.all (· < 0x110000) = true then some (T.str i) else none) = some t0 := by cases n <;> exact h
  split at h
  ·rename_i hc
   obtain rfl := Option.some.inj h
   have h' : PyData.strOk i = true := by simpa [PyData.strOk] using hc
   exact ⟨by simp [toPy, PyData.canLay0, h'], by simp [toPy, PyData.depth], _, Reads.str i t⟩
  ·cases h
 | 0, .tup _, _, _, _, h, _, _ => by cases h
 | 0, .ref _, _, _, _, h, _, _ => by cases h
 | n + 1, .tup ds, _, _, t0, h, r, q => by
  obtain ⟨a, xs, rfl, hq, rl⟩ := r
  cases q
  obtain ⟨its, rv, ⟨o, ho, hc, k, hd⟩, hz⟩ := I.tuple hq
  have h : (rdl (rd n W.S) ds).map T.tup = some t0 := h
  cases hts : rdl (rd n W.S) ds with
  | none => rw [hts] at h; cases h
  | some ts =>
   rw [hts] at h
   obtain rfl := Option.some.inj h
   obtain ⟨b1, b2, as, b3⟩ := seens I (fun h r q => seen I hS h r q) hts rl rv
   refine ⟨?_, ?_, _, reads_tuple_at ho hc hd (by simpa using b3)⟩
   ·simp only [toPy, PyData.canLay0, b1]
   ·simp only [toPy, PyData.depth]
    omega
 | n + 1, .ref i, _, _, t0, h, r, q => by
  have h : (match zH W.S i with | some ds => (rdl (rd n W.S) ds).map T.lst | none => none) = some t0 := h
  cases hl : zH W.S i with
  | none => rw [hl] at h; cases h
  | some ds =>
   rw [hl] at h
   have h : (rdl (rd n W.S) ds).map T.lst = some t0 := h
   obtain ⟨xs, ex, hq, rl⟩ := hS.lst r hl
   subst ex
   cases q
   obtain ⟨z, its, k, rv, hl', e⟩ := I.lstM hq
   cases hts : rdl (rd n W.S) ds with
   | none => rw [hts] at h; cases h
   | some ts =>
    rw [hts] at h
    obtain rfl := Option.some.inj h
    obtain ⟨b1, b2, as, b3⟩ := seens I (fun h r q => seen I hS h r q) hts rl rv
    refine ⟨?_, ?_, _, reads_list_at e rfl rfl (by simpa using b3)⟩
    ·simp only [toPy, PyData.canLay0, b1]
    ·simp only [toPy, PyData.depth]
     omega
 | n, .exc _, _, _, _, h, _, _ => by cases n <;> cases h
 | n, .scr _, _, _, _, h, _, _ => by cases n <;> cases h
theorem Seen.shaped {s : Shared} {t : T} {u : Value} (h : Seen s 9 t u) : SeqAt.shaped (toPy t) = true := by
 unfold SeqAt.shaped
 rw [h.1, Bool.true_and]
 exact decide_eq_true (by have := h.2.1; omega)
def rEqD (G : Gx) (neg : Bool) : R2 := fun x y H Q => ∃ W d e t u, StOk G H W ∧ Rep G H W d x ∧ Rep G H W e y ∧ rd 9 W.S d = some t ∧ rd 9 W.S e = some u ∧ Q (.bl (if neg = true then !eqT t u else eqT t u)) H
theorem op_eqX {k : Nat} (hr : Room k X.A) : OpR X (compareOp .Eq) (rEqD (gx X) false) := by
 intro pins s σ H x y v u Q I rx ry h
 obtain ⟨W, d, e, t, t', hS, rd1, re, pd, pe, q⟩ := h
 have sa := seen I hS pd rd1 rx
 have sb := seen I hS pe re ry
 obtain ⟨as, ra⟩ := sa.2.2
 obtain ⟨bs, rb⟩ := sb.2.2
 refine eq_dataH ra rb sa.shaped sb.shaped hr.units ?_
 rw [eqT_py]
 exact ⟨.bl _, H, I, rfl, q⟩
theorem op_neX {k : Nat} (hr : Room k X.A) : OpR X (compareOp .NotEq) (rEqD (gx X) true) := by
 intro pins s σ H x y v u Q I rx ry h
 obtain ⟨W, d, e, t, t', hS, rd1, re, pd, pe, q⟩ := h
 have sa := seen I hS pd rd1 rx
 have sb := seen I hS pe re ry
 obtain ⟨as, ra⟩ := sa.2.2
 obtain ⟨bs, rb⟩ := sb.2.2
 refine ne_dataH ra rb sa.shaped sb.shaped hr.units ?_
 rw [eqT_py]
 exact ⟨.bl _, H, I, rfl, q⟩
theorem od_eqK (neg : Bool) : OpD G (rEqD G neg) (fun x y S => eqK neg S (rd 9 S x) (rd 9 S y)) := by
 intro E H W x y dx dy Q rr hS rx ry e hA
 have e : eqK neg W.S (rd 9 W.S dx) (rd 9 W.S dy) = some rr := e
 cases h1 : rd 9 W.S dx with
 | none => rw [h1] at e; cases e
 | some t =>
  cases h2 : rd 9 W.S dy with
  | none => rw [h1, h2] at e; cases e
  | some u =>
   rw [h1, h2] at e
   obtain rfl : Rs.ok (D.bl (if neg = true then !eqT t u else eqT t u)) W.S = rr := Option.some.inj e
   exact ⟨W, dx, dy, t, u, hS, rx, ry, h1, h2, hA.now hS _ rfl⟩
theorem od_eq : OpD G (rEqD G false) eqD := od_eqK false
theorem od_ne : OpD G (rEqD G true) neD := od_eqK true
theorem od_lt : OpD G (rI0 fun i j => .bl (decide (i < j))) ltD := opD_cmp fun dx dy S rr e => by
 unfold ltD at e
 split at e
 ·exact ⟨_, _, rfl, rfl, (Option.some.inj e).symm⟩
 ·cases e
theorem od_le : OpD G (rI0 fun i j => .bl (decide (i ≤ j))) leD := opD_cmp fun dx dy S rr e => by
 unfold leD at e
 split at e
 ·exact ⟨_, _, rfl, rfl, (Option.some.inj e).symm⟩
 ·cases e
theorem od_gt : OpD G (rI0 fun i j => .bl (decide (j < i))) gtD := opD_cmp fun dx dy S rr e => by
 unfold gtD at e
 split at e
 ·exact ⟨_, _, rfl, rfl, (Option.some.inj e).symm⟩
 ·cases e
theorem od_ge : OpD G (rI0 fun i j => .bl (decide (j ≤ i))) geD := opD_cmp fun dx dy S rr e => by
 unfold geD at e
 split at e
 ·exact ⟨_, _, rfl, rfl, (Option.some.inj e).symm⟩
 ·cases e
theorem rep_non {H : Hp} {W : Wd} {d : D} {v : V} (r : Rep G H W d v) : decide (v = .non) = isNoneB d := by
 cases d with
 | non => cases r; rfl
 | bl _ => cases r; rfl
 | int _ => cases r; rfl
 | str _ => cases r; rfl
 | tup _ => obtain ⟨a, _, rfl, _⟩ := r; rfl
 | ref _ => obtain ⟨_, rfl⟩ := r; rfl
 | exc _ => obtain ⟨a, _, rfl, _⟩ := r; rfl
 | scr _ => obtain ⟨a, _, rfl, _⟩ := r; rfl
theorem od_isN : OpD G (fun x y H Q => y = .non ∧ Q (.bl (decide (x = .non))) H) isND := by
 intro E H W x y dx dy Q rr hS rx ry e hA
 unfold isND at e
 split at e
 ·obtain rfl := Option.some.inj e
  exact ⟨ry, by rw [rep_non rx]; exact hA.now hS _ rfl⟩
 ·cases e
theorem od_isNN : OpD G (fun x y H Q => y = .non ∧ Q (.bl (!decide (x = .non))) H) isNND := by
 intro E H W x y dx dy Q rr hS rx ry e hA
 unfold isNND at e
 split at e
 ·obtain rfl := Option.some.inj e
  exact ⟨ry, by rw [rep_non rx]; exact hA.now hS _ rfl⟩
 ·cases e
def rIxD (K : PySem.W.Frag) : R2 := fun x y H Q => rIxL K x y H Q ∨ rIxT K x y H Q
theorem ix_X : IxR X (rIxD X.K) := ix_list.or ix_tup
theorem ixA_at {α : Type} {xs : List α} {i : Int} : (ixA xs.length i).bind (fun j => xs[j]?) = atI xs i := by
 unfold atI ixA ixN
 rfl
theorem at_rep {H : Hp} {W : Wd} {ds : List D} {vs : List V} {i : Int} {d : D} (rl : RepL G H W ds vs) (h : (ixA ds.length i).bind (fun j => ds[j]?) = some d) : ∃ v, atI vs i = some v ∧ Rep G H W d v := by
 rw [← ixA_at]
 rw [rl.length] at h
 cases z : ixA vs.length i with
 | none => rw [z] at h; cases h
 | some j =>
  rw [z] at h
  obtain ⟨v, hv, rv⟩ := rl.get (i := j) (d := d) h
  exact ⟨v, hv, rv⟩
theorem ixK_some {o : Option (List D)} {i : Int} {S : Sto} {rr : Rs D} (h : ixK o i S = some rr) : ∃ xs d, o = some xs ∧ (ixA xs.length i).bind (fun j => xs[j]?) = some d ∧ rr = .ok d S := by
 unfold ixK at h
 split at h
 ·rename_i xs
  split at h
  ·rename_i d hd
   exact ⟨xs, d, rfl, hd, (Option.some.inj h).symm⟩
  ·cases h
 ·cases h
theorem zU : OpD G (rIxD G.K) ixD := by
 intro E H W x y dx dy Q rr hS rx ry e hA
 unfold ixD at e
 split at e
 ·rename_i xs i
  obtain ⟨xs', d, e0, hd, rfl⟩ := ixK_some e
  cases e0
  obtain ⟨a, us, ea, qa, ra⟩ := rx
  obtain ⟨v, hv, rv⟩ := at_rep ra hd
  exact .inr ⟨a, us, i, v, ea, ry, qa, hv, hA.now hS _ rv⟩
 ·rename_i a i
  obtain ⟨xs', d, e0, hd, rfl⟩ := ixK_some e
  obtain ⟨us, ea, qa, ra⟩ := hS.lst rx e0
  obtain ⟨v, hv, rv⟩ := at_rep ra hd
  exact .inl ⟨_, us, i, v, ea, ry, .inl (.inl qa), hv, hA.now hS _ rv⟩
 ·rename_i xs i
  obtain ⟨xs', d, e0, hd, rfl⟩ := ixK_some e
  cases e0
  obtain ⟨a, us, ea, qa, ra⟩ := rx
  obtain ⟨v, hv, rv⟩ := at_rep ra hd
  exact .inl ⟨a, us, i, v, ea, ry, qa.sq, hv, hA.now hS _ rv⟩
 ·cases e
def rLenD (K : PySem.W.Frag) : List V → Hp → VK → Prop := fun xs H Q => (∃ p ys, xs = [.ref p] ∧ (SqL K H p ys ∨ SqT K H p ys) ∧ Q (.int ys.length) H) ∨ ∃ z, xs = [.str z] ∧ z.length ≤ sizeLine ∧ Q (.int z.length) H
theorem call_lenX : CallR X (.builtin "len") (rLenD X.K) := CallR.or call_len_seq call_len_str
theorem cd_len : CallD G (rLenD G.K) lenD := by
 intro E H W vs ds Q rr hS rl e hA
 unfold lenD at e
 split at e
 ·rename_i xs
  obtain rfl : Rs.ok (D.int xs.length) W.S = rr := Option.some.inj e
  obtain ⟨v, r, rfl, ⟨a, us, rfl, qa, ra⟩, t⟩ := rl
  have t : r = [] := t
  subst t
  exact .inl ⟨a, us, rfl, .inl qa.sq, by rw [← ra.length]; exact hA.now hS _ rfl⟩
 ·rename_i xs
  obtain rfl : Rs.ok (D.int xs.length) W.S = rr := Option.some.inj e
  obtain ⟨v, r, rfl, ⟨a, us, rfl, qa, ra⟩, t⟩ := rl
  have t : r = [] := t
  subst t
  exact .inl ⟨a, us, rfl, .inr qa, by rw [← ra.length]; exact hA.now hS _ rfl⟩
 ·rename_i a
  unfold lenK at e
  split at e
  ·rename_i xs hx
   obtain rfl : Rs.ok (D.int xs.length) W.S = rr := Option.some.inj e
   obtain ⟨v, r, rfl, rx, t⟩ := rl
   obtain ⟨us, ea, qa, ra⟩ := hS.lst rx hx
   have t : r = [] := t
   subst t ea
   exact .inl ⟨_, us, rfl, .inl (.inl (.inl qa)), by rw [← ra.length]; exact hA.now hS _ rfl⟩
  ·cases e
 ·rename_i z
  split at e
  ·rename_i hl
   obtain rfl : Rs.ok (D.int z.length) W.S = rr := Option.some.inj e
   obtain ⟨v, r, rfl, q, t⟩ := rl
   have q : v = .str z := q
   have t : r = [] := t
   subst q t
   exact .inr ⟨z, rfl, sz hl, hA.now hS _ rfl⟩
  ·cases e
 ·cases e
def kdT : Kd → String
 | .int => "int"
 | .bool => "bool"
 | .str => "str"
 | .lst => "list"
 | .tup => "tuple"
theorem call_isi (k : Kd) : CallR X (.builtin "isinstance") (fun xs H Q => ∃ W x d b, xs = [x, .ty (kdT k)] ∧ StOk (gx X) H W ∧ Rep (gx X) H W d x ∧ isK k d W.S = some b ∧ Q (.bl b) H) := by
 intro pins s σ H xs us Q I r h
 obtain ⟨W, x, d, b, rfl, hS, rd, hb, q⟩ := h
 obtain ⟨u, w, rfl, rx, rw'⟩ := Vals.two r
 cases rw'
 have qT : ∀ tk, EP X pins σ Q (.bool b) { s with toks := tk } := fun tk => ⟨.bl b, H, I.tok tk, rfl, q⟩
 have qS : EP X pins σ Q (.bool b) s := ⟨.bl b, H, I, rfl, q⟩
 cases d with
 | non =>
  cases rd; cases rx
  cases k <;> cases hb <;> first
   | exact PySem.IsiNone.NoneType_int (qT _)
   | exact PySem.IsiNone.NoneType_bool (qT _)
   | exact PySem.IsiNone.NoneType_str (qT _)
   | exact PySem.IsiNone.NoneType_list (qT _)
   | exact PySem.IsiNone.NoneType_tuple (qT _)
   | exact PySem.IsiPair.NoneType_int (qT _)
   | exact PySem.IsiPair.NoneType_bool (qT _)
   | exact PySem.IsiPair.NoneType_str (qT _)
   | exact PySem.IsiPair.NoneType_list (qT _)
   | exact PySem.IsiPair.NoneType_tuple (qT _)
 | bl c =>
  cases rd; cases rx
  cases k <;> cases hb <;> first
   | exact PySem.IsiPair.bool_int qS
   | exact PySem.IsiPair.bool_bool qS
   | exact PySem.IsiPair.bool_str (qT _)
   | exact PySem.IsiPair.bool_list (qT _)
   | exact PySem.IsiPair.bool_tuple (qT _)
 | int i =>
  cases rd
  obtain ⟨t, rfl⟩ := rx
  cases k <;> cases hb <;> first
   | exact PySem.IsiPair.int_int qS
   | exact PySem.IsiPair.int_bool (qT _)
   | exact PySem.IsiPair.int_str (qT _)
   | exact PySem.IsiPair.int_list (qT _)
   | exact PySem.IsiPair.int_tuple (qT _)
 | str i =>
  cases rd
  obtain ⟨t, rfl⟩ := rx
  cases k <;> cases hb <;> first
   | exact PySem.IsiPair.str_int (qT _)
   | exact PySem.IsiPair.str_bool (qT _)
   | exact PySem.IsiPair.str_str qS
   | exact PySem.IsiPair.str_list (qT _)
   | exact PySem.IsiPair.str_tuple (qT _)
 | tup ds =>
  obtain ⟨a, ys, rfl, hq, rl⟩ := rd
  cases rx
  obtain ⟨its, rv, ⟨o, ho, hc, kk, hd⟩, hz⟩ := I.tuple hq
  have ty : s.TypeIs (.ref a) "tuple" := ⟨o, ho, hc⟩
  cases k <;> cases hb <;> first
   | exact call_isinstance (isinstance_true (Tx := "tuple") F.isi_meta_tuple F.sub_tuple_tuple) ⟨ty, qS⟩
   | exact call_isinstance (isinstance_true (Tx := "tuple") F.isi_meta_tuple isi_sub_tuple) ⟨ty, qS⟩
   | exact call_isinstance (isinstance_false_tuple (by decide +kernel) F.isi_meta_int F.sub_tuple_int) ⟨ty, qT _⟩
   | exact call_isinstance (isinstance_false_tuple (by decide +kernel) F.isi_meta_bool F.sub_tuple_bool) ⟨ty, qT _⟩
   | exact call_isinstance (isinstance_false_tuple (by decide +kernel) F.isi_meta_str F.sub_tuple_str) ⟨ty, qT _⟩
   | exact call_isinstance (isinstance_false_tuple (by decide +kernel) F.isi_meta_list F.sub_tuple_list) ⟨ty, qT _⟩
 | ref a =>
  have hl : ∃ ds, zH W.S a = some ds ∧ b = decide (k = .lst) := by
   unfold zH
   cases k <;> (simp only [isK] at hb; split at hb <;> first | (rename_i heq; cases hb; first | (rw [heq]; exact ⟨_, rfl, by decide⟩) | exact ⟨_, rfl, by decide⟩) | cases hb)
  obtain ⟨ds, hl, eb⟩ := hl
  obtain ⟨ys, ea, hq, rl⟩ := hS.lst rd hl
  subst ea
  cases rx
  obtain ⟨z, its, kk, rv, hl, e⟩ := I.lstM hq
  have ty : s.TypeIs (.ref (W.μ a)) "list" := ⟨_, e, rfl⟩
  subst eb
  cases k <;> first
   | exact call_isinstance (isinstance_true (Tx := "list") F.isi_meta_list F.sub_list_list) ⟨ty, qS⟩
   | exact call_isinstance (isinstance_false_list (by decide +kernel) F.isi_meta_int F.sub_list_int) ⟨ty, qT _⟩
   | exact call_isinstance (isinstance_false_list (by decide +kernel) F.isi_meta_bool F.sub_list_bool) ⟨ty, qT _⟩
   | exact call_isinstance (isinstance_false_list (by decide +kernel) F.isi_meta_str F.sub_list_str) ⟨ty, qT _⟩
   | exact call_isinstance (isinstance_false_list (by decide +kernel) F.isi_meta_tuple F.sub_list_tuple) ⟨ty, qT _⟩
 | exc c => cases k <;> cases hb
 | scr _ => cases k <;> cases hb
theorem pd_isi (k : Kd) {e : Expr} {ge : DE} {p p2 pos : Pos} {T : Str} (hT : bootBuiltins T = some (.type (kdT k))) (hg : Gl X "isinstance") (hm : X.mg "isinstance" = none) (hgT : Gl X T) (hmT : X.mg T = none) (he : PDE X E e ge)
  (hv : bootBuiltins "isinstance" = some (.builtin "isinstance") := by decide +kernel) (hnT : T ≠ "__name__" := by decide +kernel) (hdT : (T == ("__debug__" : Str)) = false := by decide +kernel)
  (hst : starEach (e :: [.Name T p2]) X.env = (false, eval e X.env) :: starEach [.Name T p2] X.env := by rfl) (hst2 : starEach (.Name T p2 :: []) X.env = (false, eval (.Name T p2) X.env) :: starEach [] X.env := by rfl)
  (hpl : (backTo pos (starEach [.Name T p2] X.env)).any (·.1) = false := by rfl) :
  PDE X E (.Call (.Name "isinstance" p) [e, .Name T p2] [] pos) (op1 (isiD k) ge) := by
 try unfold PDE at *
 refine PE.imp (pe_callB (call_isi k) hg hm hv (pa_cons he (pa_cons (pe_bltn (v := .ty (kdT k)) hgT hmT hT rfl hnT hdT) pa_nil hst2) hst) (by decide +kernel) (by decide +kernel) hst hpl) fun σ H Q ⟨W, δ, rr, hS, hδ, hg', hA⟩ => ?_
 refine Go.thn hS hδ hg' hA fun d H1 W1 s1 hδ1 hg1 hA1 v rv => ?_
 unfold isiD at hg1
 split at hg1
 ·rename_i b hb
  obtain rfl : Rs.ok (D.bl b) W1.S = rr := Option.some.inj hg1
  exact ⟨W1, v, d, b, rfl, s1.ok, rv, hb, hA1.now s1.ok _ rfl⟩
 ·cases hg1
end
end Np
end
section
namespace Np
open PySem PySem.Spec PyProof.Rows L2
def clOf : List (Str × NameKind) → List (Str × Addr) → List (Str × Addr) → List (Str × Addr)
 | [], _, cs => cs
 | (n, k) :: r, cells, cs => clOf r cells (if k = .free then (match cells.lookup n with | some c => (n, c) :: cs | none => cs) else cs)
theorem clOf_get (cells : List (Str × Addr)) : ∀ (names : List (Str × NameKind)) (cs : List (Str × Addr)) (x : Str) (c : Addr), (clOf names cells cs).lookup x = some c → cs.lookup x = some c ∨ (cells.lookup x = some c ∧ (x, NameKind.free) ∈ names)
 | [], cs, x, c, h => .inl h
 | (n, k) :: r, cs, x, c, h => by
  rcases clOf_get cells r _ x c h with q | ⟨q, m⟩
  ·split at q
   ·rename_i hk
    split at q
    ·rename_i d hd
     rw [List.lookup_cons] at q
     cases e : x == n with
     | true =>
      rw [e] at q
      have e' : x = n := beq_iff_eq.mp e
      subst e' hk
      cases q
      exact .inr ⟨hd, .head _⟩
     | false =>
      rw [e] at q
      exact .inl q
    ·exact .inl q
   ·exact .inl q
  ·exact .inr ⟨q, .tail _ m⟩
theorem clOf_old (cells : List (Str × Addr)) : ∀ (names : List (Str × NameKind)) (cs : List (Str × Addr)) (x : Str), (∃ c, cs.lookup x = some c) → ∃ c, (clOf names cells cs).lookup x = some c
 | [], cs, x, h => h
 | (n, k) :: r, cs, x, h => by
  refine clOf_old cells r _ x ?_
  split
  ·split
   ·rw [List.lookup_cons]
    cases x == n with
    | true => exact ⟨_, rfl⟩
    | false => exact h
   ·exact h
  ·exact h
theorem clOf_has (cells : List (Str × Addr)) : ∀ (names : List (Str × NameKind)) (cs : List (Str × Addr)) (x : Str), (x, NameKind.free) ∈ names → (∃ c, cells.lookup x = some c) → ∃ c, (clOf names cells cs).lookup x = some c
 | (n, k) :: r, cs, x, hm, hc => by
  rcases List.mem_cons.mp hm with e | hm
  ·obtain ⟨rfl, rfl⟩ := Prod.mk.inj e
   obtain ⟨c, hc⟩ := hc
   refine clOf_old cells r _ _ ?_
   rw [if_pos rfl, hc]
   exact ⟨c, by simp [List.lookup_cons]⟩
  ·exact clOf_has cells r _ x hm hc
theorem forIn_clos {env : Env} : ∀ (names : List (Str × NameKind)) (cs : List (Str × Addr)), (∀ y ∈ names, y.2 = .free → ∃ c, env.cells.lookup y.1 = some c) →
  (forIn names cs (fun (x : Str × NameKind) (r : List (Str × Addr)) => do
   if (x.2 == NameKind.free) = true then do let c ← cellOf env x.1; pure (ForInStep.yield ((x.1, c) :: r)) else pure (ForInStep.yield r)) : Sem (List (Str × Addr))) = pure (clOf names env.cells cs)
 | [], cs, _ => rfl
 | (n, k) :: r, cs, h => by
  rw [List.forIn_cons]
  by_cases hk : k = .free
  ·subst hk
   obtain ⟨c, hc⟩ := h (n, .free) (.head _) rfl
   have e : cellOf env n = pure c := by unfold cellOf; rw [hc]
   have ih := forIn_clos (env := env) r ((n, c) :: cs) fun y hy => h y (.tail _ hy)
   have e2 : clOf ((n, NameKind.free) :: r) env.cells cs = clOf r env.cells ((n, c) :: cs) := by
    show clOf r env.cells (if NameKind.free = NameKind.free then (match env.cells.lookup n with | some c => (n, c) :: cs | none => cs) else cs) = _
    rw [if_pos rfl, hc]
   rw [e2, ← ih]
   simp only [beq_self_eq_true, if_true, e, pure_bind]
  ·have ih := forIn_clos (env := env) r cs fun y hy => h y (.tail _ hy)
   have hb : (k == NameKind.free) = false := by simpa using hk
   have e2 : clOf ((n, k) :: r) env.cells cs = clOf r env.cells cs := by
    show clOf r env.cells (if k = NameKind.free then (match env.cells.lookup n with | some c => (n, c) :: cs | none => cs) else cs) = _
    rw [if_neg hk]
   rw [e2, ← ih]
   simp only [hb, Bool.false_eq_true, if_false, pure_bind]
theorem closureFor_eq {scope : Scope} {env : Env} (h : ∀ y ∈ scope.names, y.2 = .free → ∃ c, env.cells.lookup y.1 = some c) : closureFor scope env = pure (clOf scope.names env.cells []) := by
 have := forIn_clos (env := env) scope.names [] h
 unfold closureFor
 simp only [bind_pure]
 exact this
theorem lookup_map (f : Str → NameKind → NameKind) : ∀ (names : List (Str × NameKind)) (x : Str), (names.map fun y => (y.1, f y.1 y.2)).lookup x = (names.lookup x).map (f x)
 | [], x => rfl
 | (n, k) :: r, x => by
  rw [List.map_cons, List.lookup_cons, List.lookup_cons, lookup_map f r x]
  cases e : x == n with
  | true =>
   have e' : x = n := beq_iff_eq.mp e
   subst e'
   rfl
  | false => rfl
theorem relabel_names (scope : Scope) (env : Env) (x : Str) : (relabel scope env).names.lookup x = (scope.names.lookup x).map fun k => if (k == .free && env.scope.kind == .function && env.kindOf x == some .cell) = true then .cell else k := by
 have := lookup_map (fun n k => if (k == .free && env.scope.kind == .function && env.kindOf n == some .cell) = true then .cell else k) scope.names x
 rw [← this]
 unfold relabel
 congr 1
 refine List.map_congr_left fun y _ => ?_
 obtain ⟨n, k⟩ := y
 dsimp only
 split <;> rfl
theorem relabel_look {scope : Scope} {env : Env} {x : Str} {kd : NameKind} (h : (relabel scope env).names.lookup x = some kd) : scope.names.lookup x = some kd ∨ (scope.names.lookup x = some .free ∧ kd = .cell) := by
 rw [relabel_names] at h
 cases q : scope.names.lookup x with
 | none => rw [q] at h; cases h
 | some k =>
  rw [q, Option.map_some] at h
  have h' := Option.some.inj h
  split at h'
  ·rename_i hc
   have hk : k = .free := by
    have := (Bool.and_eq_true_iff.mp (Bool.and_eq_true_iff.mp hc).1).1
    simpa using this
   exact .inr ⟨by rw [hk], h'.symm⟩
  ·exact .inl (by rw [h'])
structure CompOk (N : List Str) (fsc : Scope) (N' : List Str) (scope : Scope) : Prop where
 kind : scope.kind = .function
 names : ∀ x ∈ scope.names, x.2 = .local → scope.names.lookup x.1 = some .local
 celu : ∀ x ∈ scope.names, x.2 = .cell → scope.names.lookup x.1 = some .cell
 free : ∀ x ∈ scope.names, x.2 = .free → scope.names.lookup x.1 = some .free ∧ (fsc.names.lookup x.1 = some .cell ∨ fsc.names.lookup x.1 = some .free)
 pre : ((List.range N.length).all fun i => match N'[i]? with
  | some x => (match scope.names.lookup x with
   | some .local => false
   | some .cell => false
   | some .free => N[i]? == some x
   | _ => true)
  | none => true) = true
 len : N.length ≤ N'.length
 nd : N'.Nodup
def ownOf (scope : Scope) (x : Str) : Bool := scope.names.lookup x == some .local || scope.names.lookup x == some .cell
def cellsC (scope : Scope) (C : Addr) (cells : List (Str × Addr)) : List (Str × Addr) := cellsFrom (C + 1) scope.names (clOf scope.names cells [])
theorem cellsFrom_get : ∀ (names : List (Str × NameKind)) (h : Heap) (acc : List (Str × Addr)) (x : Str) (c : Addr), (cellsFrom h.objs.size names acc).lookup x = some c →
  acc.lookup x = some c ∨ ((x, NameKind.cell) ∈ names ∧ h.objs.size ≤ c ∧ (pushCells h names).IsCell c none)
 | [], h, acc, x, c, e => .inl e
 | (n, k) :: r, h, acc, x, c, e => by
  unfold cellsFrom at e
  unfold pushCells
  split at e
  ·rename_i hk
   rw [if_pos hk]
   have hk' : k = .cell := by simpa using hk
   have z : (h.push { cls := .type "cell", data := .cell none }).objs.size = h.objs.size + 1 := Heap.size_push ..
   rw [← z] at e
   rcases cellsFrom_get r _ _ x c e with q | ⟨q1, q2, q3⟩
   ·rw [List.lookup_cons] at q
    cases en : x == n with
    | true =>
     rw [en] at q
     have en' : x = n := beq_iff_eq.mp en
     cases q
     refine .inr ⟨by rw [en', hk']; exact .head _, Nat.le_refl _, { cls := .type "cell", data := .cell none }, pushCells_keeps _ _ _ _ (Heap.get?_push_size _ rfl), rfl⟩
    | false =>
     rw [en] at q
     exact .inl q
   ·exact .inr ⟨.tail _ q1, by omega, q3⟩
  ·rename_i hk
   rw [if_neg hk]
   rcases cellsFrom_get r _ _ x c e with q | ⟨q1, q2⟩
   ·exact .inl q
   ·exact .inr ⟨.tail _ q1, q2⟩
theorem cellsFrom_at : ∀ (names : List (Str × NameKind)) (n : Nat) (acc : List (Str × Addr)) (x : Str) (c : Addr), (cellsFrom n names acc).lookup x = some c → acc.lookup x = some c ∨ ((x, NameKind.cell) ∈ names ∧ n ≤ c)
 | [], n, acc, x, c, e => .inl e
 | (y, k) :: r, n, acc, x, c, e => by
  unfold cellsFrom at e
  split at e
  ·rename_i hk
   have hk' : k = .cell := by simpa using hk
   rcases cellsFrom_at r _ _ x c e with q | ⟨q1, q2⟩
   ·rw [List.lookup_cons] at q
    cases en : x == y with
    | true =>
     rw [en] at q
     have en' : x = y := beq_iff_eq.mp en
     cases q
     exact .inr ⟨by rw [en', hk']; exact .head _, Nat.le_refl _⟩
    | false =>
     rw [en] at q
     exact .inl q
   ·exact .inr ⟨.tail _ q1, by omega⟩
  ·rcases cellsFrom_at r _ _ x c e with q | ⟨q1, q2⟩
   ·exact .inl q
   ·exact .inr ⟨.tail _ q1, q2⟩
theorem cellsFrom_old : ∀ (names : List (Str × NameKind)) (n : Nat) (acc : List (Str × Addr)) (x : Str), (∃ c, acc.lookup x = some c) → ∃ c, (cellsFrom n names acc).lookup x = some c
 | [], n, acc, x, e => e
 | (y, k) :: r, n, acc, x, e => by
  unfold cellsFrom
  split
  ·refine cellsFrom_old r _ _ x ?_
   rw [List.lookup_cons]
   cases x == y with
   | true => exact ⟨_, rfl⟩
   | false => exact e
  ·exact cellsFrom_old r _ _ x e
theorem cellsFrom_inj : ∀ (names : List (Str × NameKind)) (n : Nat) (acc : List (Str × Addr)), (∀ x c, acc.lookup x = some c → c < n) → (∀ x y c, acc.lookup x = some c → acc.lookup y = some c → x = y) →
  ∀ x y c, (cellsFrom n names acc).lookup x = some c → (cellsFrom n names acc).lookup y = some c → x = y
 | [], n, acc, _, h2 => h2
 | (z, k) :: r, n, acc, h1, h2 => by
  unfold cellsFrom
  split
  ·refine cellsFrom_inj r _ _ (fun x c e => ?_) fun x y c e1 e2 => ?_
   ·rw [List.lookup_cons] at e
    cases en : x == z with
    | true => rw [en] at e; cases e; exact Nat.lt_succ_self _
    | false => rw [en] at e; exact Nat.lt_succ_of_lt (h1 x c e)
   ·rw [List.lookup_cons] at e1 e2
    cases en : x == z with
    | true =>
     rw [en] at e1
     cases e1
     cases en2 : y == z with
     | true => rw [beq_iff_eq.mp en, beq_iff_eq.mp en2]
     | false => rw [en2] at e2; exact absurd (h1 y _ e2) (Nat.lt_irrefl _)
    | false =>
     rw [en] at e1
     cases en2 : y == z with
     | true => rw [en2] at e2; cases e2; exact absurd (h1 x _ e1) (Nat.lt_irrefl _)
     | false => rw [en2] at e2; exact h2 x y c e1 e2
  ·exact cellsFrom_inj r _ _ h1 h2
theorem newEnv_comp {M : Model} {A : Around} {E : Value → Shared → Prop} {s : Shared} {scope : Scope} {globals : Addr} {closure : List (Str × Addr)} {qual : Str} {env : Env} {Q : Env → Shared → Prop}
  (hQ : ∀ h', h'.Ns s.heap.objs.size (fun _ => none) → (∀ b o, s.heap.get? b = some o → h'.get? b = some o) →
   (∀ x c, (cellsFrom (s.heap.objs.size + 1) scope.names closure).lookup x = some c → closure.lookup x = some c ∨ ((x, NameKind.cell) ∈ scope.names ∧ s.heap.objs.size + 1 ≤ c ∧ h'.IsCell c none)) →
   Q (newEnv scope s.heap.objs.size globals (cellsFrom (s.heap.objs.size + 1) scope.names closure) qual none .none (some env) builtinsNs) { s with heap := h' }) :
  wpAny M A (newFunctionEnv scope globals closure [] qual none .none (some env)) Q E s := by
 simp only [newFunctionEnv, Option.isSome_some, if_true]
 refine wpAny_bind (wpAny_alloc ?_)
 refine wpAny_bind (wpAny_layCells _ (fun name kind cells => by cases hkc : kind == NameKind.cell <;> simp [hkc]) _ _ _ _ ?_)
 have z : (s.heap.push { cls := .type "dict", data := .dict #[] }).objs.size = s.heap.objs.size + 1 := Heap.size_push ..
 rw [List.forIn_nil]
 refine wpAny_bind (wpAny_pure (wpAny_pure ?_))
 have := hQ (pushCells (s.heap.push { cls := .type "dict", data := .dict #[] }) scope.names) ((Heap.Ns.new s.heap (.type "dict")).keeps (pushCells_keeps _ _)) (fun b o e => pushCells_keeps _ _ b o (Heap.get?_push_of_some _ e)) (fun x c e => by
  rw [← z] at e ⊢
  exact cellsFrom_get _ _ _ _ _ e)
 rw [← z] at this
 exact this
def compCx (X : Cx) (N' : List Str) (scope : Scope) (C : Addr) (s₃ : Shared) (H₃ : Hp) (ex : List Addr) (pn : List (Addr × Obj)) : Cx where
 prog := X.prog
 w := X.w
 K := X.K
 mg := X.mg
 base := X.base
 A := X.A
 N := N'
 s₀ := s₃
 H₀ := H₃
 env := compEnvC scope (cellsC scope C X.env.cells) C X.env
 outer := X.stack
 stack := X.stack
 ex := ex
 fn := ownOf scope
 calm := X.calm
 pn := pn
 xe := fun _ _ => False
section
variable {X : Cx} {N' : List Str} {scope : Scope}
theorem cl_sub {x : Str} {c : Addr} (h : (clOf scope.names X.env.cells []).lookup x = some c) : X.env.cells.lookup x = some c ∧ (x, NameKind.free) ∈ scope.names := by
 rcases clOf_get _ _ _ _ _ h with z | z
 ·cases z
 ·exact z
theorem cellsC_get {C : Addr} {x : Str} {c : Addr} (h : (cellsC scope C X.env.cells).lookup x = some c) : (X.env.cells.lookup x = some c ∧ (x, NameKind.free) ∈ scope.names) ∨ ((x, NameKind.cell) ∈ scope.names ∧ C < c) := by
 rcases cellsFrom_at _ _ _ _ _ h with q | ⟨q1, q2⟩
 ·exact .inl (cl_sub q)
 ·exact .inr ⟨q1, q2⟩
theorem cells_lt {pins : List (Addr × Obj)} {σ : L2.St} {H₃ : Hp} {s₃ : Shared} (I : Inv X pins σ H₃ s₃) {x : Str} {c : Addr} (h : X.env.cells.lookup x = some c) : c < s₃.heap.objs.size := by
 obtain ⟨v, o, ho, _⟩ := I.cell x c h
 exact Heap.lt_size ho
theorem comp_ok {pins : List (Addr × Obj)} {σ : L2.St} {H₃ : Hp} {s₃ : Shared} {C : Addr} {fp : List Addr} (O : CompOk X.N X.env.scope N' scope) (I : Inv X pins σ H₃ s₃) (hC : s₃.heap.objs.size ≤ C) (hf : ∀ b ∈ fp, FpOk X pins H₃ b) (hfl : ∀ b ∈ fp, b < s₃.heap.objs.size) :
  (compCx X N' scope C s₃ H₃ fp (X.pn ++ pins)).Ok where
 mod := I.ok.mod
 kind := by show (relabel scope X.env).kind = _; exact O.kind
 glob := I.ok.glob
 blt := I.ok.blt
 above := hC
 inj := fun x y c h1 h2 => cellsFrom_inj scope.names (C + 1) (clOf scope.names X.env.cells []) (fun x c h => Nat.lt_succ_of_lt (Nat.lt_of_lt_of_le (cells_lt I (cl_sub h).1) hC)) (fun x y c h1 h2 => I.ok.inj x y c (cl_sub h1).1 (cl_sub h2).1) x y c h1 h2
 has := fun x hx => by
  have hx' : (relabel scope X.env).names.lookup x = some .cell ∨ (relabel scope X.env).names.lookup x = some .free := hx
  have hfree : scope.names.lookup x = some .cell ∨ scope.names.lookup x = some .free := by
   rcases hx' with z | z
   ·rcases relabel_look z with y | ⟨y, _⟩
    ·exact .inl y
    ·exact .inr y
   ·rcases relabel_look z with y | ⟨y, y2⟩
    ·exact .inr y
    ·cases y2
  rcases hfree with hfree | hfree
  ·exact Option.isSome_iff_exists.mp (PySem.W.cellsFrom_some scope.names (C + 1) _ (.inl hfree))
  ·have hm := PySem.mem_of_lookup hfree
   have hcell : ∃ c, X.env.cells.lookup x = some c := I.ok.has x (O.free _ hm rfl).2
   exact cellsFrom_old _ _ _ _ (clOf_has _ _ _ _ hm hcell)
 cab := fun x c h1 h2 => by
  rcases cellsC_get (X := X) h2 with ⟨_, hm⟩ | ⟨_, hc⟩
  ·have q := (O.free _ hm rfl).1
   have h1' : (scope.names.lookup x == some .local || scope.names.lookup x == some .cell) = true := h1
   rw [q] at h1'
   cases h1'
  ·exact Nat.le_of_lt (Nat.lt_of_le_of_lt hC hc)
 hd := I.ok.hd
 frames := I.ok.frames
 stk := .inl rfl
 exf := fun b hb => ⟨Nat.ne_of_lt (Nat.lt_of_lt_of_le (hfl b hb) hC), fun x c h => by
  rcases cellsC_get (X := X) h with ⟨q, _⟩ | ⟨_, q⟩
  ·exact (hf b hb).2.2.2.2.1 x c q
  ·exact Nat.ne_of_gt (Nat.lt_trans (Nat.lt_of_lt_of_le (hfl b hb) hC) q)⟩
 bs := I.bs
 bsz := Nat.le_trans I.ok.bsz I.sz
 noex := fun b o e hb => by
  rcases (hf b hb).2.2.2.1 with z | z
  ·exact I.ok.noex b o e z
  ·exact absurd (Nat.lt_of_lt_of_le (Heap.lt_size (I.ok.bs b o e).1) z) (Nat.lt_irrefl _)
 exfs := fun b hb z => by
  rcases List.mem_cons.mp (I.stkSub b z) with e | e
  ·exact (hf b hb).2.1 e
  ·exact (hf b hb).2.2.1 e
 funs := I.stack
 frf := I.stkFree
theorem inv_comp {pins : List (Addr × Obj)} {σ : L2.St} {H₃ : Hp} {s₃ s₄ : Shared} {C : Addr} {fp : List Addr} {m : Str → Option Value} {k : Nat} (O : CompOk X.N X.env.scope N' scope) (I : Inv X pins σ H₃ s₃) (hC : s₃.heap.objs.size ≤ C) (hf : ∀ b ∈ fp, FpOk X pins H₃ b) (hfl : ∀ b ∈ fp, b < s₃.heap.objs.size)
  (hs : ∃ h' t', s₄ = { s₃ with heap := h', toks := t' }) (hk : ∀ b o, s₃.heap.get? b = some o → s₄.heap.get? b = some o) (hn : s₄.heap.Ns C m)
  (hce : ∀ x c, (cellsC scope C X.env.cells).lookup x = some c → (clOf scope.names X.env.cells []).lookup x = some c ∨ ((x, NameKind.cell) ∈ scope.names ∧ C + 1 ≤ c ∧ s₄.heap.IsCell c none)) (hlen : X.N.length + k = N'.length) : Inv (compCx X N' scope C s₃ H₃ fp (X.pn ++ pins)) [] (σ ++ List.replicate k none) H₃ s₄ := by
 obtain ⟨h', t', rfl⟩ := hs
 have hHC : H₃ C = none := I.hok.fresh hC
 refine ⟨comp_ok O I hC hf hfl, rfl, I.bare, Un.kept hk, ⟨m, hn, fun i x v h1 h2 h3 => ?_⟩, fun x c h => ?_, hHC, fun x c h => ?_, fun p hp => ?_, I.hok.kept hk, ?_⟩
 ·have hi : i < σ.length := by
   by_cases hi : i < σ.length
   ·exact hi
   ·rw [List.getElem?_append_right (by omega), List.getElem?_replicate] at h2
    split at h2 <;> cases h2
  rw [List.getElem?_append_left hi] at h2
  have hiN : i < X.N.length := by rw [← I.len]; exact hi
  have hp := List.all_eq_true.mp O.pre i (List.mem_range.mpr hiN)
  have h1' : N'[i]? = some x := h1
  rw [h1'] at hp
  have h3' : (relabel scope X.env).names.lookup x = some .local ∨ (relabel scope X.env).names.lookup x = some .cell ∨ (relabel scope X.env).names.lookup x = some .free := h3
  have hp2 : (match scope.names.lookup x with
   | some .local => false
   | some .cell => false
   | some .free => X.N[i]? == some x
   | _ => true) = true := hp
  have hfree : scope.names.lookup x = some .free := by
   rcases h3' with z | z | z
   ·rcases relabel_look z with y | ⟨y, y2⟩
    ·rw [y] at hp2; cases hp2
    ·cases y2
   ·rcases relabel_look z with y | ⟨y, _⟩
    ·rw [y] at hp2; cases hp2
    ·exact y
   ·rcases relabel_look z with y | ⟨y, y2⟩
    ·exact y
    ·cases y2
  have hm := PySem.mem_of_lookup hfree
  rw [hfree] at hp2
  have hNx : X.N[i]? = some x := by simpa using hp2
  have hkx := (O.free _ hm rfl).2
  obtain ⟨m0, hn0, hl0⟩ := I.loc
  have vis : Vis X.env.scope x := by
   rcases hkx with z | z
   ·exact .inr (.inl z)
   ·exact .inr (.inr z)
  obtain ⟨u, r, l⟩ := hl0 i x v hNx h2 vis
  refine ⟨u, r, .inr ⟨?_, ?_⟩⟩
  ·rcases h3' with z | z | z
   ·exfalso
    rcases relabel_look z with y | ⟨y, y2⟩
    ·rw [hfree] at y; cases y
    ·cases y2
   ·exact .inl z
   ·exact .inr z
  ·rcases l with ⟨z, _⟩ | ⟨_, c, hc, hcell⟩
   ·exfalso
    have z' : X.env.scope.names.lookup x = some .local := z
    rcases hkx with y | y
    ·rw [z'] at y; cases y
    ·rw [z'] at y; cases y
   ·obtain ⟨c', hc'⟩ := cellsFrom_old scope.names (C + 1) _ x (clOf_has X.env.cells scope.names [] x hm ⟨c, hc⟩)
    have hcc : X.env.cells.lookup x = some c' := by
     rcases cellsC_get (X := X) (C := C) hc' with ⟨q, _⟩ | ⟨q, _⟩
     ·exact q
     ·have := O.celu _ q rfl
      rw [hfree] at this
      cases this
    rw [hc] at hcc
    cases hcc
    obtain ⟨o, ho, hd⟩ := hcell
    exact ⟨c, hc', o, hk _ _ ho, hd⟩
 ·rcases hce x c h with q | ⟨_, _, q⟩
  ·obtain ⟨v, o, ho, hd⟩ := I.cell x c (cl_sub q).1
   exact ⟨v, o, hk _ _ ho, hd⟩
  ·exact ⟨_, q⟩
 ·rcases cellsC_get (X := X) h with ⟨q, _⟩ | ⟨_, q⟩
  ·exact I.freeC x c q
  ·exact I.hok.fresh (Nat.le_of_lt (Nat.lt_of_le_of_lt hC q))
 ·have hp' : p ∈ X.pn ++ pins := by
   have q : p ∈ (X.pn ++ pins) ++ [] := hp
   rwa [List.append_nil] at q
  obtain ⟨e, n, ne, nf, d⟩ := I.pin p hp'
  refine ⟨hk _ _ e, n, Nat.ne_of_lt (Nat.lt_of_lt_of_le (Heap.lt_size e) hC), fun z => ?_, d⟩
  rcases List.mem_cons.mp (I.stkSub p.1 z) with y | y
  ·exact ne y
  ·exact nf y
 ·show _ = N'.length
  rw [List.length_append, List.length_replicate, I.len, hlen]
end
section
variable {prog : Program} {w : World} {A : Around} {R : Result → Shared → Prop} {s : Shared}
theorem compLoop_any {elt target iter : Expr} {scope : Scope} {pos : Pos} {it acc : Value} {env : Env} (I : Nat → Shared → Prop)
  (turn : ∀ n s, I n s → wpAny (model prog w) A (pyNext it) (fun r s₁ => match r with
   | none => R (.ok .next) s₁
   | some v => wpAny (model prog w) A (letOwnedTupleGo target it v) (fun _ s₂ => wpAny (model prog w) A (assign target env v) (fun _ s₃ => wpAny (model prog w) A (eval elt env) (fun x s₄ =>
     wpAny (model prog w) A (call (.builtin "list.append") [acc, x]) (fun _ s₅ => ∃ m, m < n ∧ I m s₅) (fun _ _ => False) s₄) (fun _ _ => False) s₃) (fun _ _ => False) s₂) (fun _ _ => False) s₁) (fun _ _ => False) s)
  (n : Nat) (h : I n s) :
  codeAny (model prog w) A (.compLoop (.ListComp elt [⟨target, iter, [], 0⟩] scope pos) 0 it acc env) R s := by
 refine codeAny_loop rfl I (fun n s hI => ?_) n h
 show wpAny _ _ ((compTurn (.ListComp elt [⟨target, iter, [], 0⟩] scope pos) 0 it acc env).onRaise (fun x => do noteFrame x env; theTreesLotGoes x)) _ _ s
 refine wpAny_noted ?_
 rw [compTurn_list1]
 refine wpAny_bind (wpAny_standAt (wpAny_bind (wpAny_mono (turn n s hI) (fun r s₁ h₁ => ?_) fun _ _ h' => h'.elim)))
 cases r with
 | none => exact wpAny_pure h₁
 | some v =>
  refine wpAny_bind (wpAny_mono h₁ (fun _ s₂ h₂ => ?_) fun _ _ h' => h'.elim)
  exact wpAny_bind (wpAny_mono h₂ (fun _ s₂ h₂ => wpAny_bind (wpAny_bind (wpAny_mono h₂ (fun x s₃ h₃ => wpAny_bind (wpAny_mono h₃
   (fun _ s₄ h₄ => wpAny_pure (wpAny_pure ⟨rfl, h₄⟩)) fun _ _ h' => h'.elim)) fun _ _ h' => h'.elim))) fun _ _ h' => h'.elim)
end
def tComp (wi : TI) (g : TG) (te : TE) (k : Nat) : TE := fun σ H Q => wi σ H fun J H1 => ∃ W : Nat → Nat → List V → L2.St → Hp → Prop, (∃ n, W 0 n [] (σ ++ List.replicate k none) H1) ∧ ∀ i n vs σ H, W i n vs σ H →
 (J.stop i H ∧ ∀ p, H p = none → Q (.ref p) (upd H p (.lst vs))) ∨ (J.go i H ∧ vs.length < sizeLine ∧ ∀ x H', J.yld i H x H' → g x σ H' fun σ2 H2 => te σ2 H2 fun v H3 => ∃ n', n' < n ∧ W (i + 1) n' (vs ++ [v]) σ2 H3)
section
variable {X : Cx} {N' : List Str} {scope : Scope}
theorem Inv.adopt {pins : List (Addr × Obj)} {σ : L2.St} {H : Hp} {s : Shared} {a : Addr} {vs : List V} {its : List Value} {n : Nat} (I : Inv X pins σ H s) (f : FpOk X pins H a) (e : s.heap.get? a = some { cls := .type "list", data := .seq its.toArray n }) (rv : Vals vs its) (hz : vs.length ≤ sizeLine) :
  Inv X pins σ (upd H a (.lst vs)) s := by
 have hn := f.1
 have ne : ∀ b u, H b = some u → b ≠ a := fun b u q => ne_of_none q hn
 have J := I.step (h' := s.heap) (H' := upd H a (.lst vs)) (g' := s.gens) (t' := s.toks) (d' := s.drawn) (ch := [a]) (fun b hb => by
   have z : b = a := by simpa using hb
   subst z
   exact ⟨f.2.2.2.1, f.2.1, f.2.2.2.2.1, f.2.2.2.2.2⟩) (fun b o _ _ _ q _ => q) (fun b o _ _ _ q _ => ⟨o.slots, q⟩) (fun b o hc _ q => by rw [zO (by simpa using hc)]; exact q) (fun b o _ q => ⟨o, q⟩)
  (fun b xs q => by rw [zO (ne b _ q)]; exact q) (fun b o u q => by rw [zO (ne b _ q)]; exact q) (fun b ps q => ⟨#[], by rw [zO (ne b _ q), q]; simp⟩) (fun m hm => hm) (fun b u q => ?_) I.bare
 ·exact J
 ·by_cases hb : b = a
  ·subst hb
   rw [zW] at q
   cases q
   exact ⟨hz, its, n, rv, e⟩
  ·rw [zO hb] at q
   exact (I.hok b u q).stay (fun c v _ z => z) (fun c z => by rw [zO (ne c _ z)]; exact z) fun c xs z => by rw [zO (ne c _ z)]; exact z
end
section
variable {X : Cx} {N' : List Str} {scope : Scope}
theorem comp_run {elt iter tg : Expr} {pos : Pos} {wi : TI} {g : TG} {te : TE} {k : Nat} (O : CompOk X.N X.env.scope N' scope) (hlen : X.N.length + k = N'.length) (hcal : X.calm = true) (hi : PI X tg iter wi)
  (hg : ∀ C s₃ H₃ ex pn, PG (compCx X N' scope C s₃ H₃ ex pn) tg g) (he : ∀ C s₃ H₃ ex pn, PE (compCx X N' scope C s₃ H₃ ex pn) elt te)
  {use : Option (Value → Sem Unit)} {Qf : Value → Shared → Prop} {pins : List (Addr × Obj)} {s : Shared} {σ : L2.St} {H : Hp} {Q : VK} (I : Inv X pins σ H s) (h : tComp wi g te k σ H Q)
  (fin : ∀ (C acc : Addr) (H' : Hp) (s' : Shared) (m : Str → Option Value), Inv X pins σ H' s' → s'.heap.Ns C m → FpOk X pins H' C → Q (.ref acc) H' → compPost (model X.prog X.w) X.A X.xe use Qf (.ref acc) C (.ok .next) s')
  (hs : ∀ x, foldedSetIterable iter X.env x = pure x := by intro _; rfl) :
  wpAny (model X.prog X.w) X.A (comprehension (.ListComp elt [⟨tg, iter, [], 0⟩] scope pos) scope X.env (firstIterPos [⟨tg, iter, [], 0⟩] pos) (newList []) false (eval iter X.env) use) Qf X.xe s := by
 have hclos : closureFor scope X.env = pure (clOf scope.names X.env.cells []) := closureFor_eq fun y hy hf => I.ok.has y.1 (O.free y hy hf).2
 refine wpAny_comprehension_free (use := use) rfl hs hclos O.kind O.names (thn (hi pins s σ H _ I h) fun xv s1 h1 => thn h1 fun itv s2 h2 => ?_)
 obtain ⟨it, fp, tn, J, H2, rfl, I2, T, st2, f2, hW⟩ := h2
 refine wpAny_newObj_type (newEnv_comp fun h₁ hns₁ hk₁ hce₁ => ?_)
 have hfp2 : ∀ b ∈ fp, b < s2.heap.objs.size := fun b hb => by
  obtain ⟨o, e, _⟩ := T.obj 0 _ st2 b hb
  exact Heap.lt_size e
 have hpn : H2 s2.heap.objs.size = none := I2.hok.fresh (Nat.le_refl _)
 have I3 : Inv X pins σ H2 { s2 with heap := s2.heap.push { cls := .type "list", data := .seq ([] : List Value).toArray } } := I2.kept (t' := s2.toks) fun b o e => Heap.get?_push_of_some _ e
 have facc : FpOk X pins H2 s2.heap.objs.size := I2.fpOk (Nat.le_refl _) hpn
 have gacc : (s2.heap.push { cls := .type "list", data := .seq ([] : List Value).toArray }).get? s2.heap.objs.size = some { cls := .type "list", data := .seq ([] : List Value).toArray } := Heap.get?_push_size _ rfl
 obtain ⟨W, ⟨n0, w0⟩, turn⟩ := hW
 generalize hs3 : ({ s2 with heap := s2.heap.push { cls := .type "list", data := .seq ([] : List Value).toArray } } : Shared) = s3 at I3
 have hh3 : s3.heap = s2.heap.push { cls := .type "list", data := .seq ([] : List Value).toArray } := by rw [← hs3]
 rw [← hh3] at gacc
 have z3 : s3.heap.objs.size = s2.heap.objs.size + 1 := by rw [hh3, Heap.size_push]
 generalize hacc : s2.heap.objs.size = acc at *
 have f3 : ∀ b ∈ acc :: fp, FpOk X pins H2 b := fun b hb => by
  rcases List.mem_cons.mp hb with e | hb
  ·rw [e]; exact facc
  ·exact f2 b hb
 have hfp3 : ∀ b ∈ acc :: fp, b < s3.heap.objs.size := fun b hb => by
  rw [z3]
  rcases List.mem_cons.mp hb with e | hb
  ·rw [e]; exact Nat.lt_succ_self _
  ·exact Nat.lt_succ_of_lt (hfp2 b hb)
 have hk4 : ∀ b o, s3.heap.get? b = some o → h₁.get? b = some o := fun b o e => hk₁ b o (by rw [hh3] at e; exact e)
 have hCe : (s2.heap.push { cls := .type "list", dict := none, data := .seq ([] : List Value).toArray }).objs.size = s3.heap.objs.size := by rw [hh3]
 generalize hC : (s2.heap.push { cls := .type "list", dict := none, data := .seq ([] : List Value).toArray }).objs.size = C at *
 have st3 : tn 0 h₁ := T.keep 0 _ _ st2 fun b hb o e => hk4 b o (by rw [hh3]; exact Heap.get?_push_of_some _ e)
 have okx := comp_ok (fp := acc :: fp) O I3 (show s3.heap.objs.size ≤ C by rw [hCe]; exact Nat.le_refl _) f3 hfp3
 have pinOk : ∀ {H' : Hp} {its : List Value} {kk : Nat} {h' : Heap}, H' acc = none → h'.get? acc = some { cls := .type "list", data := .seq its.toArray kk } → ∀ p ∈ [(acc, ({ cls := .type "list", data := .seq its.toArray kk } : Obj))], h'.get? p.1 = some p.2 ∧ H' p.1 = none ∧ p.1 ≠ (compCx X N' scope C s3 H2 (acc :: fp) (X.pn ++ pins)).env.locals ∧ p.1 ∉ (compCx X N' scope C s3 H2 (acc :: fp) (X.pn ++ pins)).fs ∧ ∀ v, p.2.data ≠ .cell v := fun {H' its kk h'} hn e p hp => by
  have z : p = (acc, ({ cls := .type "list", data := .seq its.toArray kk } : Obj)) := by simpa using hp
  subst z
  exact ⟨e, hn, (okx.exf acc (.head _)).1, okx.exfs acc (.head _), fun v q => by cases q⟩
 have I4 : Inv (compCx X N' scope C s3 H2 (acc :: fp) (X.pn ++ pins)) [] (σ ++ List.replicate k none) H2 { s3 with heap := h₁ } :=
  inv_comp O I3 (by rw [hCe]; exact Nat.le_refl _) f3 hfp3 ⟨h₁, _, rfl⟩ hk4 hns₁ hce₁ hlen
 have I4' : Inv (compCx X N' scope C s3 H2 (acc :: fp) (X.pn ++ pins)) [(acc, { cls := .type "list", data := .seq ([] : List Value).toArray 0 })] (σ ++ List.replicate k none) H2 { s3 with heap := h₁ } :=
  I4.pins_of (pinOk facc.1 (hk4 _ _ gacc))
 have loop : codeAny (model X.prog X.w) X.A (.compLoop (.ListComp elt [⟨tg, iter, [], 0⟩] scope pos) 0 (.ref it) (.ref acc) (compEnvC scope (cellsC scope C X.env.cells) C X.env)) (compPost (model X.prog X.w) X.A X.xe use Qf (.ref acc) C) { s3 with heap := h₁ } := by
  have fpx : ∀ {H' : Hp} {ob : Obj}, (∀ b ∈ fp, H' b = none) → ∀ b ∈ fp, FpOk (compCx X N' scope C s3 H2 (acc :: fp) (X.pn ++ pins)) [(acc, ob)] H' b := fun {H' ob} hn b hb => by
   have hb' : b ∈ acc :: fp := .tail _ hb
   refine ⟨hn b hb, (okx.exf b hb').1, okx.exfs b hb', .inl hb', fun x c h => (okx.exf b hb').2 x c h, fun p hp => ?_⟩
   have hp' : p ∈ (X.pn ++ pins) ++ [(acc, ob)] := hp
   rcases List.mem_append.mp hp' with z | z
   ·exact (f3 b hb').2.2.2.2.2 p z
   ·have e : p = (acc, ob) := by simpa using z
    rw [e]
    exact Nat.ne_of_gt (hfp2 b hb)
  refine compLoop_any (fun n s' => ∃ i vs its kk σ' H', Inv (compCx X N' scope C s3 H2 (acc :: fp) (X.pn ++ pins)) [(acc, { cls := .type "list", data := .seq its.toArray kk })] σ' H' s' ∧ Vals vs its ∧ vs.length ≤ sizeLine ∧ tn i s'.heap ∧ (∀ b ∈ fp, H' b = none) ∧ W i n vs σ' H') ?_ n0 ⟨0, [], [], 0, _, _, I4', .nil, Nat.zero_le _, st3, fun b hb => (f2 b hb).1, w0⟩
  rintro n s5 ⟨i, vs, its, kk, σ5, H5, I5, rv, hz, st5, fr5, w5⟩
  rcases turn i n vs σ5 H5 w5 with ⟨stop, qn⟩ | ⟨go, hlt, step⟩
  ·refine thn (T.done (compCx X N' scope C s3 H2 (acc :: fp) (X.pn ++ pins)) rfl rfl rfl hcal i _ s5 σ5 H5 _ I5 (fpx fr5) st5 stop) fun r s6 ⟨hr, I6⟩ => ?_
   subst hr
   have back : Inv X pins σ H5 s6 := by
    have e : s6.os = s3.os := I6.os
    refine I3.call' e (ch := acc :: fp) I6.base I6.hok I6.bare fun b hb => ?_
    obtain ⟨a1, a2, a3, a4, a5, a6⟩ := f3 b hb
    exact ⟨a4, a2, a5, a6⟩
   obtain ⟨m6, hn6, _⟩ := I6.loc
   have hn6' : s6.heap.Ns C m6 := hn6
   obtain ⟨e6, n6, _⟩ := I6.pin (acc, { cls := .type "list", data := .seq its.toArray kk }) (List.mem_append_right _ (.head _))
   have fa : FpOk X pins H5 acc := ⟨n6, facc.2⟩
   have hCa : C ≠ acc := Nat.ne_of_gt (by rw [hCe]; exact hfp3 acc (.head _))
   refine fin C acc _ s6 m6 (Inv.adopt back fa e6 rv hz) hn6' ?_ (qn acc n6)
   exact I3.fpOk (by rw [hCe]; exact Nat.le_refl _) (by rw [zO hCa]; exact I6.free)
  ·refine thn (T.item (compCx X N' scope C s3 H2 (acc :: fp) (X.pn ++ pins)) rfl rfl rfl hcal i _ s5 σ5 H5 _ I5 (fpx fr5) st5 go) fun r s6 ⟨u, hr, h6⟩ => ?_
   subst hr
   refine thn h6 fun _ s7 ⟨x, H7, I7, r7, y7, st7, fr7⟩ => ?_
   have I7' := I7.pinned (fpx fr7) (T.obj _ _ st7)
   refine thn (hg _ _ _ _ _ _ s7 σ5 H7 x u _ I7' r7 (step x H7 y7)) fun _ s8 ⟨σ8, H8, I8, q8⟩ => ?_
   refine thn (he _ _ _ _ _ _ s8 σ8 H8 _ I8 q8) fun xv s9 ⟨v, H9, I9, r9, q9⟩ => ?_
   obtain ⟨n', hn', w9⟩ := q9
   obtain ⟨e9, n9, l9, f9, _⟩ := I9.pin (acc, { cls := .type "list", data := .seq its.toArray kk }) (List.mem_append_right _ (List.mem_append_left _ (.head _)))
   have hlen9 := rv.length
   refine call_meets F.slot_list_append ⟨_, e9, rfl⟩ F.entry_list_append (F.args_list_append_2 _ _) (PySem.list_append acc its.toArray kk xv (by rw [List.size_toArray]; omega)) ⟨e9, ?_⟩
   have q10 := PySem.IsL.update e9 (fun xs => xs.push xv)
   have ea : (its.toArray.push xv) = (its ++ [xv]).toArray := by simp
   rw [ea] at q10
   have I9' := I9.pins_of (pins' := pinsAt fp s7.heap) fun p hp => I9.pin p (List.mem_append_right _ (List.mem_append_right _ hp))
   have I10 : Inv (compCx X N' scope C s3 H2 (acc :: fp) (X.pn ++ pins)) (pinsAt fp s7.heap) σ8 H9 { s9 with heap := s9.heap.update acc (Obj.mapSeq fun xs => xs.push xv) } :=
    I9'.turned (t' := s9.toks) (it := acc) (fun b o hb e => (Heap.get?_update_other s9.heap _ (Ne.symm hb)).trans e) n9 (okx.exf acc (.head _)).1 (.inl (.head _)) (fun x c h => (okx.exf acc (.head _)).2 x c h) fun p hp => by
     have hp' : p ∈ (X.pn ++ pins) ++ pinsAt fp s7.heap := hp
     rcases List.mem_append.mp hp' with z | z
     ·exact facc.2.2.2.2.2 p z
     ·exact Nat.ne_of_lt (hfp2 p.1 (of_pinsAt z).1)
   refine ⟨n', hn', i + 1, vs ++ [v], its ++ [xv], _, σ8, H9, I10.pins_of (pinOk n9 q10), rv.append (.cons r9 .nil), by rw [List.length_append, List.length_singleton]; omega, T.keep _ _ _ st7 fun b hb o eo => (I10.pin (b, o) (List.mem_append_right _ (mem_pinsAt hb eo))).1, fun b hb => ?_, w9⟩
   obtain ⟨o, eo, d⟩ := T.obj _ _ st7 b hb
   exact (I10.pin (b, o) (List.mem_append_right _ (mem_pinsAt hb eo))).2.1
 have whole := codeAny_compStart_list loop (T.self _ 0 _ _ _ st3 loop)
 subst hCe
 exact whole
end
section
variable {X : Cx} {N' : List Str} {scope : Scope}
theorem pe_comp {elt iter tg : Expr} {pos : Pos} {wi : TI} {g : TG} {te : TE} (k : Nat) (O : CompOk X.N X.env.scope N' scope) (hcal : X.calm = true) (hi : PI X tg iter wi)
  (hg : ∀ C s₃ H₃ ex pn, PG (compCx X N' scope C s₃ H₃ ex pn) tg g) (he : ∀ C s₃ H₃ ex pn, PE (compCx X N' scope C s₃ H₃ ex pn) elt te)
  (hlen : X.N.length + k = N'.length := by rfl) (hs : ∀ x, foldedSetIterable iter X.env x = pure x := by intro _; rfl) : PE X (.ListComp elt [⟨tg, iter, [], 0⟩] scope pos) (tComp wi g te k) := by
 intro pins s σ H Q I h
 rw [eval_ListComp]
 exact comp_run (use := none) O hlen hcal hi hg he I h (fun C acc H' s' m J hn f q => ⟨m, hn, fun h' hs' => ⟨.ref acc, H', J.turned (t' := s'.toks) (fun b o hb e => (hs'.2 b hb).trans e) f.1 f.2.1 f.2.2.2.1 f.2.2.2.2.1 f.2.2.2.2.2, rfl, q⟩⟩) hs
theorem ps_setComp {elt iter tg : Expr} {pos spos py : Pos} {y : Str} {j : Nat} {wi : TI} {g : TG} {te : TE} (k : Nat) (O : CompOk X.N X.env.scope N' scope) (hcal : X.calm = true) (hi : PI X tg iter wi)
  (hg : ∀ C s₃ H₃ ex pn, PG (compCx X N' scope C s₃ H₃ ex pn) tg g) (he : ∀ C s₃ H₃ ex pn, PE (compCx X N' scope C s₃ H₃ ex pn) elt te)
  (hN : X.N.Nodup) (hj : X.N[j]? = some y) (hy : X.env.scope.names.lookup y = some .local) (hsw : swapsWith (.ListComp elt [⟨tg, iter, [], 0⟩] scope pos) (some (.Name y py)) spos.line X.env = pure true)
  (hlen : X.N.length + k = N'.length := by rfl) (hs : ∀ x, foldedSetIterable iter X.env x = pure x := by intro _; rfl) : PS X (.Assign [.Name y py] (.ListComp elt [⟨tg, iter, [], 0⟩] scope pos) spos) (tAsg (tComp wi g te k) (gName j)) := by
 intro pins s σ H D I h
 rw [exec_Assign_Name_used _ _ _ _ hsw]
 refine wpAny_bind (wpAny_standAt (wpAny_bind ?_))
 show wpAny _ X.A (do let _ ← comprehension (.ListComp elt [⟨tg, iter, [], 0⟩] scope pos) scope X.env _ (newList []) false (eval iter X.env) (some (assign (.Name y py) X.env))) _ _ s
 refine wpAny_bind (wpAny_mono (comp_run (use := some (assign (.Name y py) X.env)) (Qf := fun _ s' => SP X pins D .next s') O hlen hcal hi hg he I h (fun C acc H' s' m J hn f q => ?_) hs) (fun _ s' hq => wpAny_pure (wpAny_pure hq)) fun _ _ e => e)
 show wpAny _ X.A (assign (.Name y py) X.env (.ref acc)) _ _ _
 refine wpAny_assign_Name ?_
 refine store_ok2 J hN hj (.inl hy) (v := .ref acc) rfl (fun s2 J2 ⟨a, hsb, ha⟩ => ?_) (.inr hy)
 have haC : C ≠ a := by
  rcases ha with z | z
  ·rw [z]; exact f.2.1
  ·exact fun e => f.2.2.2.2.1 _ _ z e.symm
 exact ⟨m, hn.sameBut hsb haC, fun h' hs' => ⟨σ.set j (some (.ref acc)), H', J2.turned (t' := s2.toks) (fun b o hb e => (hs'.2 b hb).trans e) f.1 f.2.1 f.2.2.2.1 f.2.2.2.2.1 f.2.2.2.2.2, q⟩⟩
end
end Np
end
section
namespace Np
open PySem PySem.Spec PyProof.Rows L2
theorem RepS.more {G : Gx} {H : Hp} {W : Wd} {δ : DS} {σ : L2.St} (h : RepS G H W δ σ) (k : Nat) : RepS G H W (δ ++ List.replicate k none) (σ ++ List.replicate k none) := by
 refine ⟨by simp [h.1], fun i d e => ?_⟩
 by_cases hi : i < δ.length
 ·rw [List.getElem?_append_left hi] at e
  obtain ⟨v, e1, r⟩ := h.2 i d e
  exact ⟨v, by rw [List.getElem?_append_left (h.1 ▸ hi)]; exact e1, r⟩
 ·rw [List.getElem?_append_right (by omega), List.getElem?_replicate] at e
  split at e <;> cases e
theorem compD_cases {src : Src} {g : DG} {e : DE} {n i : Nat} {δ : DS} {S : Sto} {r : Rs (List D)} (h : compD src g e n i δ S = some r) :
  (src.get S i = some none ∧ r = .ok [] S) ∨ ∃ x m, n = m + 1 ∧ src.get S i = some (some x) ∧ bnd (g x δ S) (compK e (compD src g e m (i + 1))) = some r := by
 cases n with
 | zero =>
  unfold compD at h
  split at h
  ·rename_i e
   exact .inl ⟨e, (Option.some.inj h).symm⟩
  ·cases h
 | succ n =>
  unfold compD at h
  split at h
  ·rename_i e
   exact .inl ⟨e, (Option.some.inj h).symm⟩
  ·rename_i x e
   exact .inr ⟨x, n, rfl, e, h⟩
  ·cases h
section
variable {X : Cx} {E : XK} {N' : List Str} {scope : Scope}
theorem tF_comp {gi : DI} {k : Nat} {g : DG} {ge : DE} : ∀ σ H Q, tF (gx X) E (compE gi k g ge) σ H Q → tComp (tFI (gx X) E gi) (tFG (gx X) E0 g) (tF (gx X) E0 ge) k σ H Q := by
 intro σ H Q ⟨W, δ, rr, hS, hδ, hg, hA⟩
 refine Go.thn hS hδ hg hA fun src H1 W1 s1 hδ1 hg1 hA1 J hJ => ?_
 have q' : (if src.len W1.S ≤ 1000000 then bnd (noer (compD src g ge (src.len W1.S) 0 (δ ++ List.replicate k none) W1.S)) lstK else none) = some rr := hg1
 split at q'
 ·rename_i hsz
  rcases bnd_some q' with ⟨ds, S2, e2, q2⟩ | ⟨c, S2, e2, _⟩
  ·obtain ⟨ds', S2', e3, e4⟩ := noer_some e2
   cases e4
   refine ⟨fun i n vs σ2 H2 => i + n = src.len W1.S ∧ ∃ W2 δ2 ds1 ds2, Nxt (gx X) H1 W1 H2 W2 ∧ RepS (gx X) H2 W2 δ2 σ2 ∧ ds = ds1 ++ ds2 ∧ ds1.length = i ∧ RepL (gx X) H2 W2 ds1 vs ∧ compD src g ge n i δ2 W2.S = ok ds2 S2,
    ⟨src.len W1.S, by simp, W1, _, [], ds, .rfl s1.ok, hδ1.more k, rfl, rfl, rfl, e3⟩, ?_⟩
   rintro i n vs σ2 H2 ⟨hn, W2, δ2, ds1, ds2, s2, hδ2, hds, hl1, rl, hc⟩
   obtain ⟨w1, w2⟩ := hJ i H2 W2 s2
   rcases compD_cases hc with ⟨hend, hr⟩ | ⟨x, m, rfl, hx, hb⟩
   ·refine .inl ⟨w1 hend, fun p hp => ?_⟩
    cases hr
    rw [List.append_nil] at hds
    subst hds
    exact new_lst s2.ok q2 (hA1.nxt s2) rl hp
   ·obtain ⟨wg, wy⟩ := w2 x hx
    refine .inr ⟨wg, ?_, fun v H3 y => ?_⟩
    ·rw [← rl.length, hl1]
     exact Nat.lt_of_lt_of_le (by omega) (sz hsz)
    ·obtain ⟨W3, e3', s3, rx⟩ := wy v H3 y
     rcases bnd_some hb with ⟨δ4, S4, e4, q4⟩ | ⟨c, S4, _, q4⟩
     ·refine ⟨W3, δ2, x, .ok δ4 S4, s3.ok, hδ2.mv (s3.mv s2.ok), rx, by rw [e3']; exact e4, fun H4 W4 eS4 s4 σ4 hδ4 => ?_⟩
      rcases bnd_some (show bnd (ge δ4 S4) (compK2 (compD src g ge m (i + 1)) δ4) = some (Rs.ok ds2 S2) from q4) with ⟨d, S5, e5, q5⟩ | ⟨c, S5, _, q5⟩
      ·refine ⟨W4, δ4, .ok d S5, s4.ok, hδ4, by rw [eS4]; exact e5, fun H5 W5 eS5 s5 v' rv => ?_⟩
       rcases bnd_some (show bnd (compD src g ge m (i + 1) δ4 S5) (consK d) = some (Rs.ok ds2 S2) from q5) with ⟨ds3, S6, e6, q6⟩ | ⟨c, S6, _, q6⟩
       ·have q6' : Rs.ok (d :: ds3) S6 = Rs.ok ds2 S2 := Option.some.inj q6
        cases q6'
        refine ⟨m, Nat.lt_succ_self m, by omega, W5, δ4, ds1 ++ [d], ds3, ((s2.trans s3).trans s4).trans s5, hδ4.mv (s5.mv s4.ok), by rw [hds]; simp, by simp [hl1], ?_, by rw [eS5]; exact e6⟩
        exact (rl.mv (((s3.trans s4).trans s5).mv s2.ok)).append (RepL.one rv)
       ·cases q6
      ·cases q5
     ·cases q4
  ·obtain ⟨_, _, _, z⟩ := noer_some e2
   cases z
 ·cases q'
theorem pd_comp {elt iter tg : Expr} {pos : Pos} {gi : DI} {g : DG} {ge : DE} (k : Nat) (O : CompOk X.N X.env.scope N' scope) (hcal : X.calm = true) (hi : PDI X E tg iter gi)
  (hg : ∀ C s₃ H₃ ex pn, PDG (compCx X N' scope C s₃ H₃ ex pn) E0 tg g) (he : ∀ C s₃ H₃ ex pn, PDE (compCx X N' scope C s₃ H₃ ex pn) E0 elt ge)
  (hlen : X.N.length + k = N'.length := by rfl) (hs : ∀ x, foldedSetIterable iter X.env x = pure x := by intro _; rfl) : PDE X E (.ListComp elt [⟨tg, iter, [], 0⟩] scope pos) (compE gi k g ge) := by
 first
 | exact (
  PE.imp (pe_comp (g := tFG (gx X) E0 g) (te := tF (gx X) E0 ge) k O hcal hi hg he hlen hs) tF_comp)
 | ((try unfold PDE at *); (try unfold PDG at *); (try unfold PDI at *); exact (
  PE.imp (pe_comp (g := tFG (gx X) E0 g) (te := tF (gx X) E0 ge) k O hcal hi hg he hlen hs) tF_comp))
theorem pd_setComp (j : Nat) {elt iter tg : Expr} {pos spos py : Pos} {y : Str} {gi : DI} {g : DG} {ge : DE} (k : Nat) (O : CompOk X.N X.env.scope N' scope) (hcal : X.calm = true) (hi : PDI X E tg iter gi)
  (hg : ∀ C s₃ H₃ ex pn, PDG (compCx X N' scope C s₃ H₃ ex pn) E0 tg g) (he : ∀ C s₃ H₃ ex pn, PDE (compCx X N' scope C s₃ H₃ ex pn) E0 elt ge)
  (hN : X.N.Nodup) (hj : X.N[j]? = some y := by rfl) (hy : X.env.scope.names.lookup y = some .local := by rfl) (hsw : swapsWith (.ListComp elt [⟨tg, iter, [], 0⟩] scope pos) (some (.Name y py)) spos.line X.env = pure true := by rfl)
  (hlen : X.N.length + k = N'.length := by rfl) (hs : ∀ x, foldedSetIterable iter X.env x = pure x := by intro _; rfl) : PDS X E (.Assign [.Name y py] (.ListComp elt [⟨tg, iter, [], 0⟩] scope pos) spos) (setS j (compE gi k g ge)) := by
 try unfold PDE at *
 try unfold PDS at *
 try unfold PDG at *
 try unfold PDI at *
 refine PS.imp (ps_setComp (g := tFG (gx X) E0 g) (te := tF (gx X) E0 ge) k O hcal hi hg he hN hj hy hsw hlen hs) fun D σ H ⟨W, δ, rr, hS, hδ, hg', hA⟩ => ?_
 refine tF_comp σ H _ (Go.thn hS hδ hg' hA fun d H1 W1 s1 hδ1 hg1 hA1 v rv => ?_)
 obtain rfl : Rs.ok (Fl.nx (δ.set j (some d))) W1.S = rr := Option.some.inj hg1
 exact hA1.now s1.ok _ (hδ1.set j rv)
end
def Itz (K : PySem.W.Frag) (a b : Addr) : It :=
  ⟨fun i H => ∃ xs ys x y, SqL K H a xs ∧ SqL K H b ys ∧ xs[i]? = some x ∧ ys[i]? = some y,
   fun i H v H' => ∃ p x y, v = .ref p ∧ H p = none ∧ H' = upd H p (.tup [x, y]) ∧ (∀ xs, SqL K H a xs → xs[i]? = some x) ∧ ∀ ys, SqL K H b ys → ys[i]? = some y,
   fun i H => ∃ xs ys, SqL K H a xs ∧ SqL K H b ys ∧ (xs.length ≤ i ∨ ys.length ≤ i)⟩
theorem Inv.moved {X : Cx} {pins : List (Addr × Obj)} {σ : L2.St} {H : Hp} {s : Shared} {h' : Heap} {t' : Nat} {ch : List Addr} {p : Addr} {o : HO} (I : Inv X pins σ H s) (hch : ∀ b ∈ ch, FpOk X pins H b) (k : ∀ b u, b ∉ ch → s.heap.get? b = some u → h'.get? b = some u) (hp : s.heap.objs.size ≤ p)
  (new : ObjOk X.prog X.w (upd H p o) h' p o) : Inv X pins σ (upd H p o) { s with heap := h', toks := t' } := by
 have hn : H p = none := I.hok.fresh hp
 have nch : ∀ b u, H b = some u → b ∉ ch := fun b u e z => by rw [(hch b z).1] at e; cases e
 have ne : ∀ b u, H b = some u → b ≠ p := fun b u q => ne_of_none q hn
 refine I.step (g' := s.gens) (d' := s.drawn) (ch := ch) (fun b hb => ⟨(hch b hb).2.2.2.1, (hch b hb).2.1, (hch b hb).2.2.2.2.1, (hch b hb).2.2.2.2.2⟩) (fun b u _ _ hc e _ => k b u hc e) (fun b u _ _ hc e _ => ⟨u.slots, k b u hc e⟩)
  (fun b u hc e n => by rw [zO (Nat.ne_of_lt (Nat.lt_of_lt_of_le (Heap.lt_size e) hp))]; exact n) (fun b u hc e => ⟨u, k b u hc e⟩)
  (fun b xs q => by rw [zO (ne b _ q)]; exact q) (fun b u v q => by rw [zO (ne b _ q)]; exact q) (fun b ps q => ⟨#[], by rw [zO (ne b _ q), q]; simp⟩) (fun m hm => ?_) (fun b u q => ?_) I.bare
 ·obtain ⟨ob, es, ep, ho, r⟩ := hm
  refine ⟨ob, es, ep, k _ ob (fun z => (hch _ z).2.1 rfl) ho, r⟩
 ·by_cases hb : b = p
  ·subst hb
   rw [zW] at q
   cases q
   exact new
  ·rw [zO hb] at q
   refine (I.hok b u q).stay (fun c v hc z => k c v ?_ z) (fun c z => by rw [zO (ne c _ z)]; exact z) fun c xs z => by rw [zO (ne c _ z)]; exact z
   rcases hc with rfl | hc
   ·exact nch _ _ q
   ·exact nch _ _ hc
theorem turn_zip {P : Program} {w : World} {K : PySem.W.Frag} {elts : List Expr} {x1 : Nat} {tpos : Pos} {z TI TO i1 i2 l1 l2 : Addr} (D : ZipApart z TI TO i1 i2 l1 l2) :
  Turn P w K (.Tuple elts x1 tpos) (Itz K l1 l2) [z, TI, TO, i1, i2] z (fun i h => IsZip h z TI TO .none ∧ IsPair h TI (.ref i1) (.ref i2) ∧ (∃ a b, IsPair h TO a b) ∧ h.IsListIter i1 l1 i ∧ h.IsListIter i2 l2 i) where
 mem := by simp
 obj := fun i h st b hb => by
  obtain ⟨hz, hTI, ⟨u, v, hTO⟩, h1, h2⟩ := st
  simp only [List.mem_cons, List.not_mem_nil, or_false] at hb
  rcases hb with rfl | rfl | rfl | rfl | rfl
  ·exact ⟨_, hz, fun v q => by cases q⟩
  ·exact ⟨_, hTI, fun v q => by cases q⟩
  ·exact ⟨_, hTO, fun v q => by cases q⟩
  ·obtain ⟨o, e, c, d⟩ := h1
   exact ⟨o, e, fun v q => by rw [d] at q; cases q⟩
  ·obtain ⟨o, e, c, d⟩ := h2
   exact ⟨o, e, fun v q => by rw [d] at q; cases q⟩
 keep := fun i h h' st k => by
  obtain ⟨hz, hTI, ⟨u, v, hTO⟩, h1, h2⟩ := st
  exact ⟨k z (by simp) _ hz, k TI (by simp) _ hTI, ⟨u, v, k TO (by simp) _ hTO⟩, h1.at fun o e => k i1 (by simp) o e, h2.at fun o e => k i2 (by simp) o e⟩
 item := by
  intro X hP hw hK hc i pins s σ H E I hf st hg
  subst hP hw hK
  obtain ⟨hz, hTI, ⟨u, v, hTO⟩, h1, h2⟩ := st
  obtain ⟨xs, ys, x, y, hqx, hqy, hx, hy⟩ := hg
  obtain ⟨its, rx, px, zx⟩ := I.list hqx
  obtain ⟨jts, ry, py, zy⟩ := I.list hqy
  obtain ⟨ux, hux, rux⟩ := rx.get hx
  obtain ⟨uy, huy, ruy⟩ := ry.get hy
  refine wpAny_pyNext_zip_item D hz hTI hTO h1 h2 px.isList py.isList (x := ux) (y := uy) (by simpa using hux) (by simpa using huy) fun h' a1 a2 a3 a4 a5 a6 hk => ?_
  refine ⟨_, rfl, wpAny_letOwnedTupleGo_zip a1 fun h'' hz' hs' => ?_⟩
  have hTn : s.heap.objs.size ≠ z := Nat.ne_of_gt (Heap.lt_size hz)
  have kk : ∀ b o, b ∉ [z, TI, TO, i1, i2] → s.heap.get? b = some o → h''.get? b = some o := fun b o hb e => by
   simp only [List.mem_cons, List.not_mem_nil, or_false, not_or] at hb
   exact hs'.extBut _ _ hb.1 (hk b o hb.1 hb.2.2.1 hb.2.2.2.1 hb.2.2.2.2 e)
  have hp5 : IsPair h'' s.heap.objs.size ux uy := hs'.extBut _ _ hTn a5
  have new : ObjOk X.prog X.w (upd H s.heap.objs.size (.tup [x, y])) h'' s.heap.objs.size (.tup [x, y]) := ⟨by show 2 ≤ sizeLine; decide, [ux, uy], .cons rux (.cons ruy .nil), ⟨_, hp5, rfl, _, rfl⟩⟩
  have I5 := Inv.moved (s := s) (h' := h'') (t' := s.toks) I hf kk (Nat.le_refl _) new
  refine ⟨.ref s.heap.objs.size, upd H s.heap.objs.size (.tup [x, y]), I5, rfl, ⟨s.heap.objs.size, x, y, rfl, I.hok.fresh (Nat.le_refl _), rfl, fun ws hws => by rw [I.list_inj hws hqx]; exact hx, fun ws hws => by rw [I.list_inj hws hqy]; exact hy⟩, ?_, fun b hb => ?_⟩
  ·exact ⟨hz', hs'.extBut _ _ D.TIz (hk _ _ D.TIz D.TITO D.TIi1 D.TIi2 hTI), ⟨_, _, hs'.extBut _ _ D.TOz a2⟩, a3.extBut hs'.extBut D.i1z, a4.extBut hs'.extBut D.i2z⟩
  ·have hlt : b < s.heap.objs.size := by
    simp only [List.mem_cons, List.not_mem_nil, or_false] at hb
    rcases hb with rfl | rfl | rfl | rfl | rfl
    ·exact Heap.lt_size hz
    ·exact Heap.lt_size hTI
    ·exact Heap.lt_size hTO
    ·obtain ⟨o, e, _⟩ := h1; exact Heap.lt_size e
    ·obtain ⟨o, e, _⟩ := h2; exact Heap.lt_size e
   rw [zO (Nat.ne_of_lt hlt)]
   exact (hf b hb).1
 done := by
  intro X hP hw hK hc i pins s σ H E I hf st hg
  subst hP hw hK
  obtain ⟨hz, hTI, ⟨u, v, hTO⟩, h1, h2⟩ := st
  obtain ⟨xs, ys, hqx, hqy, hend⟩ := hg
  obtain ⟨its, rx, px, zx⟩ := I.list hqx
  obtain ⟨jts, ry, py, zy⟩ := I.list hqy
  have lx := rx.length
  have ly := ry.length
  refine wpAny_pyNext_zip_end (I.ok.hd hc) D hz hTI hTO h1 h2 px.isList py.isList (by
   rcases hend with z | z
   ·exact .inl (by simp; omega)
   ·exact .inr (by simp; omega)) fun h' hk => ⟨rfl, ?_⟩
  have nch : ∀ b u, H b = some u → b ∉ [z, TI, TO, i1, i2] := fun b u e zz => by rw [(hf b zz).1] at e; cases e
  have kk : ∀ b o, b ∉ [z, TI, TO, i1, i2] → s.heap.get? b = some o → h'.get? b = some o := fun b o hb e => by
   simp only [List.mem_cons, List.not_mem_nil, or_false, not_or] at hb
   exact hk b o hb.1 hb.2.2.1 hb.2.2.2.1 hb.2.2.2.2 e
  refine I.step (g' := s.gens) (d' := s.drawn) (t' := s.toks) (ch := [z, TI, TO, i1, i2]) (fun b hb => ⟨(hf b hb).2.2.2.1, (hf b hb).2.1, (hf b hb).2.2.2.2.1, (hf b hb).2.2.2.2.2⟩) (fun b u _ _ hc e _ => kk b u hc e) (fun b u _ _ hc e _ => ⟨u.slots, kk b u hc e⟩)
   (fun _ _ _ _ n => n) (fun b u hc e => ⟨u, kk b u hc e⟩) (fun _ _ q => q) (fun _ _ _ q => q) (fun b ps q => ⟨#[], by rw [q]; simp⟩) (fun m hm => ?_) (fun b u q => ?_) I.bare
  ·obtain ⟨ob, es, ep, ho, r⟩ := hm
   exact ⟨ob, es, ep, kk _ ob (fun z => (hf _ z).2.1 rfl) ho, r⟩
  ·refine (I.hok b u q).stay (fun c v hc zz => kk c v ?_ zz) (fun c zz => zz) fun c xs zz => zz
   rcases hc with rfl | hc
   ·exact nch _ _ q
   ·exact nch _ _ hc
 self := fun _ _ _ _ _ st h => wpAny_pyIter_zip st.1 h
section
variable {X : Cx} {E : XK}
def iZip (K : PySem.W.Frag) (ta : TA) : TI := fun σ H R => ta σ H fun vs H1 => ∃ a b, vs = [.ref a, .ref b] ∧ (∃ xs, SqL K H1 a xs) ∧ (∃ ys, SqL K H1 b ys) ∧ R (Itz K a b) H1
theorem boot_zip : bootBuiltins "zip" = some (.type "zip") := by decide +kernel
theorem pi_zip {a b : Expr} {ta : TA} {p pos tpos : Pos} {elts : List Expr} {x1 : Nat} (hg : Gl X "zip") (hm : X.mg "zip" = none) (ha : PA X [a, b] ta) (hs : starEach [a, b] X.env = (false, eval a X.env) :: starEach [b] X.env) (hs2 : (backTo pos (starEach [b] X.env)).any (·.1) = false) :
  PI X (.Tuple elts x1 tpos) (.Call (.Name "zip" p) [a, b] [] pos) (iZip X.K ta) := by
 intro pins s σ H R I h
 refine Call_ (ld_blt I hg hm boot_zip (PyProof.Rows.callWith_type1 (thn (ha pos pins s σ H _ I h) fun us s1 ⟨vs, H1, I1, r1, q1⟩ => ?_) hs hs2))
 obtain ⟨l1, l2, e, ⟨xs, hqx⟩, ⟨ys, hqy⟩, q⟩ := q1
 subst e
 obtain ⟨u, v, rfl, ru, rv⟩ := Vals.two r1
 cases ru
 cases rv
 obtain ⟨its, rx, px, zx⟩ := I1.list hqx
 obtain ⟨jts, ry, py, zy⟩ := I1.list hqy
 refine call_zip_2 px.isList py.isList fun h' a1 a2 a3 a4 a5 a6 hk => wpAny_pyIter_zip a1 ?_
 have I2 : Inv X pins σ H1 { s1 with heap := h' } := I1.kept (t' := s1.toks) hk
 have lt1 : l1 < s1.heap.objs.size := by obtain ⟨o, e, _⟩ := px.isList; exact Heap.lt_size e
 have lt2 : l2 < s1.heap.objs.size := by obtain ⟨o, e, _⟩ := py.isList; exact Heap.lt_size e
 generalize hn : s1.heap.objs.size = n at *
 have w1 : ∀ m : Nat, n ≤ m → l1 ≠ m := fun m h => Nat.ne_of_lt (Nat.lt_of_lt_of_le lt1 h)
 have w2 : ∀ m : Nat, n ≤ m → l2 ≠ m := fun m h => Nat.ne_of_lt (Nat.lt_of_lt_of_le lt2 h)
 have D : ZipApart (n + 4) (n + 2) (n + 3) n (n + 1) l1 l2 := by
  constructor <;> first
   | exact w1 _ (by show (_ : Nat) ≤ _; omega)
   | exact w2 _ (by show (_ : Nat) ≤ _; omega)
   | (show (_ : Nat) ≠ _; omega)
 refine ⟨n + 4, [n + 4, n + 2, n + 3, n, n + 1], _, _, H1, rfl, I2, turn_zip D, ⟨a1, a2, ⟨_, _, a3⟩, a4, a5⟩, fun b hb => ?_, q⟩
 have hb' : n ≤ b := by
  simp only [List.mem_cons, List.not_mem_nil, or_false] at hb
  rcases hb with rfl | rfl | rfl | rfl | rfl <;> (show (_ : Nat) ≤ _; omega)
 exact I1.fpOk (by rw [hn]; exact hb') (I1.hok.fresh (by rw [hn]; exact hb'))
theorem two_some {a b : Nat} {S : Sto} {i : Nat} {o : Option D} (h : (Src.two a b).get S i = some o) : ∃ ds es, zH S a = some ds ∧ zH S b = some es ∧ two1 ds[i]? es[i]? = o := by
 have h' : (match zH S a, zH S b with | some xs, some ys => some (two1 xs[i]? ys[i]?) | _, _ => none) = some o := h
 cases q : zH S a with
 | none => rw [q] at h'; cases h'
 | some ds =>
  cases q2 : zH S b with
  | none => rw [q, q2] at h'; cases h'
  | some es => rw [q, q2] at h'; exact ⟨ds, es, rfl, rfl, Option.some.inj h'⟩
theorem two1_some {x y : Option D} {d : D} (h : two1 x y = some d) : ∃ u v, x = some u ∧ y = some v ∧ d = .tup [u, v] := by
 cases x with
 | none => cases h
 | some u =>
  cases y with
  | none => cases h
  | some v => exact ⟨u, v, rfl, rfl, (Option.some.inj h).symm⟩
theorem two1_none {x y : Option D} (h : two1 x y = none) : x = none ∨ y = none := by
 cases x with
 | none => exact .inl rfl
 | some u =>
  cases y with
  | none => exact .inr rfl
  | some v => cases h
theorem walks_zip {G : Gx} {H : Hp} {W : Wd} {a b : Nat} (ha : a < W.S.length) (hb : b < W.S.length) : Walks G (Itz G.K (W.μ a) (W.μ b)) H W (.two a b) := fun i H1 W1 s1 => by
 refine ⟨fun h => ?_, fun d hd => ?_⟩
 ·obtain ⟨ds, es, ea, eb, hn⟩ := two_some h
  obtain ⟨xs, _, qx, rx⟩ := s1.ok.lst (v := .ref (W1.μ a)) ⟨Nat.lt_of_lt_of_le ha s1.len, rfl⟩ ea
  obtain ⟨ys, _, qy, ry⟩ := s1.ok.lst (v := .ref (W1.μ b)) ⟨Nat.lt_of_lt_of_le hb s1.len, rfl⟩ eb
  rw [s1.old a ha] at qx
  rw [s1.old b hb] at qy
  refine ⟨xs, ys, .inl (.inl qx), .inl (.inl qy), ?_⟩
  rcases two1_none hn with h | h
  ·exact .inl (by rw [← rx.length]; exact List.getElem?_eq_none_iff.mp h)
  ·exact .inr (by rw [← ry.length]; exact List.getElem?_eq_none_iff.mp h)
 ·obtain ⟨ds, es, ea, eb, hn⟩ := two_some hd
  obtain ⟨xs, _, qx, rx⟩ := s1.ok.lst (v := .ref (W1.μ a)) ⟨Nat.lt_of_lt_of_le ha s1.len, rfl⟩ ea
  obtain ⟨ys, _, qy, ry⟩ := s1.ok.lst (v := .ref (W1.μ b)) ⟨Nat.lt_of_lt_of_le hb s1.len, rfl⟩ eb
  rw [s1.old a ha] at qx
  rw [s1.old b hb] at qy
  obtain ⟨u, v, hu, hv, rfl⟩ := two1_some hn
  obtain ⟨vx, ex, rvx⟩ := rx.get hu
  obtain ⟨vy, ey, rvy⟩ := ry.get hv
  refine ⟨⟨xs, ys, vx, vy, .inl (.inl qx), .inl (.inl qy), ex, ey⟩, fun z H3 hz => ?_⟩
  obtain ⟨p, x', y', rfl, hp, rfl, k1, k2⟩ := hz
  have e1 := k1 xs (.inl (.inl qx))
  have e2 := k2 ys (.inl (.inl qy))
  rw [ex] at e1
  rw [ey] at e2
  cases e1
  cases e2
  have sn := Nxt.heap s1.ok hp (HO.tup [vx, vy])
  exact ⟨W1, rfl, sn, p, _, rfl, SqT.of zW, ⟨vx, _, rfl, rvx.mv (sn.mv s1.ok), ⟨vy, _, rfl, rvy.mv (sn.mv s1.ok), rfl⟩⟩⟩
theorem pdi_zip {a b : Expr} {ga gb : DE} {p pos tpos : Pos} {elts : List Expr} {x1 : Nat} (hg : Gl X "zip") (hm : X.mg "zip" = none) (ha : PDE X E a ga) (hb : PDE X E b gb) (hs : starEach [a, b] X.env = (false, eval a X.env) :: starEach [b] X.env := by rfl) (hs2 : (backTo pos (starEach [b] X.env)).any (·.1) = false := by rfl)
  (hst2 : starEach (b :: []) X.env = (false, eval b X.env) :: starEach [] X.env := by rfl) : PDI X E (.Tuple elts x1 tpos) (.Call (.Name "zip" p) [a, b] [] pos) (itA zip2D (yF ga (yF gb aNil))) := by
 try unfold PDE
 try unfold PDI at *
 intro pins s σ H R I ⟨W, δ, rr, hS, hδ, hg', hA⟩
 refine pi_zip hg hm (zB ha (zB hb zE hst2) hs).o hs hs2 pins s σ H R I (Go.thn hS hδ hg' hA fun ds H1 W1 s1 hδ1 hg1 hA1 vs rv => ?_)
 unfold zip2D at hg1
 split at hg1
 ·rename_i a b
  split at hg1
  ·rename_i xs ys ea eb
   obtain rfl : Rs.ok (Src.two a b) W1.S = rr := Option.some.inj hg1
   obtain ⟨v, r, e, rx, t⟩ := rv
   obtain ⟨v2, r2, e2, ry, t2⟩ := t
   have t2 : r2 = [] := t2
   obtain ⟨us, eu, qu, _⟩ := s1.ok.lst rx ea
   obtain ⟨ws, ew, qw, _⟩ := s1.ok.lst ry eb
   subst e e2 eu ew t2
   exact ⟨_, _, rfl, ⟨us, .inl (.inl qu)⟩, ⟨ws, .inl (.inl qw)⟩, hA1.now s1.ok _ (walks_zip rx.1 ry.1)⟩
  ·cases hg1
 ·cases hg1
end
end Np
end
section
namespace Np
open PySem PySem.Spec PyProof.Rows L2
theorem put_lst {G : Gx} {H : Hp} {W : Wd} {E : XK} {Q : VK} {ds : List D} {vs : List V} {a : Nat} (hS : StOk G H W) (ha : a < W.S.length) (hA : After G E H W (.ok D.non (W.S.set a (.lst ds))) (VP G Q)) (rl : RepL G H W ds vs) : Q .non (upd H (W.μ a) (.lst vs)) :=
 hA _ (W.put a (.lst ds)) rfl (Nxt.write hS ha ⟨vs, zW, rl.mv (Mv.put hS ha _ _)⟩) .non rfl
section
variable {X : Cx} {E : XK} {o e e2 : Expr} {go ge ge2 : DE} {apos cpos : Pos}
theorem isL_true {x : D} {S : Sto} (h : isL x S = true) : ∃ a xs, x = .ref a ∧ zH S a = some xs := by
 cases x with
 | ref a =>
  have h : (zH S a).isSome = true := h
  obtain ⟨xs, e⟩ := Option.isSome_iff_exists.mp h
  exact ⟨a, xs, rfl, e⟩
 | _ => cases h
theorem tyV_list {K : PySem.W.Frag} {H : Hp} {p : Addr} {xs : List V} (h : H p = some (.lst xs)) : tyV K "list" (.ref p) H := .inl ⟨rfl, xs, .inl (.inl h)⟩
theorem tF_meth {r : V → List V → Hp → VK → Prop} {f : D → D → Sto → R D} (hf : ∀ (E : XK) (H : Hp) (W : Wd) (x y : V) (dx dy : D) (Q : VK) (rr : Rs D), StOk (gx X) H W → Rep (gx X) H W dx x → Rep (gx X) H W dy y → f dx dy W.S = some rr → After (gx X) E H W rr (VP (gx X) Q) → r x [y] H Q) :
  ∀ σ H Q, tF (gx X) E (opM f go ge) σ H Q → tBM X.K "list" r (tF (gx X) E go) (tFA (gx X) E (yF ge aNil)) σ H Q := by
 intro σ H Q ⟨W, δ, rr, hS, hδ, hg, hA⟩
 refine Go.thn hS hδ hg hA fun dx H1 W1 s1 hδ1 hg1 hA1 x rx => ?_
 unfold opMK at hg1
 split at hg1
 ·rename_i hl
  obtain ⟨a, xs, rfl, el⟩ := isL_true hl
  obtain ⟨us, ex, hq, rl⟩ := s1.ok.lst rx el
  subst ex
  refine ⟨tyV_list hq, ?_⟩
  rcases bnd_some hg1 with ⟨dy, S2, e2, q2⟩ | ⟨c, S2, e2, q2⟩
  ·refine ⟨W1, δ, .ok [dy] S2, s1.ok, hδ1, by show bnd (ge δ W1.S) (aConsK aNil δ) = _; rw [e2]; rfl, fun H2 W2 eS s2 vs rvs => ?_⟩
   obtain ⟨y, r', rfl, ry, t⟩ := rvs
   have t : r' = [] := t
   subst t
   subst eS
   exact hf E H2 W2 _ y (.ref a) dy Q rr s2.ok (Rep.mv (s2.mv s1.ok) rx) ry q2 (hA1.nxt s2)
  ·subst q2
   exact ⟨W1, δ, .er c S2, s1.ok, hδ1, by show bnd (ge δ W1.S) (aConsK aNil δ) = _; rw [e2]; rfl, hA1⟩
 ·cases hg1
theorem md_append (E : XK) (H : Hp) (W : Wd) (x y : V) (dx dy : D) (Q : VK) (rr : Rs D) (hS : StOk (gx X) H W) (rx : Rep (gx X) H W dx x) (ry : Rep (gx X) H W dy y) (e : appD dx dy W.S = some rr) (hA : After (gx X) E H W rr (VP (gx X) Q)) : rAppend x [y] H Q := by
 unfold appD at e
 split at e
 ·rename_i a
  split at e
  ·rename_i xs hx
   split at e
   ·rename_i hl
    obtain rfl : Rs.ok D.non (W.S.set a (.lst (xs ++ [dy]))) = rr := Option.some.inj e
    obtain ⟨us, ex, hq, rl⟩ := hS.lst rx hx
    exact ⟨_, us, y, ex, rfl, hq, by rw [← rl.length]; exact Nat.lt_of_lt_of_le hl (sz (Nat.le_refl _)), put_lst hS rx.1 hA (rl.append (RepL.one ry))⟩
   ·cases e
  ·cases e
 ·cases e
theorem md_extend (E : XK) (H : Hp) (W : Wd) (x y : V) (dx dy : D) (Q : VK) (rr : Rs D) (hS : StOk (gx X) H W) (rx : Rep (gx X) H W dx x) (ry : Rep (gx X) H W dy y) (e : extD dx dy W.S = some rr) (hA : After (gx X) E H W rr (VP (gx X) Q)) : rExtend x [y] H Q := by
 unfold extD at e
 split at e
 ·rename_i a b
  split at e
  ·rename_i xs ys hx hy
   split at e
   ·rename_i hl
    obtain rfl : Rs.ok D.non (W.S.set a (.lst (xs ++ ys))) = rr := Option.some.inj e
    obtain ⟨us, ex, hq, rl⟩ := hS.lst rx hx
    obtain ⟨ws, ey, hq2, rl2⟩ := hS.lst ry hy
    subst ey
    exact ⟨_, _, us, ws, ex, rfl, hq, hq2, by rw [← rl.length, ← rl2.length]; exact sz hl, put_lst hS rx.1 hA (rl.append rl2)⟩
   ·cases e
  ·cases e
 ·cases e
theorem pd_append (ho : PDE X E o go) (he : PDE X E e ge) (hbase : attributeBase o "append" X.env (eval o X.env) = eval o X.env := by rfl)
  (hfew : ((backTo cpos (starEach (e :: []) X.env)).all (fun x => !x.1) && (backToKw cpos (keywordEach [] X.env)).all (fun x => x.1.isSome) && decide ((e :: []).length + ([] : List Keyword).length + (if ([] : List Keyword).isEmpty then 0 else 1) < 30)) = true := by rfl)
  (hline : (apos.endLine == cpos.line) = true := by rfl) (hs : starEach (e :: []) X.env = (false, eval e X.env) :: starEach [] X.env := by rfl) (hplain : (backTo cpos (starEach [] X.env)).any (·.1) = false := by rfl) :
  PDE X E (.Call (.Attribute o "append" apos) [e] [] cpos) (opM appD go ge) := by
 first
 | exact (
  PE.imp (pe_bm PySem.F.plainAttrs_list PySem.F.slot_list_append PySem.F.type_list_append mt_append ho.o (zB he zE hs).o hbase hfew hline hs hplain) (tF_meth md_append))
 | ((try unfold PDE); exact (
  PE.imp (pe_bm PySem.F.plainAttrs_list PySem.F.slot_list_append PySem.F.type_list_append mt_append ho.o (zB he zE hs).o hbase hfew hline hs hplain) (tF_meth md_append)))
theorem pd_extend (ho : PDE X E o go) (he : PDE X E e ge) (hbase : attributeBase o "extend" X.env (eval o X.env) = eval o X.env := by rfl)
  (hfew : ((backTo cpos (starEach (e :: []) X.env)).all (fun x => !x.1) && (backToKw cpos (keywordEach [] X.env)).all (fun x => x.1.isSome) && decide ((e :: []).length + ([] : List Keyword).length + (if ([] : List Keyword).isEmpty then 0 else 1) < 30)) = true := by rfl)
  (hline : (apos.endLine == cpos.line) = true := by rfl) (hs : starEach (e :: []) X.env = (false, eval e X.env) :: starEach [] X.env := by rfl) (hplain : (backTo cpos (starEach [] X.env)).any (·.1) = false := by rfl) :
  PDE X E (.Call (.Attribute o "extend" apos) [e] [] cpos) (opM extD go ge) := by
 first
 | exact (
  PE.imp (pe_bm PySem.F.plainAttrs_list PySem.F.slot_list_extend PySem.F.type_list_extend mt_extend ho.o (zB he zE hs).o hbase hfew hline hs hplain) (tF_meth md_extend))
 | ((try unfold PDE); exact (
  PE.imp (pe_bm PySem.F.plainAttrs_list PySem.F.slot_list_extend PySem.F.type_list_extend mt_extend ho.o (zB he zE hs).o hbase hfew hline hs hplain) (tF_meth md_extend)))
def tFO (G : Gx) (E : XK) (g : DO) : TO := fun σ H Q => Go G E g (fun i H' _ => Q i H') σ H
@[irreducible] def PDO (X : Cx) (E : XK) (e : Option Expr) (g : DO) : Prop := PO X e (tFO (gx X) E g)
theorem PO.imp {X : Cx} {e : Option Expr} {t t' : TO} (h : PO X e t) (hi : ∀ σ H Q, t' σ H Q → t σ H Q) : PO X e t' := fun pins s σ H Q I q => h pins s σ H Q I (hi σ H Q q)
theorem pdo_no : PDO X E none noP := by
 first
 | exact (
  PO.imp po_none fun σ H Q ⟨W, δ, rr, hS, hδ, hg, hA⟩ => by
   obtain rfl : Rs.ok none W.S = rr := Option.some.inj hg
   exact hA.now hS)
 | ((try unfold PDO at *); exact (
  PO.imp po_none fun σ H Q ⟨W, δ, rr, hS, hδ, hg, hA⟩ => by
   obtain rfl : Rs.ok none W.S = rr := Option.some.inj hg
   exact hA.now hS))
theorem pdo_at (he : PDE X E e ge) : PDO X E (some e) (atP ge) := by
 first
 | exact (
  PO.imp (po_some he) fun σ H Q ⟨W, δ, rr, hS, hδ, hg, hA⟩ => by
   refine Go.thn hS hδ hg hA fun d H1 W1 s1 hδ1 hg1 hA1 v rv => ?_
   cases d with
   | int i =>
    obtain rfl : Rs.ok (some i) W1.S = rr := Option.some.inj hg1
    exact ⟨i, rv, hA1.now s1.ok⟩
   | _ => cases hg1)
 | ((try unfold PDE at *); (try unfold PDO at *); exact (
  PO.imp (po_some he) fun σ H Q ⟨W, δ, rr, hS, hδ, hg, hA⟩ => by
   refine Go.thn hS hδ hg hA fun d H1 W1 s1 hδ1 hg1 hA1 v rv => ?_
   cases d with
   | int i =>
    obtain rfl : Rs.ok (some i) W1.S = rr := Option.some.inj hg1
    exact ⟨i, rv, hA1.now s1.ok⟩
   | _ => cases hg1))
theorem RepL.cut {G : Gx} {H : Hp} {W : Wd} {ds : List D} {vs : List V} (h : RepL G H W ds vs) (lo hi : Option Int) : RepL G H W (cutD ds lo hi) (cutV vs lo hi) := by
 have e : ∀ (n d : Nat) (o : Option Int), sIxD n d o = HT.sIx n d o := fun n d o => by cases o <;> rfl
 unfold cutD cutV
 rw [e, e, h.length]
 exact (h.drop _).take _
theorem pd_slice {lo hi : Option Expr} {gl gh : DO} {p2 pos : Pos} (he : PDE X E e ge) (hl : PDO X E lo gl) (hh : PDO X E hi gh) : PDE X E (.Subscript e (.Slice lo hi none p2) pos) (slE ge gl gh) := by
 try unfold PDE at *
 try unfold PDO at *
 refine PE.imp (pe_slice (SlR.or sl_list sl_tup) he hl hh) fun σ H Q ⟨W, δ, rr, hS, hδ, hg, hA⟩ => ?_
 refine Go.thn hS hδ hg hA fun dx H1 W1 s1 hδ1 hg1 hA1 x rx => ?_
 refine Go.thn s1.ok hδ1 hg1 hA1 fun l H2 W2 s2 hδ2 hg2 hA2 => ?_
 refine Go.thn s2.ok hδ2 hg2 hA2 fun h H3 W3 s3 hδ3 hg3 hA3 => ?_
 have rx3 := Rep.mv ((s2.trans s3).mv s1.ok) rx
 have hg3 : slD dx l h W3.S = some rr := hg3
 unfold slD at hg3
 split at hg3
 ·split at hg3
  ·rename_i xs hx
   obtain ⟨us, ex, hq, rl⟩ := s3.ok.lst rx3 hx
   exact .inl ⟨_, us, ex, .inl (.inl hq), fun p hp => new_lst s3.ok hg3 hA3 (rl.cut l h) hp⟩
  ·cases hg3
 ·rename_i xs
  obtain ⟨a, us, ex, q, rl⟩ := rx3
  exact .inl ⟨a, us, ex, q.sq, fun p hp => new_lst s3.ok hg3 hA3 (rl.cut l h) hp⟩
 ·rename_i xs _
  obtain ⟨a, us, ex, q, rl⟩ := rx3
  split at hg3
  ·cases hg3
  ·rename_i hw
   obtain rfl : Rs.ok (D.tup (cutD xs l h)) W3.S = rr := Option.some.inj hg3
   have e : ∀ (n d : Nat) (o : Option Int), sIxD n d o = HT.sIx n d o := fun n d o => by cases o <;> rfl
   rw [e, e, rl.length] at hw
   exact .inr ⟨a, us, ex, q, hw, fun p hp => hA3 _ W3 rfl (Nxt.heap s3.ok hp _) _ ⟨p, _, rfl, SqT.of zW, (rl.cut l h).mv (Mv.heap hp _)⟩⟩
 ·cases hg3
theorem pdg_sub {pos : Pos} (ho : PDE X E o go) (he : PDE X E e ge)
  (ha : ∀ v, assign (.Subscript o e pos) X.env v = (do
   let ov ← holding [v] (eval o X.env)
   let iv ← holding [v, ov] (eval e X.env)
   standAt pos
   holding [v, ov, iv] (setItem ov iv v)
   release [v, ov, iv] []) := by intro _; rfl) : PDG X E (.Subscript o e pos) (setXG go ge) := by
 try unfold PDE at *
 try unfold PDG at *
 intro pins s σ H v u Q I rv h
 obtain ⟨W, δ, d, rr, hS, hδ, hd, hg, hA⟩ := h
 refine pg_sub ho he set_list ha pins s σ H v u Q I rv ?_
 refine Go.thn hS hδ hg hA fun dx H1 W1 s1 hδ1 hg1 hA1 x rx => ?_
 refine Go.thn s1.ok hδ1 hg1 hA1 fun di H2 W2 s2 hδ2 hg2 hA2 i ri => ?_
 have rx2 := Rep.mv (s2.mv s1.ok) rx
 have rd2 := Rep.mv (((s1.trans s2)).mv hS) hd
 unfold setXA at hg2
 split at hg2
 ·rename_i a j
  split at hg2
  ·rename_i xs hx
   split at hg2
   ·rename_i k hk
    obtain rfl : Rs.ok δ (W2.S.set a (.lst (xs.set k d))) = rr := Option.some.inj hg2
    obtain ⟨us, ex, hq, rl⟩ := s2.ok.lst rx2 hx
    refine ⟨_, us, j, k, ex, ri, hq, by rw [← rl.length]; exact hk, ?_⟩
    have nx : Nxt (gx X) H2 W2 (upd H2 (W2.μ a) (.lst (us.set k v))) (W2.put a (.lst (xs.set k d))) := Nxt.write s2.ok rx2.1 ⟨_, zW, (rl.set rd2 k).mv (Mv.put s2.ok rx2.1 _ _)⟩
    exact hA2 _ _ rfl nx σ (hδ2.mv (nx.mv s2.ok))
   ·cases hg2
  ·cases hg2
 ·cases hg2
variable {a b c : Expr} {ga gb gc : DE} {pos : Pos}
theorem tF_chain {r r' : R2} {f f' : D → D → Sto → R D} (hf : OpD (gx X) r f) (hf' : OpD (gx X) r' f') : ∀ σ H Q, tF (gx X) E (chn f f' ga gb gc) σ H Q → tChain r r' (tF (gx X) E ga) (tF (gx X) E gb) (tF (gx X) E gc) σ H Q := by
 intro σ H Q ⟨W, δ, rr, hS, hδ, hg, hA⟩
 refine Go.thn hS hδ hg hA fun dx H1 W1 s1 hδ1 hg1 hA1 x rx => ?_
 refine Go.thn s1.ok hδ1 hg1 hA1 fun dy H2 W2 s2 hδ2 hg2 hA2 y ry => ?_
 have rx2 := Rep.mv (s2.mv s1.ok) rx
 rcases bnd_some (show bnd (f dx dy W2.S) (chnT f' gc δ dy) = some rr from hg2) with ⟨t, S3, e3, q3⟩ | ⟨c, S3, e3, q3⟩
 ·refine hf E H2 W2 x y dx dy _ (.ok t S3) s2.ok rx2 ry e3 fun H3 W3 eS s3 z rz => ?_
  subst eS
  cases t with
  | bl k =>
   refine ⟨k, rz, ?_⟩
   cases k with
   | true =>
    rw [if_pos rfl]
    refine Go.thn s3.ok (hδ2.mv (s3.mv s2.ok)) (show bnd (gc δ W3.S) (f' dy) = some rr from q3) (hA2.nxt s3) fun dw H4 W4 s4 hδ4 hg4 hA4 w rw' => ?_
    exact hf' E H4 W4 y w dy dw Q rr s4.ok (Rep.mv ((s3.trans s4).mv s2.ok) ry) rw' hg4 hA4
   | false =>
    rw [if_neg (by decide)]
    obtain rfl : Rs.ok (D.bl false) W3.S = rr := Option.some.inj q3
    exact (hA2.nxt s3).now s3.ok _ rfl
  | _ => cases q3
 ·subst q3
  exact hf E H2 W2 x y dx dy _ (.er c S3) s2.ok rx2 ry e3 hA2
theorem pd_chain {op op' : CmpOp} {r r' : R2} {f f' : D → D → Sto → R D} (ho : OpR X (compareOp op) r) (hf : OpD (gx X) r f) (ho' : OpR X (compareOp op') r') (hf' : OpD (gx X) r' f') (ha : PDE X E a ga) (hb : PDE X E b gb) (hc : PDE X E c gc)
  (hm : lastMarks [op, op'] [b, c] = false := by with_unfolding_all rfl) : PDE X E (.Compare a [op, op'] [b, c] pos) (chn f f' ga gb gc) := by
 first
 | exact (
  PE.imp (pe_chain ho ho' ha hb hc hm) (tF_chain hf hf'))
 | ((try unfold PDE at *); exact (
  PE.imp (pe_chain ho ho' ha hb hc hm) (tF_chain hf hf')))
theorem cd_lof {G : Gx} : CallD G (fun xs H Q => ∃ p ys, xs = [.ref p] ∧ (SqL G.K H p ys ∨ SqT G.K H p ys) ∧ ∀ l, H l = none → Q (.ref l) (upd H l (.lst ys))) lofD := by
 intro E H W vs ds Q rr hS rl e hA
 unfold lofD at e
 split at e
 ·rename_i a
  split at e
  ·rename_i xs hx
   obtain ⟨v, r, rfl, rx, t⟩ := rl
   have t : r = [] := t
   subst t
   obtain ⟨us, ex, hq, rl⟩ := hS.lst rx hx
   subst ex
   exact ⟨_, us, rfl, .inl (.inl (.inl hq)), fun p hp => new_lst hS e hA rl hp⟩
  ·cases e
 ·rename_i xs
  obtain ⟨v, r, rfl, ⟨a, us, rfl, q, rl⟩, t⟩ := rl
  have t : r = [] := t
  subst t
  exact ⟨a, us, rfl, .inl q.sq, fun p hp => new_lst hS e hA rl hp⟩
 ·rename_i xs
  obtain ⟨v, r, rfl, ⟨a, us, rfl, q, rl⟩, t⟩ := rl
  have t : r = [] := t
  subst t
  exact ⟨a, us, rfl, .inr q, fun p hp => new_lst hS e hA rl hp⟩
 ·cases e
theorem cd_int {G : Gx} : CallD G (fun xs H Q => (∃ i, xs = [.int i] ∧ Q (.int i) H) ∨ ∃ k, xs = [.bl k] ∧ Q (.int (if k then 1 else 0)) H) intD := by
 intro E H W vs ds Q rr hS rl e hA
 unfold intD at e
 split at e
 ·rename_i i
  obtain rfl : Rs.ok (D.int i) W.S = rr := Option.some.inj e
  obtain ⟨v, r, rfl, q, t⟩ := rl
  have q : v = .int i := q
  have t : r = [] := t
  subst q t
  exact .inl ⟨i, rfl, hA.now hS _ rfl⟩
 ·rename_i i
  obtain rfl : Rs.ok (D.int (if i = true then 1 else 0)) W.S = rr := Option.some.inj e
  obtain ⟨v, r, rfl, q, t⟩ := rl
  have q : v = .bl i := q
  have t : r = [] := t
  subst q t
  exact .inr ⟨i, rfl, hA.now hS _ rfl⟩
 ·cases e
def rDvm : List V → Hp → VK → Prop := fun xs H Q => ∃ i j, xs = [.int i, .int j] ∧ j ≠ 0 ∧ ∀ p, H p = none → Q (.ref p) (upd H p (.tup [.int (i.fdiv j), .int (i.fmod j)]))
theorem call_divmodX {k : Nat} (hr : Room k X.A) (ht : X.prog.given.tree = none) (hst : X.stack = X.env :: X.outer) (hgen : X.env.scope.isGenerator = false) (hco : X.env.scope.isCoroutine = false) : CallR X (.builtin "divmod") rDvm := by
 intro pins s σ H xs us Q I r h
 obtain ⟨i, j, rfl, h1, q⟩ := h
 obtain ⟨u, w', rfl, ⟨t, rfl⟩, ⟨t', rfl⟩⟩ := vals2 r
 refine divmod_int h1 ?_ (.inr (room_pylong I hr ht hst hgen hco))
 have hn : H s.heap.objs.size = none := I.hok.fresh (Nat.le_refl _)
 refine ⟨.ref s.heap.objs.size, upd H s.heap.objs.size (.tup [.int (i.fdiv j), .int (i.fmod j)]), ?_, rfl, q _ hn⟩
 refine I.laid (fun b o e => Heap.get?_push_of_some _ e) (Nat.le_refl _) ⟨by simp only [List.length_cons, List.length_nil]; rw [sizeLine_eq]; decide, [.int (i.fdiv j) s.toks, .int (i.fmod j) (s.toks + 1)], .cons ⟨_, rfl⟩ (.cons ⟨_, rfl⟩ .nil), ?_⟩
 exact ⟨_, Heap.get?_push_size s.heap rfl, rfl, 0, rfl⟩
theorem cd_dvm {G : Gx} : CallD G rDvm dvmD := by
 intro E H W vs ds Q rr hS rl e hA
 unfold dvmD at e
 split at e
 ·rename_i i j
  split at e
  ·cases e
  ·rename_i hj
   obtain rfl : Rs.ok (D.tup [.int (i.fdiv j), .int (i.fmod j)]) W.S = rr := Option.some.inj e
   obtain ⟨v, r, rfl, q, v2, r2, rfl, q2, t⟩ := rl
   have q : v = .int i := q
   have q2 : v2 = .int j := q2
   have t : r2 = [] := t
   subst q q2 t
   exact ⟨i, j, rfl, hj, fun p hp => hA _ W rfl (Nxt.heap hS hp _) _ ⟨p, _, rfl, SqT.of zW, ⟨_, _, rfl, rfl, ⟨_, _, rfl, rfl, rfl⟩⟩⟩⟩
 ·cases e
theorem vals_bl : ∀ {bs : List Bool} {its : List Value}, Vals (bs.map V.bl) its → its = bs.map Value.bool
 | [], _, h => by cases h; rfl
 | b :: bs, _, h => by
  cases h with
  | cons h1 h2 =>
   cases h1
   rw [vals_bl h2]
   rfl
theorem call_allX (hc : X.calm = true) : CallR X (.builtin "all") (fun xs H Q => ∃ (l : Addr) (bs : List Bool), xs = [.ref l] ∧ SqL X.K H l (bs.map V.bl) ∧ Q (.bl (bs.all id)) H) := by
 intro pins s σ H xs us Q I r h
 obtain ⟨l, bs, rfl, hq, q⟩ := h
 obtain ⟨u, rfl, rx⟩ := vals1 r
 cases rx
 obtain ⟨its, rv, pl, hz⟩ := I.list hq
 have hl := pl.isList
 obtain rfl := vals_bl rv
 have hlt : l < s.heap.objs.size := by obtain ⟨_, e, _⟩ := hl; exact Heap.lt_size e
 refine call_all_walk (wpAny_pyIter_list hl ?_)
 refine ⟨s.heap.objs.size, [s.heap.objs.size, l], [s.heap.objs.size], (bs.map Value.bool).toArray.size, _, _, fun i => (bs[i]?).getD true, rfl, Walks.list (A := X.A.in1) (I.ok.hd hc) _ l (Nat.ne_of_lt hlt) (bs.map Value.bool).toArray,
  ⟨⟨_, Heap.get?_push_size _ rfl, rfl, rfl⟩, hl.push _⟩, fun i v s' Q' E' hP hQ => ?_, fun h' tk hk => ?_⟩
 ·have hP : (bs.map Value.bool)[i]? = some v := by simpa using hP
  rw [List.getElem?_map] at hP
  cases e : bs[i]? with
  | none => rw [e] at hP; cases hP
  | some b =>
   rw [e] at hP
   cases hP
   simp only [e, Option.getD_some] at hQ
   exact wpAny_truthy_bool hQ
 ·have e : ((List.range (bs.map Value.bool).toArray.size).all fun i => (bs[i]?).getD true) = bs.all id := by
   rw [List.size_toArray, List.length_map]; exact LSm.range_all bs
  rw [e]
  exact ⟨.bl _, H, I.kept fun b x eb => hk b x (fun hm => by rw [List.mem_singleton.mp hm] at eb; exact Nat.lt_irrefl _ (Heap.lt_size eb)) (Heap.get?_push_of_some _ eb), rfl, q⟩
theorem allB_some : ∀ {ds : List D} {b : Bool}, allB ds = some b → ∃ bs : List Bool, ds = bs.map D.bl ∧ b = bs.all id
 | [], _, h => by cases h; exact ⟨[], rfl, rfl⟩
 | .bl c :: ds, b, h => by
  have h : (match allB ds with | some e => some (c && e) | none => none) = some b := h
  cases q : allB ds with
  | none => rw [q] at h; cases h
  | some e =>
   rw [q] at h
   cases h
   obtain ⟨bs, rfl, rfl⟩ := allB_some q
   exact ⟨c :: bs, rfl, rfl⟩
 | .non :: _, _, h => by cases h
 | .int _ :: _, _, h => by cases h
 | .str _ :: _, _, h => by cases h
 | .tup _ :: _, _, h => by cases h
 | .ref _ :: _, _, h => by cases h
 | .exc _ :: _, _, h => by cases h
 | .scr _ :: _, _, h => by cases h
theorem repL_bl {G : Gx} {H : Hp} {W : Wd} : ∀ {bs : List Bool} {vs : List V}, RepL G H W (bs.map D.bl) vs → vs = bs.map V.bl
 | [], _, h => h
 | b :: bs, _, h => by
  obtain ⟨v, r, rfl, q, t⟩ := h
  have q : v = .bl b := q
  rw [q, repL_bl t]
  rfl
theorem cd_all {G : Gx} : CallD G (fun xs H Q => ∃ (l : Addr) (bs : List Bool), xs = [.ref l] ∧ SqL G.K H l (bs.map V.bl) ∧ Q (.bl (bs.all id)) H) allD := by
 intro E H W vs ds Q rr hS rl e hA
 unfold allD at e
 split at e
 ·rename_i a
  split at e
  ·rename_i xs hx
   split at e
   ·rename_i b hb
    obtain rfl : Rs.ok (D.bl b) W.S = rr := Option.some.inj e
    obtain ⟨v, r, rfl, rx, t⟩ := rl
    have t : r = [] := t
    subst t
    obtain ⟨us, ex, hq, rl⟩ := hS.lst rx hx
    subst ex
    obtain ⟨bs, rfl, rfl⟩ := allB_some hb
    obtain rfl := repL_bl rl
    exact ⟨_, bs, rfl, .inl (.inl hq), hA.now hS _ rfl⟩
   ·cases e
  ·cases e
 ·cases e
end
end Np
end
section
namespace Np
open PySem PySem.Spec PyProof.Rows L2
def g21 : List Value → List Value → List Value
 | [a, b], [c] => [a, b, c]
 | _, _ => []
def gV21 : List V → List V → List V
 | [a, b], [c] => [a, b, c]
 | _, _ => []
theorem rel21 {vs : List V} {us : List Value} {zs : List V} {ws : List Value} (h : Vals vs us) (k : Vals zs ws) : Vals (gV21 vs zs) (g21 us ws) := by
 cases h with
 | nil => exact .nil
 | cons h1 h =>
  cases h with
  | nil => exact .nil
  | cons h2 h =>
   cases h with
   | nil =>
    cases k with
    | nil => exact .nil
    | cons k1 k =>
     cases k with
     | nil => exact .cons h1 (.cons h2 (.cons k1 .nil))
     | cons k2 k => exact .nil
   | cons h3 h => exact .nil
theorem kb21 {K : PySem.W.Frag} {fd : FuncData} {a b c : Str} (h : ∀ (s : Shared) (u v w : Value), K.In s.heap → BindsTo s fd ⟨[u, v], [(c, w)]⟩ [(a, u), (b, v), (c, w)]) : KBinds K fd [a, b, c] [c] g21 gV21 := by
 refine ⟨fun s us ws KX hl => ?_, rel21⟩
 unfold g21 at hl ⊢
 split at hl
 ·exact h s _ _ _ KX
 ·cases hl
section
variable {X : Cx} {E : XK} {e1 e2 ek : Expr} {g1 g2 gk : DE} {pos kpos p : Pos} {kw x : Str}
end
end Np
end
section
namespace Np
open PySem PySem.Spec PyProof.Rows L2
section
variable {X : Cx} {E : XK}
end
end Np
end
section
namespace Np
open PySem PySem.Spec PyProof.Rows L2
def Ite (K : PySem.W.Frag) (a : Addr) : It :=
  ⟨fun i H => ∃ xs x, SqL K H a xs ∧ xs[i]? = some x,
   fun i H v H' => ∃ p x, v = .ref p ∧ H p = none ∧ H' = upd H p (.tup [.int i, x]) ∧ ∀ xs, SqL K H a xs → xs[i]? = some x,
   fun i H => ∃ xs, SqL K H a xs ∧ xs.length ≤ i⟩
theorem turn_enum {P : Program} {w : World} {K : PySem.W.Frag} {elts : List Expr} {x1 : Nat} {tpos : Pos} {e it l : Addr} (hei : e ≠ it) (hle : l ≠ e) (hli : l ≠ it) :
  Turn P w K (.Tuple elts x1 tpos) (Ite K l) [e, it] e (fun i h => (∃ old, IsEnum h e it i old) ∧ h.IsListIter it l i) where
 mem := by simp
 obj := fun i h st b hb => by
  obtain ⟨⟨old, he⟩, h1⟩ := st
  simp only [List.mem_cons, List.not_mem_nil, or_false] at hb
  rcases hb with rfl | rfl
  ·exact ⟨_, he, fun v q => by cases q⟩
  ·obtain ⟨o, e, c, d⟩ := h1
   exact ⟨o, e, fun v q => by rw [d] at q; cases q⟩
 keep := fun i h h' st k => by
  obtain ⟨⟨old, he⟩, h1⟩ := st
  exact ⟨⟨old, k e (by simp) _ he⟩, h1.at fun o q => k it (by simp) o q⟩
 item := by
  intro X hP hw hK hc i pins s σ H E I hf st hg
  subst hP hw hK
  obtain ⟨⟨old, he⟩, h1⟩ := st
  obtain ⟨xs, x, hqx, hx⟩ := hg
  obtain ⟨its, rx, px, zx⟩ := I.list hqx
  obtain ⟨ux, hux, rux⟩ := rx.get hx
  refine wpAny_pyNext_enum_item he h1 px.isList (x := ux) (by simpa using hux) hei fun h' ho hit' hT hsz hk => ?_
  refine ⟨_, rfl, wpAny_letOwnedTupleGo_enum ho fun h'' he' hs' => ?_⟩
  have hTn : s.heap.objs.size ≠ e := Nat.ne_of_gt (Heap.lt_size he)
  have kk : ∀ b o, b ∉ [e, it] → s.heap.get? b = some o → h''.get? b = some o := fun b o hb q => by
   simp only [List.mem_cons, List.not_mem_nil, or_false, not_or] at hb
   exact (hs'.2 b hb.1).trans (hk b o hb.1 hb.2 q)
  have hp5 := (hs'.2 s.heap.objs.size hTn).trans hT
  have new : ObjOk X.prog X.w (upd H s.heap.objs.size (.tup [.int i, x])) h'' s.heap.objs.size (.tup [.int i, x]) := ⟨by show 2 ≤ sizeLine; decide, [.int i s.toks, ux], .cons ⟨_, rfl⟩ (.cons rux .nil), ⟨_, hp5, rfl, _, rfl⟩⟩
  have I5 := Inv.moved (s := s) (h' := h'') (t' := s.toks + 1) I hf kk (Nat.le_refl _) new
  refine ⟨.ref s.heap.objs.size, upd H s.heap.objs.size (.tup [.int i, x]), I5, rfl, ⟨s.heap.objs.size, x, rfl, I.hok.fresh (Nat.le_refl _), rfl, fun ws hws => by rw [I.list_inj hws hqx]; exact hx⟩, ?_, fun b hb => ?_⟩
  ·exact ⟨⟨_, by simpa using he'⟩, hit'.at fun o y => (hs'.2 it hei.symm).trans y⟩
  ·have hlt : b < s.heap.objs.size := by
    simp only [List.mem_cons, List.not_mem_nil, or_false] at hb
    rcases hb with rfl | rfl
    ·exact Heap.lt_size he
    ·obtain ⟨o, e, _⟩ := h1; exact Heap.lt_size e
   rw [zO (Nat.ne_of_lt hlt)]
   exact (hf b hb).1
 done := by
  intro X hP hw hK hc i pins s σ H E I hf st hg
  subst hP hw hK
  obtain ⟨⟨old, he⟩, h1⟩ := st
  obtain ⟨xs, hqx, hend⟩ := hg
  obtain ⟨its, rx, px, zx⟩ := I.list hqx
  have lx := rx.length
  refine wpAny_pyNext_enum_end (I.ok.hd hc) he h1 px.isList (Array.getElem?_eq_none (by simp; omega)) fun h' hk => ⟨rfl, ?_⟩
  have nch : ∀ b u, H b = some u → b ∉ [e, it] := fun b u q zz => by rw [(hf b zz).1] at q; cases q
  have kk : ∀ b o, b ∉ [e, it] → s.heap.get? b = some o → h'.get? b = some o := fun b o hb q => by
   simp only [List.mem_cons, List.not_mem_nil, or_false, not_or] at hb
   exact hk b o hb.2 q
  refine I.step (g' := s.gens) (d' := s.drawn) (t' := s.toks) (ch := [e, it]) (fun b hb => ⟨(hf b hb).2.2.2.1, (hf b hb).2.1, (hf b hb).2.2.2.2.1, (hf b hb).2.2.2.2.2⟩) (fun b u _ _ hc e _ => kk b u hc e) (fun b u _ _ hc e _ => ⟨u.slots, kk b u hc e⟩)
   (fun _ _ _ _ n => n) (fun b u hc e => ⟨u, kk b u hc e⟩) (fun _ _ q => q) (fun _ _ _ q => q) (fun b ps q => ⟨#[], by rw [q]; simp⟩) (fun m hm => ?_) (fun b u q => ?_) I.bare
  ·obtain ⟨ob, es, ep, ho, r⟩ := hm
   exact ⟨ob, es, ep, kk _ ob (fun z => (hf _ z).2.1 rfl) ho, r⟩
  ·refine (I.hok b u q).stay (fun c v hc zz => kk c v ?_ zz) (fun c zz => zz) fun c xs zz => zz
   rcases hc with rfl | hc
   ·exact nch _ _ q
   ·exact nch _ _ hc
 self := fun _ _ _ _ _ st h => by
  obtain ⟨⟨old, he⟩, h1⟩ := st
  exact wpAny_pyIter_enum he h
section
variable {X : Cx} {E : XK}
def iEnum (K : PySem.W.Frag) (ta : TA) : TI := fun σ H R => ta σ H fun vs H1 => ∃ a xs, vs = [.ref a] ∧ SqL K H1 a xs ∧ R (Ite K a) H1
theorem boot_enumerate : bootBuiltins "enumerate" = some (.type "enumerate") := by decide +kernel
theorem pi_enum {a : Expr} {ta : TA} {p pos tpos : Pos} {elts : List Expr} {x1 : Nat} (hg : Gl X "enumerate") (hm : X.mg "enumerate" = none) (ha : PA X [a] ta) (hs : starEach [a] X.env = (false, eval a X.env) :: starEach [] X.env) (hs2 : (backTo pos (starEach [] X.env)).any (·.1) = false) :
  PI X (.Tuple elts x1 tpos) (.Call (.Name "enumerate" p) [a] [] pos) (iEnum X.K ta) := by
 intro pins s σ H R I h
 refine Call_ (ld_blt I hg hm boot_enumerate (PyProof.Rows.callWith_type1 (thn (ha pos pins s σ H _ I h) fun us s1 ⟨vs, H1, I1, r1, q1⟩ => ?_) hs hs2))
 obtain ⟨l1, xs, e, hqx, q⟩ := q1
 subst e
 obtain ⟨u, rfl, ru⟩ := vals1 r1
 cases ru
 obtain ⟨its, rx, px, zx⟩ := I1.list hqx
 have lt1 : l1 < s1.heap.objs.size := by obtain ⟨o, e, _⟩ := px.isList; exact Heap.lt_size e
 refine call_enumerate_list px.isList fun h' a1 a2 a3 hk => wpAny_pyIter_enum a1 ?_
 have I2 : Inv X pins σ H1 { s1 with heap := h' } := I1.kept (t' := s1.toks) hk
 refine ⟨s1.heap.objs.size + 1, [s1.heap.objs.size + 1, s1.heap.objs.size], _, Ite X.K l1, H1, rfl, I2, turn_enum (e := s1.heap.objs.size + 1) (it := s1.heap.objs.size) (l := l1) (Nat.succ_ne_self _) (Nat.ne_of_lt (Nat.lt_succ_of_lt lt1)) (Nat.ne_of_lt lt1), ⟨⟨_, a1⟩, a2⟩, fun b hb => ?_, q⟩
 have hb' : s1.heap.objs.size ≤ b := by
  simp only [List.mem_cons, List.not_mem_nil, or_false] at hb
  rcases hb with rfl | rfl
  ·exact Nat.le_succ _
  ·exact Nat.le_refl _
 exact I1.fpOk hb' (I1.hok.fresh hb')
theorem enm_some {a : Nat} {S : Sto} {i : Nat} {o : Option D} (h : (Src.enm a).get S i = some o) : ∃ ds, zH S a = some ds ∧ enm1 i ds[i]? = o := by
 have h' : (match zH S a with | some xs => some (enm1 i xs[i]?) | none => none) = some o := h
 cases q : zH S a with
 | none => rw [q] at h'; cases h'
 | some ds => rw [q] at h'; exact ⟨ds, rfl, Option.some.inj h'⟩
theorem walks_enum {G : Gx} {H : Hp} {W : Wd} {a : Nat} (ha : a < W.S.length) : Walks G (Ite G.K (W.μ a)) H W (.enm a) := fun i H1 W1 s1 => by
 refine ⟨fun h => ?_, fun d hd => ?_⟩
 ·obtain ⟨ds, e, hn⟩ := enm_some h
  obtain ⟨xs, ex, q, rl⟩ := s1.ok.lst (v := .ref (W1.μ a)) ⟨Nat.lt_of_lt_of_le ha s1.len, rfl⟩ e
  rw [s1.old a ha] at q
  refine ⟨xs, .inl (.inl q), ?_⟩
  cases z : ds[i]? with
  | some x => rw [z] at hn; cases hn
  | none => rw [← rl.length]; exact List.getElem?_eq_none_iff.mp z
 ·obtain ⟨ds, e, hn⟩ := enm_some hd
  obtain ⟨xs, ex, q, rl⟩ := s1.ok.lst (v := .ref (W1.μ a)) ⟨Nat.lt_of_lt_of_le ha s1.len, rfl⟩ e
  rw [s1.old a ha] at q
  cases z : ds[i]? with
  | none => rw [z] at hn; cases hn
  | some x' =>
   rw [z] at hn
   obtain rfl : D.tup [.int (i : Int), x'] = d := Option.some.inj hn
   obtain ⟨x, hx, rx⟩ := rl.get z
   refine ⟨⟨xs, x, .inl (.inl q), hx⟩, fun y H3 hy => ?_⟩
   obtain ⟨p, x'', rfl, hp, rfl, k1⟩ := hy
   have := k1 xs (.inl (.inl q))
   rw [hx] at this
   cases this
   have sn := Nxt.heap s1.ok hp (HO.tup [.int i, x])
   exact ⟨W1, rfl, sn, p, _, rfl, SqT.of zW, ⟨_, _, rfl, rfl, ⟨x, _, rfl, rx.mv (sn.mv s1.ok), rfl⟩⟩⟩
theorem pdi_enum {a : Expr} {ga : DE} {p pos tpos : Pos} {elts : List Expr} {x1 : Nat} (hg : Gl X "enumerate") (hm : X.mg "enumerate" = none) (ha : PDE X E a ga) (hs : starEach [a] X.env = (false, eval a X.env) :: starEach [] X.env := by rfl) (hs2 : (backTo pos (starEach [] X.env)).any (·.1) = false := by rfl) :
  PDI X E (.Tuple elts x1 tpos) (.Call (.Name "enumerate" p) [a] [] pos) (itA enumD (yF ga aNil)) := by
 try unfold PDE
 try unfold PDI at *
 intro pins s σ H R I ⟨W, δ, rr, hS, hδ, hg', hA⟩
 refine pi_enum hg hm (zB ha zE hs).o hs hs2 pins s σ H R I (Go.thn hS hδ hg' hA fun ds H1 W1 s1 hδ1 hg1 hA1 vs rv => ?_)
 unfold enumD at hg1
 split at hg1
 ·rename_i a
  split at hg1
  ·rename_i xs ea
   obtain rfl : Rs.ok (Src.enm a) W1.S = rr := Option.some.inj hg1
   obtain ⟨v, r, e, rx, t⟩ := rv
   have t : r = [] := t
   obtain ⟨us, eu, qu, ru⟩ := s1.ok.lst rx ea
   subst e eu t
   exact ⟨_, us, rfl, .inl (.inl qu), hA1.now s1.ok _ (walks_enum rx.1)⟩
  ·cases hg1
 ·cases hg1
end
end Np
end
section
namespace Np
open PySem PySem.Spec PyProof.Rows L2
section
variable {prog : Program} {w : World} {A : Around} {R : Result → Shared → Prop} {s : Shared}
theorem compLoop_anyI {elt target iter ce : Expr} {scope : Scope} {pos : Pos} {it acc : Value} {env : Env} (I : Nat → Shared → Prop)
  (turn : ∀ n s, I n s → wpAny (model prog w) A (pyNext it) (fun r s₁ => match r with
   | none => R (.ok .next) s₁
   | some v => wpAny (model prog w) A (letOwnedTupleGo target it v) (fun _ s₂ => wpAny (model prog w) A (assign target env v) (fun _ s₃ =>
     wpAny (model prog w) A (isTrue ce env (eval ce env)) (fun b s₃ => match b with
      | false => ∃ m, m < n ∧ I m s₃
      | true => wpAny (model prog w) A (eval elt env) (fun x s₄ =>
     wpAny (model prog w) A (call (.builtin "list.append") [acc, x]) (fun _ s₅ => ∃ m, m < n ∧ I m s₅) (fun _ _ => False) s₄) (fun _ _ => False) s₃) (fun _ _ => False) s₃) (fun _ _ => False) s₂) (fun _ _ => False) s₁) (fun _ _ => False) s)
  (n : Nat) (h : I n s) :
  codeAny (model prog w) A (.compLoop (.ListComp elt [⟨target, iter, [ce], 0⟩] scope pos) 0 it acc env) R s := by
 refine codeAny_loop rfl I (fun n s hI => ?_) n h
 show wpAny _ _ ((compTurn (.ListComp elt [⟨target, iter, [ce], 0⟩] scope pos) 0 it acc env).onRaise (fun x => do noteFrame x env; theTreesLotGoes x)) _ _ s
 refine wpAny_noted ?_
 rw [compTurn_list]
 refine wpAny_bind (wpAny_standAt (wpAny_bind (wpAny_mono (turn n s hI) (fun r s₁ h₁ => ?_) fun _ _ h' => h'.elim)))
 cases r with
 | none => exact wpAny_pure h₁
 | some v =>
  refine wpAny_bind (wpAny_mono h₁ (fun _ s₂ h₂ => ?_) fun _ _ h' => h'.elim)
  refine wpAny_bind (wpAny_mono h₂ (fun _ s₂ h₂ => wpAny_bind (wpAny_mono (wpAny_tests_one h₂) (fun ok s₃ h₃ => ?_) fun _ _ h' => h'.elim)) fun _ _ h' => h'.elim)
  cases ok with
  | false => exact wpAny_pure ⟨rfl, h₃⟩
  | true => exact wpAny_bind (wpAny_bind (wpAny_mono h₃ (fun x s₄ h₄ => wpAny_bind (wpAny_mono h₄ (fun _ s₅ h₅ => wpAny_pure (wpAny_pure ⟨rfl, h₅⟩)) fun _ _ h' => h'.elim)) fun _ _ h' => h'.elim))
end
def tCompI (wi : TI) (g : TG) (tt : TT) (te : TE) (k : Nat) : TE := fun σ H Q => wi σ H fun J H1 => ∃ W : Nat → Nat → List V → L2.St → Hp → Prop, (∃ n, W 0 n [] (σ ++ List.replicate k none) H1) ∧ ∀ i n vs σ H, W i n vs σ H →
 (J.stop i H ∧ ∀ p, H p = none → Q (.ref p) (upd H p (.lst vs))) ∨ (J.go i H ∧ vs.length < sizeLine ∧ ∀ x H', J.yld i H x H' → g x σ H' fun σ2 H2 => tt σ2 H2 fun b H3 => match b with
  | false => ∃ n', n' < n ∧ W (i + 1) n' vs σ2 H3
  | true => te σ2 H3 fun v H4 => ∃ n', n' < n ∧ W (i + 1) n' (vs ++ [v]) σ2 H4)
section
variable {X : Cx} {N' : List Str} {scope : Scope}
theorem comp_runI {elt iter tg ce : Expr} {pos : Pos} {wi : TI} {g : TG} {tt : TT} {te : TE} {k : Nat} (O : CompOk X.N X.env.scope N' scope) (hlen : X.N.length + k = N'.length) (hcal : X.calm = true) (hi : PI X tg iter wi)
  (hg : ∀ C s₃ H₃ ex pn, PG (compCx X N' scope C s₃ H₃ ex pn) tg g) (hc : ∀ C s₃ H₃ ex pn, PT (compCx X N' scope C s₃ H₃ ex pn) ce tt) (he : ∀ C s₃ H₃ ex pn, PE (compCx X N' scope C s₃ H₃ ex pn) elt te)
  {use : Option (Value → Sem Unit)} {Qf : Value → Shared → Prop} {pins : List (Addr × Obj)} {s : Shared} {σ : L2.St} {H : Hp} {Q : VK} (I : Inv X pins σ H s) (h : tCompI wi g tt te k σ H Q)
  (fin : ∀ (C acc : Addr) (H' : Hp) (s' : Shared) (m : Str → Option Value), Inv X pins σ H' s' → s'.heap.Ns C m → FpOk X pins H' C → Q (.ref acc) H' → compPost (model X.prog X.w) X.A X.xe use Qf (.ref acc) C (.ok .next) s')
  (hs : ∀ x, foldedSetIterable iter X.env x = pure x := by intro _; rfl) :
  wpAny (model X.prog X.w) X.A (comprehension (.ListComp elt [⟨tg, iter, [ce], 0⟩] scope pos) scope X.env (firstIterPos [⟨tg, iter, [ce], 0⟩] pos) (newList []) false (eval iter X.env) use) Qf X.xe s := by
 have hclos : closureFor scope X.env = pure (clOf scope.names X.env.cells []) := closureFor_eq fun y hy hf => I.ok.has y.1 (O.free y hy hf).2
 refine wpAny_comprehension_free (use := use) rfl hs hclos O.kind O.names (thn (hi pins s σ H _ I h) fun xv s1 h1 => thn h1 fun itv s2 h2 => ?_)
 obtain ⟨it, fp, tn, J, H2, rfl, I2, T, st2, f2, hW⟩ := h2
 refine wpAny_newObj_type (newEnv_comp fun h₁ hns₁ hk₁ hce₁ => ?_)
 have hfp2 : ∀ b ∈ fp, b < s2.heap.objs.size := fun b hb => by
  obtain ⟨o, e, _⟩ := T.obj 0 _ st2 b hb
  exact Heap.lt_size e
 have hpn : H2 s2.heap.objs.size = none := I2.hok.fresh (Nat.le_refl _)
 have I3 : Inv X pins σ H2 { s2 with heap := s2.heap.push { cls := .type "list", data := .seq ([] : List Value).toArray } } := I2.kept (t' := s2.toks) fun b o e => Heap.get?_push_of_some _ e
 have facc : FpOk X pins H2 s2.heap.objs.size := I2.fpOk (Nat.le_refl _) hpn
 have gacc : (s2.heap.push { cls := .type "list", data := .seq ([] : List Value).toArray }).get? s2.heap.objs.size = some { cls := .type "list", data := .seq ([] : List Value).toArray } := Heap.get?_push_size _ rfl
 obtain ⟨W, ⟨n0, w0⟩, turn⟩ := hW
 generalize hs3 : ({ s2 with heap := s2.heap.push { cls := .type "list", data := .seq ([] : List Value).toArray } } : Shared) = s3 at I3
 have hh3 : s3.heap = s2.heap.push { cls := .type "list", data := .seq ([] : List Value).toArray } := by rw [← hs3]
 rw [← hh3] at gacc
 have z3 : s3.heap.objs.size = s2.heap.objs.size + 1 := by rw [hh3, Heap.size_push]
 generalize hacc : s2.heap.objs.size = acc at *
 have f3 : ∀ b ∈ acc :: fp, FpOk X pins H2 b := fun b hb => by
  rcases List.mem_cons.mp hb with e | hb
  ·rw [e]; exact facc
  ·exact f2 b hb
 have hfp3 : ∀ b ∈ acc :: fp, b < s3.heap.objs.size := fun b hb => by
  rw [z3]
  rcases List.mem_cons.mp hb with e | hb
  ·rw [e]; exact Nat.lt_succ_self _
  ·exact Nat.lt_succ_of_lt (hfp2 b hb)
 have hk4 : ∀ b o, s3.heap.get? b = some o → h₁.get? b = some o := fun b o e => hk₁ b o (by rw [hh3] at e; exact e)
 have hCe : (s2.heap.push { cls := .type "list", dict := none, data := .seq ([] : List Value).toArray }).objs.size = s3.heap.objs.size := by rw [hh3]
 generalize hC : (s2.heap.push { cls := .type "list", dict := none, data := .seq ([] : List Value).toArray }).objs.size = C at *
 have st3 : tn 0 h₁ := T.keep 0 _ _ st2 fun b hb o e => hk4 b o (by rw [hh3]; exact Heap.get?_push_of_some _ e)
 have okx := comp_ok (fp := acc :: fp) O I3 (show s3.heap.objs.size ≤ C by rw [hCe]; exact Nat.le_refl _) f3 hfp3
 have pinOk : ∀ {H' : Hp} {its : List Value} {kk : Nat} {h' : Heap}, H' acc = none → h'.get? acc = some { cls := .type "list", data := .seq its.toArray kk } → ∀ p ∈ [(acc, ({ cls := .type "list", data := .seq its.toArray kk } : Obj))], h'.get? p.1 = some p.2 ∧ H' p.1 = none ∧ p.1 ≠ (compCx X N' scope C s3 H2 (acc :: fp) (X.pn ++ pins)).env.locals ∧ p.1 ∉ (compCx X N' scope C s3 H2 (acc :: fp) (X.pn ++ pins)).fs ∧ ∀ v, p.2.data ≠ .cell v := fun {H' its kk h'} hn e p hp => by
  have z : p = (acc, ({ cls := .type "list", data := .seq its.toArray kk } : Obj)) := by simpa using hp
  subst z
  exact ⟨e, hn, (okx.exf acc (.head _)).1, okx.exfs acc (.head _), fun v q => by cases q⟩
 have I4 : Inv (compCx X N' scope C s3 H2 (acc :: fp) (X.pn ++ pins)) [] (σ ++ List.replicate k none) H2 { s3 with heap := h₁ } :=
  inv_comp O I3 (by rw [hCe]; exact Nat.le_refl _) f3 hfp3 ⟨h₁, _, rfl⟩ hk4 hns₁ hce₁ hlen
 have I4' : Inv (compCx X N' scope C s3 H2 (acc :: fp) (X.pn ++ pins)) [(acc, { cls := .type "list", data := .seq ([] : List Value).toArray 0 })] (σ ++ List.replicate k none) H2 { s3 with heap := h₁ } :=
  I4.pins_of (pinOk facc.1 (hk4 _ _ gacc))
 have loop : codeAny (model X.prog X.w) X.A (.compLoop (.ListComp elt [⟨tg, iter, [ce], 0⟩] scope pos) 0 (.ref it) (.ref acc) (compEnvC scope (cellsC scope C X.env.cells) C X.env)) (compPost (model X.prog X.w) X.A X.xe use Qf (.ref acc) C) { s3 with heap := h₁ } := by
  have fpx : ∀ {H' : Hp} {ob : Obj}, (∀ b ∈ fp, H' b = none) → ∀ b ∈ fp, FpOk (compCx X N' scope C s3 H2 (acc :: fp) (X.pn ++ pins)) [(acc, ob)] H' b := fun {H' ob} hn b hb => by
   have hb' : b ∈ acc :: fp := .tail _ hb
   refine ⟨hn b hb, (okx.exf b hb').1, okx.exfs b hb', .inl hb', fun x c h => (okx.exf b hb').2 x c h, fun p hp => ?_⟩
   have hp' : p ∈ (X.pn ++ pins) ++ [(acc, ob)] := hp
   rcases List.mem_append.mp hp' with z | z
   ·exact (f3 b hb').2.2.2.2.2 p z
   ·have e : p = (acc, ob) := by simpa using z
    rw [e]
    exact Nat.ne_of_gt (hfp2 b hb)
  refine compLoop_anyI (fun n s' => ∃ i vs its kk σ' H', Inv (compCx X N' scope C s3 H2 (acc :: fp) (X.pn ++ pins)) [(acc, { cls := .type "list", data := .seq its.toArray kk })] σ' H' s' ∧ Vals vs its ∧ vs.length ≤ sizeLine ∧ tn i s'.heap ∧ (∀ b ∈ fp, H' b = none) ∧ W i n vs σ' H') ?_ n0 ⟨0, [], [], 0, _, _, I4', .nil, Nat.zero_le _, st3, fun b hb => (f2 b hb).1, w0⟩
  rintro n s5 ⟨i, vs, its, kk, σ5, H5, I5, rv, hz, st5, fr5, w5⟩
  rcases turn i n vs σ5 H5 w5 with ⟨stop, qn⟩ | ⟨go, hlt, step⟩
  ·refine thn (T.done (compCx X N' scope C s3 H2 (acc :: fp) (X.pn ++ pins)) rfl rfl rfl hcal i _ s5 σ5 H5 _ I5 (fpx fr5) st5 stop) fun r s6 ⟨hr, I6⟩ => ?_
   subst hr
   have back : Inv X pins σ H5 s6 := by
    have e : s6.os = s3.os := I6.os
    refine I3.call' e (ch := acc :: fp) I6.base I6.hok I6.bare fun b hb => ?_
    obtain ⟨a1, a2, a3, a4, a5, a6⟩ := f3 b hb
    exact ⟨a4, a2, a5, a6⟩
   obtain ⟨m6, hn6, _⟩ := I6.loc
   have hn6' : s6.heap.Ns C m6 := hn6
   obtain ⟨e6, n6, _⟩ := I6.pin (acc, { cls := .type "list", data := .seq its.toArray kk }) (List.mem_append_right _ (.head _))
   have fa : FpOk X pins H5 acc := ⟨n6, facc.2⟩
   have hCa : C ≠ acc := Nat.ne_of_gt (by rw [hCe]; exact hfp3 acc (.head _))
   refine fin C acc _ s6 m6 (Inv.adopt back fa e6 rv hz) hn6' ?_ (qn acc n6)
   exact I3.fpOk (by rw [hCe]; exact Nat.le_refl _) (by rw [zO hCa]; exact I6.free)
  ·refine thn (T.item (compCx X N' scope C s3 H2 (acc :: fp) (X.pn ++ pins)) rfl rfl rfl hcal i _ s5 σ5 H5 _ I5 (fpx fr5) st5 go) fun r s6 ⟨u, hr, h6⟩ => ?_
   subst hr
   refine thn h6 fun _ s7 ⟨x, H7, I7, r7, y7, st7, fr7⟩ => ?_
   have I7' := I7.pinned (fpx fr7) (T.obj _ _ st7)
   refine thn (hg _ _ _ _ _ _ s7 σ5 H7 x u _ I7' r7 (step x H7 y7)) fun _ s8 ⟨σ8, H8, I8, q8⟩ => ?_
   refine thn (hc _ _ _ _ _ _ s8 σ8 H8 _ I8 q8) fun b s8' ⟨H8', I8', q8'⟩ => ?_
   cases b with
   | false =>
    obtain ⟨n', hn', w9⟩ := q8'
    obtain ⟨e9, n9, l9, f9, _⟩ := I8'.pin (acc, { cls := .type "list", data := .seq its.toArray kk }) (List.mem_append_right _ (List.mem_append_left _ (.head _)))
    have I9' := I8'.pins_of (pins' := pinsAt fp s7.heap) fun p hp => I8'.pin p (List.mem_append_right _ (List.mem_append_right _ hp))
    refine ⟨n', hn', i + 1, vs, its, _, σ8, H8', I9'.pins_of (pinOk n9 e9), rv, hz, T.keep _ _ _ st7 fun b hb o eo => (I9'.pin (b, o) (List.mem_append_right _ (mem_pinsAt hb eo))).1, fun b hb => ?_, w9⟩
    obtain ⟨o, eo, d⟩ := T.obj _ _ st7 b hb
    exact (I9'.pin (b, o) (List.mem_append_right _ (mem_pinsAt hb eo))).2.1
   | true =>
   refine thn (he _ _ _ _ _ _ s8' σ8 H8' _ I8' q8') fun xv s9 ⟨v, H9, I9, r9, q9⟩ => ?_
   obtain ⟨n', hn', w9⟩ := q9
   obtain ⟨e9, n9, l9, f9, _⟩ := I9.pin (acc, { cls := .type "list", data := .seq its.toArray kk }) (List.mem_append_right _ (List.mem_append_left _ (.head _)))
   have hlen9 := rv.length
   refine call_meets F.slot_list_append ⟨_, e9, rfl⟩ F.entry_list_append (F.args_list_append_2 _ _) (PySem.list_append acc its.toArray kk xv (by rw [List.size_toArray]; omega)) ⟨e9, ?_⟩
   have q10 := PySem.IsL.update e9 (fun xs => xs.push xv)
   have ea : (its.toArray.push xv) = (its ++ [xv]).toArray := by simp
   rw [ea] at q10
   have I9' := I9.pins_of (pins' := pinsAt fp s7.heap) fun p hp => I9.pin p (List.mem_append_right _ (List.mem_append_right _ hp))
   have I10 : Inv (compCx X N' scope C s3 H2 (acc :: fp) (X.pn ++ pins)) (pinsAt fp s7.heap) σ8 H9 { s9 with heap := s9.heap.update acc (Obj.mapSeq fun xs => xs.push xv) } :=
    I9'.turned (t' := s9.toks) (it := acc) (fun b o hb e => (Heap.get?_update_other s9.heap _ (Ne.symm hb)).trans e) n9 (okx.exf acc (.head _)).1 (.inl (.head _)) (fun x c h => (okx.exf acc (.head _)).2 x c h) fun p hp => by
     have hp' : p ∈ (X.pn ++ pins) ++ pinsAt fp s7.heap := hp
     rcases List.mem_append.mp hp' with z | z
     ·exact facc.2.2.2.2.2 p z
     ·exact Nat.ne_of_lt (hfp2 p.1 (of_pinsAt z).1)
   refine ⟨n', hn', i + 1, vs ++ [v], its ++ [xv], _, σ8, H9, I10.pins_of (pinOk n9 q10), rv.append (.cons r9 .nil), by rw [List.length_append, List.length_singleton]; omega, T.keep _ _ _ st7 fun b hb o eo => (I10.pin (b, o) (List.mem_append_right _ (mem_pinsAt hb eo))).1, fun b hb => ?_, w9⟩
   obtain ⟨o, eo, d⟩ := T.obj _ _ st7 b hb
   exact (I10.pin (b, o) (List.mem_append_right _ (mem_pinsAt hb eo))).2.1
 have whole := codeAny_compStart_list loop (T.self _ 0 _ _ _ st3 loop)
 subst hCe
 exact whole
end
section
variable {X : Cx} {N' : List Str} {scope : Scope}
theorem pe_compI {elt iter tg ce : Expr} {pos : Pos} {wi : TI} {g : TG} {tt : TT} {te : TE} (k : Nat) (O : CompOk X.N X.env.scope N' scope) (hcal : X.calm = true) (hi : PI X tg iter wi)
  (hg : ∀ C s₃ H₃ ex pn, PG (compCx X N' scope C s₃ H₃ ex pn) tg g) (hc : ∀ C s₃ H₃ ex pn, PT (compCx X N' scope C s₃ H₃ ex pn) ce tt) (he : ∀ C s₃ H₃ ex pn, PE (compCx X N' scope C s₃ H₃ ex pn) elt te)
  (hlen : X.N.length + k = N'.length := by rfl) (hs : ∀ x, foldedSetIterable iter X.env x = pure x := by intro _; rfl) : PE X (.ListComp elt [⟨tg, iter, [ce], 0⟩] scope pos) (tCompI wi g tt te k) := by
 intro pins s σ H Q I h
 rw [eval_ListComp]
 exact comp_runI (use := none) O hlen hcal hi hg hc he I h (fun C acc H' s' m J hn f q => ⟨m, hn, fun h' hs' => ⟨.ref acc, H', J.turned (t' := s'.toks) (fun b o hb e => (hs'.2 b hb).trans e) f.1 f.2.1 f.2.2.2.1 f.2.2.2.2.1 f.2.2.2.2.2, rfl, q⟩⟩) hs
theorem ps_setCompI {elt iter tg ce : Expr} {pos spos py : Pos} {y : Str} {j : Nat} {wi : TI} {g : TG} {tt : TT} {te : TE} (k : Nat) (O : CompOk X.N X.env.scope N' scope) (hcal : X.calm = true) (hi : PI X tg iter wi)
  (hg : ∀ C s₃ H₃ ex pn, PG (compCx X N' scope C s₃ H₃ ex pn) tg g) (hc : ∀ C s₃ H₃ ex pn, PT (compCx X N' scope C s₃ H₃ ex pn) ce tt) (he : ∀ C s₃ H₃ ex pn, PE (compCx X N' scope C s₃ H₃ ex pn) elt te)
  (hN : X.N.Nodup) (hj : X.N[j]? = some y) (hy : X.env.scope.names.lookup y = some .local) (hsw : swapsWith (.ListComp elt [⟨tg, iter, [ce], 0⟩] scope pos) (some (.Name y py)) spos.line X.env = pure true)
  (hlen : X.N.length + k = N'.length := by rfl) (hs : ∀ x, foldedSetIterable iter X.env x = pure x := by intro _; rfl) : PS X (.Assign [.Name y py] (.ListComp elt [⟨tg, iter, [ce], 0⟩] scope pos) spos) (tAsg (tCompI wi g tt te k) (gName j)) := by
 intro pins s σ H D I h
 rw [exec_Assign_Name_used _ _ _ _ hsw]
 refine wpAny_bind (wpAny_standAt (wpAny_bind ?_))
 show wpAny _ X.A (do let _ ← comprehension (.ListComp elt [⟨tg, iter, [ce], 0⟩] scope pos) scope X.env _ (newList []) false (eval iter X.env) (some (assign (.Name y py) X.env))) _ _ s
 refine wpAny_bind (wpAny_mono (comp_runI (use := some (assign (.Name y py) X.env)) (Qf := fun _ s' => SP X pins D .next s') O hlen hcal hi hg hc he I h (fun C acc H' s' m J hn f q => ?_) hs) (fun _ s' hq => wpAny_pure (wpAny_pure hq)) fun _ _ e => e)
 show wpAny _ X.A (assign (.Name y py) X.env (.ref acc)) _ _ _
 refine wpAny_assign_Name ?_
 refine store_ok2 J hN hj (.inl hy) (v := .ref acc) rfl (fun s2 J2 ⟨a, hsb, ha⟩ => ?_) (.inr hy)
 have haC : C ≠ a := by
  rcases ha with z | z
  ·rw [z]; exact f.2.1
  ·exact fun e => f.2.2.2.2.1 _ _ z e.symm
 exact ⟨m, hn.sameBut hsb haC, fun h' hs' => ⟨σ.set j (some (.ref acc)), H', J2.turned (t' := s2.toks) (fun b o hb e => (hs'.2 b hb).trans e) f.1 f.2.1 f.2.2.2.1 f.2.2.2.2.1 f.2.2.2.2.2, q⟩⟩
end
theorem compID_cases {src : Src} {g : DG} {t : DT} {e : DE} {n i : Nat} {δ : DS} {S : Sto} {r : Rs (List D)} (h : compID src g t e n i δ S = some r) :
  (src.get S i = some none ∧ r = .ok [] S) ∨ ∃ x m, n = m + 1 ∧ src.get S i = some (some x) ∧ bnd (g x δ S) (compIK t e (compID src g t e m (i + 1))) = some r := by
 cases n with
 | zero =>
  unfold compID at h
  split at h
  ·rename_i e
   exact .inl ⟨e, (Option.some.inj h).symm⟩
  ·cases h
 | succ n =>
  unfold compID at h
  split at h
  ·rename_i e
   exact .inl ⟨e, (Option.some.inj h).symm⟩
  ·rename_i x e
   exact .inr ⟨x, n, rfl, e, h⟩
  ·cases h
section
variable {X : Cx} {E : XK} {N' : List Str} {scope : Scope}
theorem tF_compI {gi : DI} {k : Nat} {g : DG} {gc : DT} {ge : DE} : ∀ σ H Q, tF (gx X) E (compI gi k g gc ge) σ H Q → tCompI (tFI (gx X) E gi) (tFG (gx X) E0 g) (tFT (gx X) E0 gc) (tF (gx X) E0 ge) k σ H Q := by
 intro σ H Q ⟨W, δ, rr, hS, hδ, hg, hA⟩
 refine Go.thn hS hδ hg hA fun src H1 W1 s1 hδ1 hg1 hA1 J hJ => ?_
 have q' : (if src.len W1.S ≤ 1000000 then bnd (noer (compID src g gc ge (src.len W1.S) 0 (δ ++ List.replicate k none) W1.S)) lstK else none) = some rr := hg1
 split at q'
 ·rename_i hsz
  rcases bnd_some q' with ⟨ds, S2, e2, q2⟩ | ⟨c, S2, e2, _⟩
  ·obtain ⟨ds', S2', e3, e4⟩ := noer_some e2
   cases e4
   refine ⟨fun i n vs σ2 H2 => i + n = src.len W1.S ∧ ∃ W2 δ2 ds1 ds2, Nxt (gx X) H1 W1 H2 W2 ∧ RepS (gx X) H2 W2 δ2 σ2 ∧ ds = ds1 ++ ds2 ∧ ds1.length ≤ i ∧ RepL (gx X) H2 W2 ds1 vs ∧ compID src g gc ge n i δ2 W2.S = ok ds2 S2,
    ⟨src.len W1.S, by simp, W1, _, [], ds, .rfl s1.ok, hδ1.more k, rfl, Nat.le_refl _, rfl, e3⟩, ?_⟩
   rintro i n vs σ2 H2 ⟨hn, W2, δ2, ds1, ds2, s2, hδ2, hds, hl1, rl, hc⟩
   obtain ⟨w1, w2⟩ := hJ i H2 W2 s2
   rcases compID_cases hc with ⟨hend, hr⟩ | ⟨x, m, rfl, hx, hb⟩
   ·refine .inl ⟨w1 hend, fun p hp => ?_⟩
    cases hr
    rw [List.append_nil] at hds
    subst hds
    exact new_lst s2.ok q2 (hA1.nxt s2) rl hp
   ·obtain ⟨wg, wy⟩ := w2 x hx
    refine .inr ⟨wg, ?_, fun v H3 y => ?_⟩
    ·rw [← rl.length]
     exact Nat.lt_of_lt_of_le (by omega) (sz hsz)
    ·obtain ⟨W3, e3', s3, rx⟩ := wy v H3 y
     rcases bnd_some hb with ⟨δ4, S4, e4, q4⟩ | ⟨c, S4, _, q4⟩
     ·refine ⟨W3, δ2, x, .ok δ4 S4, s3.ok, hδ2.mv (s3.mv s2.ok), rx, by rw [e3']; exact e4, fun H4 W4 eS4 s4 σ4 hδ4 => ?_⟩
      rcases bnd_some (show bnd (gc δ4 S4) (compIB ge (compID src g gc ge m (i + 1)) δ4) = some (Rs.ok ds2 S2) from q4) with ⟨b, S5, e5, q5⟩ | ⟨c, S5, _, q5⟩
      ·refine ⟨W4, δ4, .ok b S5, s4.ok, hδ4, by rw [eS4]; exact e5, fun H5 W5 eS5 s5 => ?_⟩
       cases b with
       | false =>
        refine ⟨m, Nat.lt_succ_self m, by omega, W5, δ4, ds1, ds2, ((s2.trans s3).trans s4).trans s5, hδ4.mv (s5.mv s4.ok), hds, by omega, rl.mv (((s3.trans s4).trans s5).mv s2.ok), by rw [eS5]; exact q5⟩
       | true =>
        rcases bnd_some (show bnd (ge δ4 S5) (compK2 (compID src g gc ge m (i + 1)) δ4) = some (Rs.ok ds2 S2) from q5) with ⟨d, S6, e6, q6⟩ | ⟨c, S6, _, q6⟩
        ·refine ⟨W5, δ4, .ok d S6, s5.ok, hδ4.mv (s5.mv s4.ok), by rw [eS5]; exact e6, fun H6 W6 eS6 s6 v' rv => ?_⟩
         rcases bnd_some (show bnd (compID src g gc ge m (i + 1) δ4 S6) (consK d) = some (Rs.ok ds2 S2) from q6) with ⟨ds3, S7, e7, q7⟩ | ⟨c, S7, _, q7⟩
         ·have q7' : Rs.ok (d :: ds3) S7 = Rs.ok ds2 S2 := Option.some.inj q7
          cases q7'
          refine ⟨m, Nat.lt_succ_self m, by omega, W6, δ4, ds1 ++ [d], ds3, (((s2.trans s3).trans s4).trans s5).trans s6, (hδ4.mv (s5.mv s4.ok)).mv (s6.mv s5.ok), by rw [hds]; simp, by simp; omega, ?_, by rw [eS6]; exact e7⟩
          exact (rl.mv ((((s3.trans s4).trans s5).trans s6).mv s2.ok)).append (RepL.one rv)
         ·cases q7
        ·cases q6
      ·cases q5
     ·cases q4
  ·obtain ⟨_, _, _, z⟩ := noer_some e2
   cases z
 ·cases q'
theorem pd_compI {elt iter tg ce : Expr} {pos : Pos} {gi : DI} {g : DG} {gc : DT} {ge : DE} (k : Nat) (O : CompOk X.N X.env.scope N' scope) (hcal : X.calm = true) (hi : PDI X E tg iter gi)
  (hg : ∀ C s₃ H₃ ex pn, PDG (compCx X N' scope C s₃ H₃ ex pn) E0 tg g) (hc : ∀ C s₃ H₃ ex pn, PDT (compCx X N' scope C s₃ H₃ ex pn) E0 ce gc) (he : ∀ C s₃ H₃ ex pn, PDE (compCx X N' scope C s₃ H₃ ex pn) E0 elt ge)
  (hlen : X.N.length + k = N'.length := by rfl) (hs : ∀ x, foldedSetIterable iter X.env x = pure x := by intro _; rfl) : PDE X E (.ListComp elt [⟨tg, iter, [ce], 0⟩] scope pos) (compI gi k g gc ge) := by
 first
 | exact (
  PE.imp (pe_compI (g := tFG (gx X) E0 g) (tt := tFT (gx X) E0 gc) (te := tF (gx X) E0 ge) k O hcal hi hg hc he hlen hs) tF_compI)
 | ((try unfold PDE at *); (try unfold PDT at *); (try unfold PDG at *); (try unfold PDI at *); exact (
  PE.imp (pe_compI (g := tFG (gx X) E0 g) (tt := tFT (gx X) E0 gc) (te := tF (gx X) E0 ge) k O hcal hi hg hc he hlen hs) tF_compI))
theorem pd_setCompI (j : Nat) {elt iter tg ce : Expr} {pos spos py : Pos} {y : Str} {gi : DI} {g : DG} {gc : DT} {ge : DE} (k : Nat) (O : CompOk X.N X.env.scope N' scope) (hcal : X.calm = true) (hi : PDI X E tg iter gi)
  (hg : ∀ C s₃ H₃ ex pn, PDG (compCx X N' scope C s₃ H₃ ex pn) E0 tg g) (hc : ∀ C s₃ H₃ ex pn, PDT (compCx X N' scope C s₃ H₃ ex pn) E0 ce gc) (he : ∀ C s₃ H₃ ex pn, PDE (compCx X N' scope C s₃ H₃ ex pn) E0 elt ge)
  (hN : X.N.Nodup) (hj : X.N[j]? = some y := by rfl) (hy : X.env.scope.names.lookup y = some .local := by rfl) (hsw : swapsWith (.ListComp elt [⟨tg, iter, [ce], 0⟩] scope pos) (some (.Name y py)) spos.line X.env = pure true := by rfl)
  (hlen : X.N.length + k = N'.length := by rfl) (hs : ∀ x, foldedSetIterable iter X.env x = pure x := by intro _; rfl) : PDS X E (.Assign [.Name y py] (.ListComp elt [⟨tg, iter, [ce], 0⟩] scope pos) spos) (setS j (compI gi k g gc ge)) := by
 try unfold PDE at *
 try unfold PDT at *
 try unfold PDS at *
 try unfold PDG at *
 try unfold PDI at *
 refine PS.imp (ps_setCompI (g := tFG (gx X) E0 g) (tt := tFT (gx X) E0 gc) (te := tF (gx X) E0 ge) k O hcal hi hg hc he hN hj hy hsw hlen hs) fun D σ H ⟨W, δ, rr, hS, hδ, hg', hA⟩ => ?_
 refine tF_compI σ H _ (Go.thn hS hδ hg' hA fun d H1 W1 s1 hδ1 hg1 hA1 v rv => ?_)
 obtain rfl : Rs.ok (Fl.nx (δ.set j (some d))) W1.S = rr := Option.some.inj hg1
 exact hA1.now s1.ok _ (hδ1.set j rv)
end
end Np
end
section
namespace Np
open PySem PySem.Spec PyProof.Rows L2
section
variable {prog : Program} {w : World} {A : Around} {E : Value → Shared → Prop}
end
section
variable {X : Cx} {E : XK}
end
end Np
end
section
namespace Np
open PySem PySem.Spec PyProof.Rows L2
mutual
theorem eqT_comm : ∀ (d e : T), eqT d e = eqT e d
 | .non, e => by cases e <;> simp [eqT]
 | .bl a, e => by cases e <;> simp only [eqT] <;> exact BEq.comm
 | .int a, e => by cases e <;> simp only [eqT] <;> exact BEq.comm
 | .str a, e => by cases e <;> simp only [eqT] <;> exact BEq.comm
 | .tup ds, e => by
  cases e with
  | tup es => simp only [eqT]; exact eqTs_comm ds es
  | _ => simp [eqT]
 | .lst ds, e => by
  cases e with
  | lst es => simp only [eqT]; exact eqTs_comm ds es
  | _ => simp [eqT]
theorem eqTs_comm : ∀ (ds es : List T), eqTs ds es = eqTs es ds
 | [], es => by cases es <;> simp [eqTs]
 | d :: ds, es => by
  cases es with
  | nil => simp [eqTs]
  | cons e es => simp only [eqTs]; rw [eqT_comm d e, eqTs_comm ds es]
end
theorem memT_py (t : T) : ∀ ts : List T, ((toPys ts).any fun y => PyData.eqv y (toPy t)) = memT t ts
 | [] => rfl
 | u :: us => by simp only [toPys, List.any_cons, memT, memT_py t us, eqT_py, eqT_comm u t]
section
variable {X : Cx} {G : Gx}
def rInD (G : Gx) (neg : Bool) : R2 := fun x y H Q => ∃ W d a ys t ts, StOk G H W ∧ Rep G H W d x ∧ Rep G H W (.ref a) y ∧ zH W.S a = some ys ∧ rd 8 W.S d = some t ∧ rdl (rd 8 W.S) ys = some ts ∧ Q (.bl (if neg = true then !memT t ts else memT t ts)) H
theorem in_seen {pins : List (Addr × Obj)} {s : Shared} {σ : L2.St} {H : Hp} {W : Wd} {a : Nat} {ys : List D} {ts : List T} {y : V} {u : Value} (I : Inv X pins σ H s) (hS : StOk (gx X) H W) (r : Rep (gx X) H W (.ref a) y) (q : RelV y u) (hl : zH W.S a = some ys) (h : rdl (rd 8 W.S) ys = some ts) : Seen s 9 (.lst ts) u :=
 seen I hS (n := 9) (d := .ref a) (by simp only [rd, hl, h]; rfl) r q
theorem op_notinX {k : Nat} (hr : Room k X.A) : OpR X (compareOp .NotIn) (rInD (gx X) true) := by
 intro pins s σ H x y v u Q I rx ry h
 obtain ⟨W, d, a, ys, t, ts, hS, rd1, re, hl, pd, pe, q⟩ := h
 have sa := seen I hS pd rd1 rx
 obtain ⟨c1, c2, bs, rb⟩ := in_seen I hS re ry hl pe
 obtain ⟨as, ra⟩ := sa.2.2
 have c1' : PyData.canLayAll0 (toPys ts) = true := by simpa only [toPy, PyData.canLay0] using c1
 refine SeqAt.notIn_list_reads (xs := toPys ts) rb ra c1' sa.1 ?_ ?_
 ·have := hr.units
  have := sa.2.1
  omega
 ·rw [memT_py]
  exact ⟨.bl _, H, I, rfl, q⟩
theorem od_inK (neg : Bool) : OpD G (rInD G neg) (inA neg) := by
 intro E H W x y dx dy Q rr hS rx ry e hA
 cases dy with
 | ref a =>
  simp only [inA] at e
  split at e
  ·rename_i ys hl
   split at e
   ·rename_i t ts h1 h2
    obtain rfl := Option.some.inj e
    exact ⟨W, dx, a, ys, t, ts, hS, rx, ry, hl, h1, h2, hA.now hS _ rfl⟩
   ·cases e
  ·cases e
 | _ => cases e
theorem od_notin : OpD G (rInD G true) notinD := od_inK true
end
end Np
end
section
namespace Np
open PySem
section
variable {prog : Program} {w : World} {A : Around} {s : Shared} {R : Result → Shared → Prop}
variable {I : Addr} {fp wr : List Addr} {G : Array GenState → Array GenState → Prop} {n : Nat} {P : Nat → Value → Prop} {St : Nat → Shared → Prop}
end
section
variable {prog : Program} {w : World} {A : Around} {E : Value → Shared → Prop} {s : Shared}
variable {I : Addr} {fp wr : List Addr} {G : Array GenState → Array GenState → Prop} {n : Nat} {P : Nat → Value → Prop} {St : Nat → Shared → Prop}
end
end Np
namespace Np
open PySem PySem.Spec PyProof.Rows L2
section
variable {X : Cx} {E : XK}
end
end Np
end
section
namespace Np
open PySem PySem.Spec PyProof.Rows L2
structure Fly (P : Program) (w : World) (l : List Env) (H H' : Hp) (s : Shared) (ea : Addr) (B h : Heap) : Prop where
 un : Un (frs l) [] H H' s.heap h
 hok : HOk P w H' h
 newe : s.heap.get? ea = none
 free : H' ea = none
 frf : ∀ b ∈ frs l, H' b = none
 ff : h.FunFrames B l
 keep : ∀ b o, h.get? b = some o → ((∃ o0, s.heap.get? b = some o0) ∨ H' b ≠ none) → b ∉ frs l → B.get? b = some o
 st : B.StaysIn h
def CX1 (P : Program) (w : World) : CXT := fun outer H s E e s' => ∃ (ea C : Addr) (H' : Hp) (B : Heap) (a0 : Value), e = .ref ea ∧ s'.os = s.os ∧ AllBare s'.gens ∧ Fly P w outer H H' s ea B s'.heap ∧ Heap.FlyingW B outer ea (.ref C) a0 s'.heap ∧ E (.ref C) none H'
section
variable {P : Program} {w : World} {K : PySem.W.Frag} {mg : Str → Option Value} {base : Heap} {N : List Str} {qual : Str} {scope : Scope} {f : Addr} {cd : Value} {A : Around} {outer : List Env} {s : Shared} {H : Hp} {E : XK}
end
section
variable {X : Cx} {E : XK}
end
end Np
end
section
namespace Np
open PySem PySem.Spec PyProof.Rows L2
section
variable {X : Cx} {pins : List (Addr × Obj)} {σ : L2.St} {H : Hp} {s : Shared} {ea : Addr}
end
section
variable {X : Cx}
end
section
variable {X : Cx} {E : XK}
end
end Np
end
section
namespace Np
open PySem PySem.Spec PyProof.Rows L2
def excGet (K : PySem.W.Frag) (C : Addr) : Bool := (PySem.W.clsIn K C).isSome && PySem.W.findIn K (.ref C) "__getattribute__" == some (some (.builtin "BaseException.__getattribute__")) && PySem.W.findIn K (.ref C) "__getattr__" == some none && PySem.W.findIn K (.ref C) "__class__" == some (some (.builtin "object.__class__"))
 && PySem.W.subIn K (.ref C) (.type "BaseException") == some true && PySem.W.subIn K (.ref C) (.type "object") == some true
structure ExcGet (K : PySem.W.Frag) (C : Addr) : Prop where
 cls : (PySem.W.clsIn K C).isSome = true
 ga : PySem.W.findIn K (.ref C) "__getattribute__" = some (some (.builtin "BaseException.__getattribute__"))
 nga : PySem.W.findIn K (.ref C) "__getattr__" = some none
 cl : PySem.W.findIn K (.ref C) "__class__" = some (some (.builtin "object.__class__"))
 be : PySem.W.subIn K (.ref C) (.type "BaseException") = some true
 ob : PySem.W.subIn K (.ref C) (.type "object") = some true
section
variable {prog : Program} {w : World} {A : Around} {E : Value → Shared → Prop} {h : Heap} {g : Array GenState} {d : Drawn} {t : Nat} {os : OsState} {a C : Addr} {o : Obj} {K : PySem.W.Frag}
end
section
variable {X : Cx} {E : XK}
end
end Np
end
section
namespace Np
open PySem
@[irreducible] def W {α : Type} (m : R α) (Q : α → Sto → Prop) : Prop := match m with
 | some (.ok a S) => Q a S
 | some (.er _ _) => False
 | none => False
theorem W_ok {α : Type} (a : α) (S : Sto) (Q : α → Sto → Prop) : W (some (.ok a S)) Q = Q a S := by with_unfolding_all exact rfl
theorem W.out {α : Type} {m : R α} {Q : α → Sto → Prop} (h : W m Q) : ∃ a S, m = some (.ok a S) ∧ Q a S := by
 unfold W at h
 cases m with
 | none => exact h.elim
 | some r =>
  cases r with
  | ok a S => exact ⟨a, S, rfl, h⟩
  | er c S => exact h.elim
theorem W_bnd {α β : Type} (m : R α) (k : α → Sto → R β) (Q : β → Sto → Prop) : W (bnd m k) Q = W m (fun a S => W (k a S) Q) := by
 unfold W
 cases m with
 | none => rfl
 | some r => cases r <;> rfl
theorem W.mono {α : Type} {m : R α} {Q Q' : α → Sto → Prop} (h : W m Q) (hi : ∀ a S, Q a S → Q' a S) : W m Q' := by
 unfold W at h ⊢
 cases m with
 | none => exact h
 | some r =>
  cases r with
  | ok a S => exact hi a S h
  | er c S => exact h
theorem W.intro {α : Type} {m : R α} {Q : α → Sto → Prop} {a : α} {S : Sto} (e : m = some (.ok a S)) (q : Q a S) : W m Q := by
 subst e
 rw [W_ok]
 exact q
theorem ifEK_t (a b : DE) (δ : DS) (S : Sto) : ifEK a b δ true S = a δ S := rfl
theorem ifEK_f (a b : DE) (δ : DS) (S : Sto) : ifEK a b δ false S = b δ S := rfl
theorem andTK_t (b : DT) (δ : DS) (S : Sto) : andTK b δ true S = b δ S := rfl
theorem andTK_f (b : DT) (δ : DS) (S : Sto) : andTK b δ false S = ok false S := rfl
theorem orTK_t (b : DT) (δ : DS) (S : Sto) : orTK b δ true S = ok true S := rfl
theorem orTK_f (b : DT) (δ : DS) (S : Sto) : orTK b δ false S = b δ S := rfl
theorem andVB_t (b : DE) (δ : DS) (S : Sto) : andVB b δ true S = b δ S := rfl
theorem andVB_f (b : DE) (δ : DS) (S : Sto) : andVB b δ false S = ok (.bl false) S := rfl
theorem orVB_t (b : DE) (δ : DS) (S : Sto) : orVB b δ true S = ok (.bl true) S := rfl
theorem orVB_f (b : DE) (δ : DS) (S : Sto) : orVB b δ false S = b δ S := rfl
theorem chnB_t (g : D → D → Sto → R D) (b : DE) (δ : DS) (y : D) (S : Sto) : chnB g b δ y true S = bnd (b δ S) (g y) := rfl
theorem chnB_f (g : D → D → Sto → R D) (b : DE) (δ : DS) (y : D) (S : Sto) : chnB g b δ y false S = ok (.bl false) S := rfl
def outQ (Q : D → Sto → Prop) : Fl → Sto → Prop
 | .nx _, S => Q .non S
 | .rt d, S => Q d S
 | .bk _, _ => False
 | .ct _, _ => False
theorem W_outF (m : R Fl) (Q : D → Sto → Prop) : W (outF m) Q = W m (outQ Q) := by
 unfold W
 cases m with
 | none => rfl
 | some r =>
  cases r with
  | er c S => rfl
  | ok f S => cases f <;> rfl
theorem W_ifK (a b : DSt) (δ : DS) (c : Bool) (S : Sto) (Q : Fl → Sto → Prop) : W (ifK a b δ c S) Q = if c = true then W (a δ S) Q else W (b δ S) Q := by cases c <;> rfl
theorem W_ifEK (a b : DE) (δ : DS) (c : Bool) (S : Sto) (Q : D → Sto → Prop) : W (ifEK a b δ c S) Q = if c = true then W (a δ S) Q else W (b δ S) Q := by cases c <;> rfl
theorem W_andTK (b : DT) (δ : DS) (c : Bool) (S : Sto) (Q : Bool → Sto → Prop) : W (andTK b δ c S) Q = if c = true then W (b δ S) Q else Q false S := by cases c <;> first | rfl | exact W_ok ..
theorem W_orTK (b : DT) (δ : DS) (c : Bool) (S : Sto) (Q : Bool → Sto → Prop) : W (orTK b δ c S) Q = if c = true then Q true S else W (b δ S) Q := by cases c <;> first | rfl | exact W_ok ..
theorem W_andVB (b : DE) (δ : DS) (c : Bool) (S : Sto) (Q : D → Sto → Prop) : W (andVB b δ c S) Q = if c = true then W (b δ S) Q else Q (.bl false) S := by cases c <;> first | rfl | exact W_ok ..
theorem W_orVB (b : DE) (δ : DS) (c : Bool) (S : Sto) (Q : D → Sto → Prop) : W (orVB b δ c S) Q = if c = true then Q (.bl true) S else W (b δ S) Q := by cases c <;> first | rfl | exact W_ok ..
theorem W_chnB (g : D → D → Sto → R D) (b : DE) (δ : DS) (y : D) (c : Bool) (S : Sto) (Q : D → Sto → Prop) : W (chnB g b δ y c S) Q = if c = true then W (bnd (b δ S) (g y)) Q else Q (.bl false) S := by cases c <;> first | rfl | exact W_ok ..
def SLe (S S' : Sto) : Prop := ∃ X, S' = S ++ X
theorem SLe.rfl {S : Sto} : SLe S S := ⟨[], by simp⟩
theorem SLe.trans {S S' S'' : Sto} (h : SLe S S') (k : SLe S' S'') : SLe S S'' := by
 obtain ⟨X, rfl⟩ := h
 obtain ⟨Y, rfl⟩ := k
 exact ⟨X ++ Y, by simp⟩
theorem SLe.push {S S' : Sto} (o : O) (h : SLe S S') : SLe S (S' ++ [o]) := h.trans ⟨[o], by rfl⟩
theorem SLe.app {S : Sto} (X : Sto) : SLe S (S ++ X) := ⟨X, by rfl⟩
theorem SLe.len {S S' : Sto} (h : SLe S S') : S.length ≤ S'.length := by
 obtain ⟨X, rfl⟩ := h
 simp
theorem SLe.get {S S' : Sto} (h : SLe S S') {a : Nat} (ha : a < S.length) : S'[a]? = S[a]? := by
 obtain ⟨X, rfl⟩ := h
 exact List.getElem?_append_left ha
theorem SLe.set {S S' : Sto} (h : SLe S S') {a : Nat} (ha : S.length ≤ a) (o : O) : SLe S (S'.set a o) := by
 obtain ⟨X, rfl⟩ := h
 exact ⟨X.set (a - S.length) o, by rw [List.set_append_right _ _ ha]⟩
theorem lstAt_lt {S : Sto} {a : Nat} {xs : List D} (h : zH S a = some xs) : a < S.length := by
 unfold zH at h
 split at h
 ·rename_i e
  exact (List.getElem?_eq_some_iff.mp e).1
 ·cases h
theorem lstAt_eq {S S' : Sto} {a : Nat} (h : S'[a]? = S[a]?) : zH S' a = zH S a := by unfold zH; rw [h]
theorem SLe.lst {S S' : Sto} (h : SLe S S') {a : Nat} {xs : List D} (e : zH S a = some xs) : zH S' a = some xs := by
 rw [lstAt_eq (h.get (lstAt_lt e))]
 exact e
@[simp] theorem lstAt_push (S : Sto) (xs : List D) : zH (S ++ [.lst xs]) S.length = some xs := by simp [zH]
theorem lstAt_set {S : Sto} {a : Nat} {xs ys : List D} (h : zH S a = some xs) : zH (S.set a (.lst ys)) a = some ys := by
 unfold zH
 rw [List.getElem?_set_self (lstAt_lt h)]
theorem lstAt_set_ne {S : Sto} {a b : Nat} {o : O} (h : a ≠ b) : zH (S.set a o) b = zH S b := lstAt_eq (List.getElem?_set_ne h)
def loopQ (Q : Fl → Sto → Prop) (J : DS → Sto → Prop) : Fl → Sto → Prop
 | .nx δ, S => J δ S
 | .ct δ, S => J δ S
 | .bk δ, S => Q (.nx δ) S
 | .rt d, S => Q (.rt d) S
theorem W_for {src : Src} {g : DG} {b : DSt} {Q : Fl → Sto → Prop} (xs : List D) (I : Nat → DS → Sto → Prop)
  (hs : ∀ i δ S, I i δ S → src.get S i = some xs[i]?)
  (step : ∀ i x δ S, xs[i]? = some x → I i δ S → W (g x δ S) fun δ' S' => W (b δ' S') (loopQ Q (I (i + 1))))
  (fin : ∀ δ S, I xs.length δ S → Q (.nx δ) S) : ∀ n i δ S, i ≤ xs.length → xs.length ≤ i + n → I i δ S → W (forD src g b n i δ S) Q
 | 0, i, δ, S, hi, hn, h => by
  have e : i = xs.length := by omega
  have hg := hs i δ S h
  rw [List.getElem?_eq_none (by omega)] at hg
  unfold forD
  rw [hg, W_ok]
  subst e
  exact fin δ S h
 | n + 1, i, δ, S, hi, hn, h => by
  have hg := hs i δ S h
  unfold forD
  rw [hg]
  cases q : xs[i]? with
  | none =>
   have e : i = xs.length := by have := List.getElem?_eq_none_iff.mp q; omega
   subst e
   show W (some (.ok (Fl.nx δ) S)) Q
   rw [W_ok]
   exact fin δ S h
  | some x =>
   have hlt : i < xs.length := (List.getElem?_eq_some_iff.mp q).1
   show W (bnd (g x δ S) (turnK b (forD src g b n (i + 1)))) Q
   rw [W_bnd]
   refine (step i x δ S q h).mono fun δ' S' h' => ?_
   unfold turnK
   rw [W_bnd]
   refine h'.mono fun f S'' h'' => ?_
   cases f with
   | nx δ2 => exact W_for xs I hs step fin n (i + 1) δ2 S'' hlt (by omega) h''
   | ct δ2 => exact W_for xs I hs step fin n (i + 1) δ2 S'' hlt (by omega) h''
   | bk δ2 => exact W.intro rfl h''
   | rt d => exact W.intro rfl h''
theorem W_forK {src : Src} {g : DG} {b : DSt} {Q : Fl → Sto → Prop} {δ : DS} {S : Sto} (xs : List D) (I : Nat → DS → Sto → Prop) (hl : xs.length ≤ src.len S) (h0 : I 0 δ S)
  (hs : ∀ i δ S, I i δ S → src.get S i = some xs[i]?)
  (step : ∀ i x δ S, xs[i]? = some x → I i δ S → W (g x δ S) fun δ' S' => W (b δ' S') (loopQ Q (I (i + 1))))
  (fin : ∀ δ S, I xs.length δ S → Q (.nx δ) S) : W (forK g b δ src S) Q :=
 W_for xs I hs step fin _ 0 δ S (Nat.zero_le _) (by omega) h0
theorem W_while {t : DT} {b : DSt} {Q : Fl → Sto → Prop} (I : DS → Sto → Prop) (μ : DS → Sto → Nat)
  (step : ∀ δ S, I δ S → W (t δ S) fun c S' => if c = true then W (b δ S') (loopQ Q fun δ2 S2 => I δ2 S2 ∧ μ δ2 S2 < μ δ S) else Q (.nx δ) S') : ∀ n δ S, μ δ S < n → I δ S → W (whileD t b n δ S) Q
 | 0, _, _, h, _ => by omega
 | n + 1, δ, S, h, hI => by
  unfold whileD
  rw [W_bnd]
  refine (step δ S hI).mono fun c S' h' => ?_
  cases c with
  | false => exact W.intro rfl (by simpa using h')
  | true =>
   rw [if_pos rfl] at h'
   show W (bnd (b δ S') (loopK (whileD t b n))) Q
   rw [W_bnd]
   refine h'.mono fun f S2 h2 => ?_
   cases f with
   | nx δ2 => exact W_while I μ step n δ2 S2 (Nat.lt_of_lt_of_le h2.2 (by omega)) h2.1
   | ct δ2 => exact W_while I μ step n δ2 S2 (Nat.lt_of_lt_of_le h2.2 (by omega)) h2.1
   | bk δ2 => exact W.intro rfl h2
   | rt d => exact W.intro rfl h2
theorem W_whileS {t : DT} {b : DSt} {Q : Fl → Sto → Prop} {δ : DS} {S : Sto} (I : DS → Sto → Prop) (μ : DS → Sto → Nat) (h0 : I δ S)
  (step : ∀ δ S, I δ S → W (t δ S) fun c S' => if c = true then W (b δ S') (loopQ Q fun δ2 S2 => I δ2 S2 ∧ μ δ2 S2 < μ δ S) else Q (.nx δ) S') : W (whileS t b δ S) Q := by
 obtain ⟨f, S', e, q⟩ := (W_while I μ step (μ δ S + 1) δ S (Nat.lt_succ_self _) h0).out
 exact W.intro (whileS_of e) q
def Tg (g : DG) (k : Nat) (vals : D → List (Option D)) (base : DS) (P : D → Prop) : Prop := ∀ x os S, os.length = k → P x → g x (base ++ os) S = ok (base ++ vals x) S ∧ (vals x).length = k
theorem W_compD {src : Src} {g : DG} {e : DE} {base : DS} {k : Nat} {vals : D → List (Option D)} {Q : List D → Sto → Prop} (xs : List D) (I : Nat → List D → Sto → Prop) (P : D → Prop) (hP : ∀ x ∈ xs, P x) (hg : Tg g k vals base P)
  (hs : ∀ i acc S, I i acc S → src.get S i = some xs[i]?)
  (step : ∀ i x acc S, xs[i]? = some x → acc.length = i → I i acc S → W (e (base ++ vals x) S) fun d S' => I (i + 1) (acc ++ [d]) S')
  (fin : ∀ acc S, I xs.length acc S → acc.length = xs.length → Q acc S) : ∀ n i acc os S, os.length = k → acc.length = i → i ≤ xs.length → xs.length ≤ i + n → I i acc S → W (compD src g e n i (base ++ os) S) fun ds S' => Q (acc ++ ds) S'
 | 0, i, acc, os, S, ho, ha, hi, hn, h => by
  have e : i = xs.length := by omega
  have hg := hs i acc S h
  rw [List.getElem?_eq_none (by omega)] at hg
  unfold compD
  rw [hg, W_ok, List.append_nil]
  subst e
  exact fin acc S h ha
 | n + 1, i, acc, os, S, ho, ha, hi, hn, h => by
  have hgt := hs i acc S h
  unfold compD
  rw [hgt]
  cases q : xs[i]? with
  | none =>
   have e : i = xs.length := by have := List.getElem?_eq_none_iff.mp q; omega
   subst e
   show W (some (.ok [] S)) _
   rw [W_ok, List.append_nil]
   exact fin acc S h ha
  | some x =>
   have hlt : i < xs.length := (List.getElem?_eq_some_iff.mp q).1
   show W (bnd (g x (base ++ os) S) (compK e (compD src g e n (i + 1)))) _
   obtain ⟨e1, e2⟩ := hg x os S ho (hP x (List.mem_of_getElem? q))
   rw [e1, bnd_ok]
   unfold compK
   rw [W_bnd]
   refine (step i x acc S q ha h).mono fun d S' h' => ?_
   unfold compK2
   rw [W_bnd]
   refine (W_compD xs I P hP hg hs step fin n (i + 1) (acc ++ [d]) (vals x) S' e2 (by simp [ha]) hlt (by omega) h').mono fun ds S2 h2 => ?_
   unfold consK
   rw [W_ok]
   simpa using h2
theorem W_noer {α : Type} (m : R α) (Q : α → Sto → Prop) : W (noer m) Q = W m Q := by
 unfold W
 cases m with
 | none => rfl
 | some r => cases r <;> rfl
theorem W_compE {it : DI} {g : DG} {e : DE} {base : DS} {k : Nat} {S : Sto} {Q : D → Sto → Prop} (vals : D → List (Option D)) (xs : List D) (I : Nat → List D → Sto → Prop) (P : D → Prop) (hP : ∀ x ∈ xs, P x) (hg : Tg g k vals base P)
  (hit : W (it base S) fun src S' => xs.length ≤ src.len S' ∧ src.len S' ≤ 1000000 ∧ I 0 [] S' ∧ ∀ i acc S, I i acc S → src.get S i = some xs[i]?)
  (step : ∀ i x acc S, xs[i]? = some x → acc.length = i → I i acc S → W (e (base ++ vals x) S) fun d S' => I (i + 1) (acc ++ [d]) S')
  (fin : ∀ acc S, I xs.length acc S → acc.length = xs.length → Q (.ref S.length) (S ++ [.lst acc])) : W (compE it k g e base S) Q := by
 unfold compE
 rw [W_bnd]
 refine hit.mono fun src S' ⟨h1, h2, h3, h4⟩ => ?_
 unfold compL
 rw [if_pos h2, W_bnd, W_noer]
 refine (W_compD (Q := fun ds S => Q (.ref S.length) (S ++ [.lst ds])) xs I P hP hg h4 step fin _ 0 [] (List.replicate k none) S' (by simp) rfl (Nat.zero_le _) (by omega) h3).mono fun ds S2 h => ?_
 exact W.intro rfl (by simpa using h)
theorem tg_one (base : DS) : Tg (setG base.length) 1 (fun x => [some x]) base fun _ => True := fun x os S ho _ => by
 match os, ho with
 | [o], _ => exact ⟨by show ok ((base ++ [o]).set base.length (some x)) S = _; simp, rfl⟩
def pr1 : D → Option D
 | .tup (x :: _) => some x
 | _ => none
def pr2 : D → Option D
 | .tup (_ :: y :: _) => some y
 | _ => none
theorem tg_two (base : DS) : Tg (tupG [setG base.length, setG (base.length + 1)]) 2 (fun x => [pr1 x, pr2 x]) base fun x => ∃ p q, x = .tup [p, q] := fun x os S ho hp => by
 obtain ⟨p, q, rfl⟩ := hp
 match os, ho with
 | [o, o'], _ => exact ⟨by simp [tupG, tupGs, setG, pr1, pr2, List.set_append_right], rfl⟩
end Np
end
section
open Np PySem
noncomputable section
def Den.greatest_common : DSt :=
 (seqS (setS 2 (vr 0)) (seqS (setS 3 (vr 1)) (seqS (whileS (tv (op2 neD (vr 3) (cst (.int 0)))) (seqS (setS 4 (op2 modD (vr 2) (vr 3))) (seqS (setS 2 (vr 3)) (setS 3 (vr 4))))) (retS (vr 2)))))
def F.greatest_common : List D → Sto → R D := fnF 5 2 Den.greatest_common
def Den.ratio : DSt :=
 (seqS (ifS (tv (op2 eqD (vr 1) (cst (.int 0)))) nevS nxS) (seqS (setS 2 (fnE F.greatest_common (yF (fnE absD (yF (vr 0) aNil)) (yF (fnE absD (yF (vr 1) aNil)) aNil)))) (seqS (ifS (tv (op2 ltD (vr 1) (cst (.int 0)))) (setS 2 (op1 negD (vr 2))) nxS) (retS (fnE tupD (yF (op2 fdivD (vr 0) (vr 2)) (yF (op2 fdivD (vr 1) (vr 2)) aNil)))))))
def F.ratio : List D → Sto → R D := fnF 3 2 Den.ratio
def Den.plus : DSt :=
 (retS (fnE F.ratio (yF (op2 addD (op2 mulD (op2 ixD (vr 0) (cst (.int 0))) (op2 ixD (vr 1) (cst (.int 1)))) (op2 mulD (op2 ixD (vr 1) (cst (.int 0))) (op2 ixD (vr 0) (cst (.int 1))))) (yF (op2 mulD (op2 ixD (vr 0) (cst (.int 1))) (op2 ixD (vr 1) (cst (.int 1)))) aNil))))
def F.plus : List D → Sto → R D := fnF 2 2 Den.plus
def Den.minus : DSt :=
 (retS (fnE F.ratio (yF (op2 subD (op2 mulD (op2 ixD (vr 0) (cst (.int 0))) (op2 ixD (vr 1) (cst (.int 1)))) (op2 mulD (op2 ixD (vr 1) (cst (.int 0))) (op2 ixD (vr 0) (cst (.int 1))))) (yF (op2 mulD (op2 ixD (vr 0) (cst (.int 1))) (op2 ixD (vr 1) (cst (.int 1)))) aNil))))
def F.minus : List D → Sto → R D := fnF 2 2 Den.minus
def Den.times : DSt :=
 (retS (fnE F.ratio (yF (op2 mulD (op2 ixD (vr 0) (cst (.int 0))) (op2 ixD (vr 1) (cst (.int 0)))) (yF (op2 mulD (op2 ixD (vr 0) (cst (.int 1))) (op2 ixD (vr 1) (cst (.int 1)))) aNil))))
def F.times : List D → Sto → R D := fnF 2 2 Den.times
def Den.k02_whole : DSt :=
 (retS (andV (op1 (isiD .int) (vr 0)) (notV (op1 (isiD .bool) (vr 0)))))
def F.k02_whole : List D → Sto → R D := fnF 1 1 Den.k02_whole
end
end
section
open Np PySem
noncomputable section
def Den.added : DSt :=
 (retS (compE (itA zip2D (yF (vr 0) (yF (vr 1) aNil))) 2 (tupG [(setG 2), (setG 3)]) (fnE F.plus (yF (vr 2) (yF (vr 3) aNil)))))
def F.added : List D → Sto → R D := fnF 2 2 Den.added
def Den.scaled : DSt :=
 (retS (compE (itE itL (vr 0)) 1 (setG 2) (fnE F.times (yF (vr 2) (yF (vr 1) aNil)))))
def F.scaled : List D → Sto → R D := fnF 2 2 Den.scaled
def Den.k11_cell_at : DSt :=
 (seqS (ifS (tv (op2 ltD (vr 1) (fnE lenD (yF (vr 0) aNil)))) (retS (op2 ixD (vr 0) (vr 1))) nxS) (retS (cst (.int 0))))
def F.k11_cell_at : List D → Sto → R D := fnF 2 2 Den.k11_cell_at
end
end
section
open Np PySem
noncomputable section
def Den.multiplied : DSt :=
 (retS (compE (itA zip2D (yF (vr 0) (yF (vr 1) aNil))) 2 (tupG [(setG 2), (setG 3)]) (fnE F.times (yF (vr 2) (yF (vr 3) aNil)))))
def F.multiplied : List D → Sto → R D := fnF 2 2 Den.multiplied
def Den.dot : DSt :=
 (seqS (setS 3 (fnE F.multiplied (yF (vr 0) (yF (vr 1) aNil)))) (seqS (ifS (tv (op2 isNND (vr 2) (cst .non))) (setS 3 (fnE F.multiplied (yF (vr 3) (yF (vr 2) aNil)))) nxS) (seqS (setS 4 (cst (.tup [(.int 0), (.int 1)]))) (seqS (forS (itE itL (vr 3)) (setG 5) (setS 4 (fnE F.plus (yF (vr 4) (yF (vr 5) aNil))))) (retS (vr 4))))))
def F.dot : List D → Sto → R D := fnF 6 3 Den.dot
end
end
section
open Np PySem
noncomputable section
def Den.mixed : DSt :=
 (seqS (setS 3 (op2 mulD (fnE lstD (yF (cst (.tup [(.int 0), (.int 1)])) aNil)) (vr 2))) (seqS (forS (itA zip2D (yF (vr 0) (yF (vr 1) aNil))) (tupG [(setG 4), (setG 5)]) (setS 3 (fnE F.added (yF (vr 3) (yF (fnE F.scaled (yF (vr 4) (yF (vr 5) aNil))) aNil))))) (retS (vr 3))))
def F.mixed : List D → Sto → R D := fnF 6 3 Den.mixed
end
end
section
open Np PySem
noncomputable section
def Den.column_of : DSt :=
 (retS (compE (itE itL (vr 0)) 1 (setG 2) (op2 ixD (vr 2) (vr 1))))
def F.column_of : List D → Sto → R D := fnF 2 2 Den.column_of
def Den.turned : DSt :=
 (retS (compE (itA rng1D (yF (vr 1) aNil)) 1 (setG 2) (fnE F.column_of (yF (vr 0) (yF (vr 2) aNil)))))
def F.turned : List D → Sto → R D := fnF 2 2 Den.turned
def Den.unit_row : DSt :=
 (retS (compE (itA rng1D (yF (vr 0) aNil)) 1 (setG 2) (ifE (tv (op2 eqD (vr 2) (vr 1))) (cst (.tup [(.int 1), (.int 1)])) (cst (.tup [(.int 0), (.int 1)])))))
def F.unit_row : List D → Sto → R D := fnF 2 2 Den.unit_row
def Den.unit : DSt :=
 (retS (compE (itA rng1D (yF (vr 0) aNil)) 1 (setG 1) (fnE F.unit_row (yF (vr 0) (yF (vr 1) aNil)))))
def F.unit : List D → Sto → R D := fnF 1 1 Den.unit
end
end
section
open Np PySem
noncomputable section
def Den.product : DSt :=
 (retS (compE (itE itL (vr 0)) 1 (setG 3) (fnE F.mixed (yF (vr 1) (yF (vr 3) (yF (vr 2) aNil))))))
def F.product : List D → Sto → R D := fnF 3 3 Den.product
end
end
section
open Np PySem
noncomputable section
def Den.is_ratio : DSt :=
 (seqS (ifS (orT (notT (tv (op1 (isiD .tup) (vr 0)))) (tv (op2 neD (fnE lenD (yF (vr 0) aNil)) (cst (.int 2))))) (retS (cst (.bl false))) nxS) (seqS (ifS (orT (notT (tv (fnE F.k02_whole (yF (op2 ixD (vr 0) (cst (.int 0))) aNil)))) (notT (tv (fnE F.k02_whole (yF (op2 ixD (vr 0) (cst (.int 1))) aNil))))) (retS (cst (.bl false))) nxS) (retS (andV (op2 geD (op2 ixD (vr 0) (cst (.int 1))) (cst (.int 1))) (op2 eqD (fnE F.greatest_common (yF (fnE absD (yF (op2 ixD (vr 0) (cst (.int 0))) aNil)) (yF (op2 ixD (vr 0) (cst (.int 1))) aNil))) (cst (.int 1)))))))
def F.is_ratio : List D → Sto → R D := fnF 1 1 Den.is_ratio
def Den.is_row_number : DSt :=
 (retS (andV (fnE F.k02_whole (yF (vr 0) aNil)) (chn leD ltD (cst (.int 0)) (vr 0) (vr 1))))
def F.is_row_number : List D → Sto → R D := fnF 2 2 Den.is_row_number
def Den.are_unlike_rows : DSt :=
 (retS (andV (fnE F.is_row_number (yF (vr 0) (yF (vr 2) aNil))) (andV (fnE F.is_row_number (yF (vr 1) (yF (vr 2) aNil))) (op2 neD (vr 0) (vr 1)))))
def F.are_unlike_rows : List D → Sto → R D := fnF 3 3 Den.are_unlike_rows
def Den.is_deed : DSt :=
 (seqS (ifS (orT (notT (tv (op1 (isiD .tup) (vr 0)))) (tv (op2 eqD (fnE lenD (yF (vr 0) aNil)) (cst (.int 0))))) (retS (cst (.bl false))) nxS) (seqS (setS 2 (op2 ixD (vr 0) (cst (.int 0)))) (seqS (ifS (notT (tv (op1 (isiD .str) (vr 2)))) (retS (cst (.bl false))) nxS) (seqS (ifS (tv (op2 eqD (vr 2) (cst (.str "swap")))) (retS (andV (op2 eqD (fnE lenD (yF (vr 0) aNil)) (cst (.int 3))) (fnE F.are_unlike_rows (yF (op2 ixD (vr 0) (cst (.int 1))) (yF (op2 ixD (vr 0) (cst (.int 2))) (yF (vr 1) aNil)))))) nxS) (seqS (ifS (tv (op2 eqD (vr 2) (cst (.str "scale")))) (retS (andV (op2 eqD (fnE lenD (yF (vr 0) aNil)) (cst (.int 3))) (andV (fnE F.is_row_number (yF (op2 ixD (vr 0) (cst (.int 1))) (yF (vr 1) aNil))) (andV (fnE F.is_ratio (yF (op2 ixD (vr 0) (cst (.int 2))) aNil)) (op2 neD (op2 ixD (vr 0) (cst (.int 2))) (cst (.tup [(.int 0), (.int 1)]))))))) nxS) (seqS (ifS (tv (op2 eqD (vr 2) (cst (.str "add")))) (retS (andV (op2 eqD (fnE lenD (yF (vr 0) aNil)) (cst (.int 4))) (andV (fnE F.are_unlike_rows (yF (op2 ixD (vr 0) (cst (.int 1))) (yF (op2 ixD (vr 0) (cst (.int 2))) (yF (vr 1) aNil)))) (fnE F.is_ratio (yF (op2 ixD (vr 0) (cst (.int 3))) aNil))))) nxS) (retS (cst (.bl false)))))))))
def F.is_deed : List D → Sto → R D := fnF 3 2 Den.is_deed
def Den.are_deeds : DSt :=
 (seqS (ifS (notT (tv (op1 (isiD .lst) (vr 0)))) (retS (cst (.bl false))) nxS) (retS (fnE allD (yF (compE (itE itL (vr 0)) 1 (setG 2) (fnE F.is_deed (yF (vr 2) (yF (vr 1) aNil)))) aNil))))
def F.are_deeds : List D → Sto → R D := fnF 2 2 Den.are_deeds
def Den.done_once : DSt :=
 (seqS (setS 2 (fnE lofD (yF (vr 0) aNil))) (seqS (setS 3 (op2 ixD (vr 1) (cst (.int 1)))) (seqS (ifS (tv (op2 eqD (op2 ixD (vr 1) (cst (.int 0))) (cst (.str "swap")))) (seqS (asgS (op2 ixD (vr 0) (op2 ixD (vr 1) (cst (.int 2)))) (setXG (vr 2) (vr 3))) (asgS (op2 ixD (vr 0) (vr 3)) (setXG (vr 2) (op2 ixD (vr 1) (cst (.int 2)))))) (ifS (tv (op2 eqD (op2 ixD (vr 1) (cst (.int 0))) (cst (.str "scale")))) (asgS (fnE F.scaled (yF (op2 ixD (vr 0) (vr 3)) (yF (op2 ixD (vr 1) (cst (.int 2))) aNil))) (setXG (vr 2) (vr 3))) (asgS (fnE F.added (yF (op2 ixD (vr 0) (vr 3)) (yF (fnE F.scaled (yF (op2 ixD (vr 0) (op2 ixD (vr 1) (cst (.int 2)))) (yF (op2 ixD (vr 1) (cst (.int 3))) aNil))) aNil))) (setXG (vr 2) (vr 3))))) (retS (vr 2)))))
def F.done_once : List D → Sto → R D := fnF 4 2 Den.done_once
def Den.done : DSt :=
 (seqS (ifS (notT (tv (fnE F.are_deeds (yF (vr 1) (yF (fnE lenD (yF (vr 0) aNil)) aNil))))) nevS nxS) (seqS (setS 2 (compE (itE itL (vr 0)) 1 (setG 4) (fnE lofD (yF (vr 4) aNil)))) (seqS (forS (itE itL (vr 1)) (setG 3) (setS 2 (fnE F.done_once (yF (vr 2) (yF (vr 3) aNil))))) (retS (vr 2)))))
def F.done : List D → Sto → R D := fnF 4 2 Den.done
def Den.k21_great : DSt :=
 (seqS (setS 1 (op2 mulD (op2 powD (cst (.int 10)) (cst (.int 60))) (op2 powD (cst (.int 10)) (cst (.int 24))))) (retS (op2 modD (op2 mulD (op2 addD (op2 modD (vr 0) (op2 powD (cst (.int 10)) (cst (.int 60)))) (cst (.int 41))) (op2 powD (cst (.int 23)) (cst (.int 64)))) (vr 1))))
def F.k21_great : List D → Sto → R D := fnF 2 1 Den.k21_great
def Den.k21_low : DSt :=
 (seqS (setS 2 (fnE absD (yF (vr 0) aNil))) (seqS (setS 3 (vr 1)) (seqS (whileS (tv (op2 gtD (vr 3) (cst (.int 0)))) (parS 2 3 (vr 3) (op2 modD (vr 2) (vr 3)))) (retS (fnE tupD (yF (op2 fdivD (vr 0) (vr 2)) (yF (op2 fdivD (vr 1) (vr 2)) aNil)))))))
def F.k21_low : List D → Sto → R D := fnF 4 2 Den.k21_low
def Den.k21_plus : DSt :=
 (retS (fnE F.k21_low (yF (op2 addD (op2 mulD (op2 ixD (vr 0) (cst (.int 0))) (op2 ixD (vr 1) (cst (.int 1)))) (op2 mulD (op2 ixD (vr 1) (cst (.int 0))) (op2 ixD (vr 0) (cst (.int 1))))) (yF (op2 mulD (op2 ixD (vr 0) (cst (.int 1))) (op2 ixD (vr 1) (cst (.int 1)))) aNil))))
def F.k21_plus : List D → Sto → R D := fnF 2 2 Den.k21_plus
def Den.k21_times : DSt :=
 (retS (fnE F.k21_low (yF (op2 mulD (op2 ixD (vr 0) (cst (.int 0))) (op2 ixD (vr 1) (cst (.int 0)))) (yF (op2 mulD (op2 ixD (vr 0) (cst (.int 1))) (op2 ixD (vr 1) (cst (.int 1)))) aNil))))
def F.k21_times : List D → Sto → R D := fnF 2 2 Den.k21_times
def Den.k21_mix : DSt :=
 (seqS (setS 3 (op2 mulD (fnE lstD (yF (fnE tupD (yF (cst (.int 0)) (yF (cst (.int 1)) aNil))) aNil)) (vr 2))) (seqS (forS (itA zip2D (yF (vr 0) (yF (vr 1) aNil))) (tupG [(setG 4), (setG 5)]) (setS 3 (compE (itA zip2D (yF (vr 3) (yF (vr 4) aNil))) 2 (tupG [(setG 6), (setG 7)]) (fnE F.k21_plus (yF (vr 6) (yF (fnE F.k21_times (yF (vr 7) (yF (vr 5) aNil))) aNil)))))) (retS (vr 3))))
def F.k21_mix : List D → Sto → R D := fnF 6 3 Den.k21_mix
def Den.k21_is_row : DSt :=
 (seqS (ifS (orT (notT (tv (op1 (isiD .lst) (vr 0)))) (tv (op2 neD (fnE lenD (yF (vr 0) aNil)) (vr 1)))) (retS (cst (.bl false))) nxS) (seqS (forS (itE itL (vr 0)) (setG 2) (seqS (ifS (orT (notT (tv (op1 (isiD .tup) (vr 2)))) (orT (tv (op2 neD (fnE lenD (yF (vr 2) aNil)) (cst (.int 2)))) (orT (notT (tv (fnE F.k02_whole (yF (op2 ixD (vr 2) (cst (.int 0))) aNil)))) (notT (tv (fnE F.k02_whole (yF (op2 ixD (vr 2) (cst (.int 1))) aNil))))))) (retS (cst (.bl false))) nxS) (ifS (orT (tv (op2 ltD (op2 ixD (vr 2) (cst (.int 1))) (cst (.int 1)))) (tv (op2 neD (fnE F.k21_low (yF (op2 ixD (vr 2) (cst (.int 0))) (yF (op2 ixD (vr 2) (cst (.int 1))) aNil))) (vr 2)))) (retS (cst (.bl false))) nxS))) (retS (cst (.bl true)))))
def F.k21_is_row : List D → Sto → R D := fnF 3 2 Den.k21_is_row
def Den.k21_is_table : DSt :=
 (seqS (ifS (orT (notT (tv (op1 (isiD .lst) (vr 0)))) (tv (op2 neD (fnE lenD (yF (vr 0) aNil)) (vr 1)))) (retS (cst (.bl false))) nxS) (retS (fnE allD (yF (compE (itE itL (vr 0)) 1 (setG 3) (fnE F.k21_is_row (yF (vr 3) (yF (vr 2) aNil)))) aNil))))
def F.k21_is_table : List D → Sto → R D := fnF 3 3 Den.k21_is_table
end
end
section
open Np PySem
noncomputable section
def Den.over : DSt :=
 (retS (fnE F.ratio (yF (op2 mulD (op2 ixD (vr 0) (cst (.int 0))) (op2 ixD (vr 1) (cst (.int 1)))) (yF (op2 mulD (op2 ixD (vr 0) (cst (.int 1))) (op2 ixD (vr 1) (cst (.int 0)))) aNil))))
def F.over : List D → Sto → R D := fnF 2 2 Den.over
end
end
section
open Np PySem
noncomputable section
def Den.row_with_thing : DSt :=
 (seqS (forS (itA rng2D (yF (vr 1) (yF (fnE lenD (yF (vr 0) aNil)) aNil))) (setG 3) (ifS (tv (op2 neD (op2 ixD (op2 ixD (vr 0) (vr 3)) (vr 2)) (cst (.tup [(.int 0), (.int 1)])))) (retS (vr 3)) nxS)) (retS (cst .non)))
def F.row_with_thing : List D → Sto → R D := fnF 4 3 Den.row_with_thing
def Den.clearing_deeds : DSt :=
 (seqS (setS 4 (fnE lstD aNil)) (seqS (ifS (tv (op2 neD (vr 2) (vr 1))) (dropS (opM appD (vr 4) (fnE tupD (yF (cst (.str "swap")) (yF (vr 1) (yF (vr 2) aNil)))))) nxS) (seqS (setS 5 (op2 ixD (op2 ixD (vr 0) (vr 2)) (vr 3))) (seqS (ifS (tv (op2 neD (vr 5) (cst (.tup [(.int 1), (.int 1)])))) (dropS (opM appD (vr 4) (fnE tupD (yF (cst (.str "scale")) (yF (vr 1) (yF (fnE F.over (yF (cst (.tup [(.int 1), (.int 1)])) (yF (vr 5) aNil))) aNil)))))) nxS) (seqS (forS (itA enumD (yF (vr 0) aNil)) (tupG [(setG 6), (setG 7)]) (ifS (andT (tv (op2 neD (vr 6) (vr 1))) (andT (tv (op2 neD (vr 6) (vr 2))) (tv (op2 neD (op2 ixD (vr 7) (vr 3)) (cst (.tup [(.int 0), (.int 1)])))))) (dropS (opM appD (vr 4) (fnE tupD (yF (cst (.str "add")) (yF (vr 6) (yF (vr 1) (yF (fnE F.minus (yF (cst (.tup [(.int 0), (.int 1)])) (yF (op2 ixD (vr 7) (vr 3)) aNil))) aNil))))))) nxS)) (retS (vr 4)))))))
def F.clearing_deeds : List D → Sto → R D := fnF 8 4 Den.clearing_deeds
def Den.reduced : DSt :=
 (seqS (setS 2 (compE (itE itL (vr 0)) 1 (setG 9) (fnE lofD (yF (vr 9) aNil)))) (seqS (setS 3 (fnE lstD aNil)) (seqS (setS 4 (fnE lstD aNil)) (seqS (forS (itA rng1D (yF (vr 1) aNil)) (setG 5) (seqS (setS 6 (fnE lenD (yF (vr 4) aNil))) (seqS (setS 7 (fnE F.row_with_thing (yF (vr 2) (yF (vr 6) (yF (vr 5) aNil))))) (seqS (ifS (tv (op2 isND (vr 7) (cst .non))) cntS nxS) (seqS (setS 8 (fnE F.clearing_deeds (yF (vr 2) (yF (vr 6) (yF (vr 7) (yF (vr 5) aNil)))))) (seqS (setS 2 (fnE F.done (yF (vr 2) (yF (vr 8) aNil)))) (seqS (dropS (opM extD (vr 3) (vr 8))) (dropS (opM appD (vr 4) (vr 5)))))))))) (retS (fnE tupD (yF (vr 3) (yF (vr 2) (yF (vr 4) aNil)))))))))
def F.reduced : List D → Sto → R D := fnF 9 2 Den.reduced
def Den.k24_ratio : DSt :=
 (seqS (asgS (fnE dvmD (yF (vr 0) (yF (cst (.int 8)) aNil))) (tupG [(setG 0), (setG 1)])) (seqS (asgS (fnE dvmD (yF (vr 0) (yF (cst (.int 19)) aNil))) (tupG [(setG 0), (setG 2)])) (seqS (ifS (tv (op2 eqD (vr 1) (cst (.int 7)))) (retS (fnE tupD (yF (op2 fdivD (vr 0) (cst (.int 1000))) (yF (fnE tupD (yF (op2 subD (op2 modD (vr 0) (op2 powD (cst (.int 10)) (cst (.int 8)))) (op2 mulD (cst (.int 5)) (op2 powD (cst (.int 10)) (cst (.int 7))))) (yF (cst (.int 1)) aNil))) aNil)))) nxS) (retS (fnE tupD (yF (vr 0) (yF (fnE F.k21_low (yF (op2 subD (vr 2) (cst (.int 9))) (yF (op2 ixD (fnE lstD (yF (cst (.int 1)) (yF (cst (.int 1)) (yF (cst (.int 1)) (yF (cst (.int 2)) (yF (cst (.int 3)) (yF (cst (.int 4)) (yF (cst (.int 6)) (yF (cst (.int 12)) aNil))))))))) (vr 1)) aNil))) aNil)))))))
def F.k24_ratio : List D → Sto → R D := fnF 3 1 Den.k24_ratio
def Den.k24_row : DSt :=
 (seqS (setS 2 (fnE lstD aNil)) (seqS (forS (itA rng1D (yF (vr 1) aNil)) (setG 3) (seqS (asgS (fnE F.k24_ratio (yF (vr 0) aNil)) (tupG [(setG 0), (setG 4)])) (dropS (opM appD (vr 2) (vr 4))))) (retS (vr 2))))
def F.k24_row : List D → Sto → R D := fnF 5 2 Den.k24_row
def Den.k24_table : DSt :=
 (seqS (setS 3 (fnE lstD aNil)) (seqS (forS (itA rng1D (yF (fnE lenD (yF (vr 0) aNil)) aNil)) (setG 4) (seqS (setS 5 (fnE F.k21_great (yF (op2 ixD (vr 0) (vr 4)) aNil))) (seqS (setS 6 (fnE F.k24_row (yF (op2 fdivD (vr 5) (cst (.int 9))) (yF (vr 1) aNil)))) (seqS (ifS (andT (tv (vr 2)) (andT (tv (op2 gtD (op2 modD (vr 5) (cst (.int 3))) (cst (.int 0)))) (tv (op2 gtD (vr 4) (cst (.int 0)))))) (seqS (setS 7 (fnE F.k24_row (yF (op2 fdivD (vr 5) (cst (.int 9))) (yF (vr 4) aNil)))) (setS 6 (fnE F.k21_mix (yF (vr 3) (yF (vr 7) (yF (vr 1) aNil)))))) nxS) (dropS (opM appD (vr 3) (vr 6))))))) (retS (vr 3))))
def F.k24_table : List D → Sto → R D := fnF 8 3 Den.k24_table
end
end
section
open Np PySem
noncomputable section
end
end
section
open Np PySem
noncomputable section
end
end
section
open Np PySem
noncomputable section
end
end
section
open Np PySem
noncomputable section
end
end
section
open Np PySem
noncomputable section
def Den.placed : DSt :=
 (seqS (setS 3 (fnE lofD (yF (vr 0) aNil))) (seqS (forS (itA zip2D (yF (vr 1) (yF (vr 2) aNil))) (tupG [(setG 4), (setG 5)]) (asgS (vr 5) (setXG (vr 3) (vr 4)))) (retS (vr 3))))
def F.placed : List D → Sto → R D := fnF 6 3 Den.placed
def Den.way : DSt :=
 (retS (fnE F.placed (yF (fnE F.unit_row (yF (vr 2) (yF (vr 3) aNil))) (yF (vr 1) (yF (compE (itE itL (vr 0)) 1 (setG 4) (fnE F.minus (yF (cst (.tup [(.int 0), (.int 1)])) (yF (op2 ixD (vr 4) (vr 3)) aNil)))) aNil)))))
def F.way : List D → Sto → R D := fnF 4 4 Den.way
def Den.answer : DSt :=
 (seqS (setS 3 (fnE F.reduced (yF (vr 0) (yF (vr 2) aNil)))) (seqS (setS 4 (op2 ixD (vr 3) (cst (.int 2)))) (seqS (setS 5 (fnE F.done (yF (fnE F.unit (yF (fnE lenD (yF (vr 0) aNil)) aNil)) (yF (op2 ixD (vr 3) (cst (.int 0))) aNil)))) (seqS (setS 6 (compE (itE itL (vr 5)) 1 (setG 10) (fnE (fnD F.dot [.non]) (yF (vr 10) (yF (vr 1) aNil))))) (seqS (forS (itA rng2D (yF (fnE lenD (yF (vr 4) aNil)) (yF (fnE lenD (yF (vr 0) aNil)) aNil))) (setG 7) (ifS (tv (op2 neD (op2 ixD (vr 6) (vr 7)) (cst (.tup [(.int 0), (.int 1)])))) (retS (fnE tupD (yF (cst (.str "none")) (yF (fnE F.scaled (yF (op2 ixD (vr 5) (vr 7)) (yF (fnE F.over (yF (cst (.tup [(.int 1), (.int 1)])) (yF (op2 ixD (vr 6) (vr 7)) aNil))) aNil))) aNil)))) nxS)) (seqS (setS 8 (fnE F.placed (yF (op2 mulD (fnE lstD (yF (cst (.tup [(.int 0), (.int 1)])) aNil)) (vr 2)) (yF (vr 4) (yF (vr 6) aNil))))) (seqS (setS 9 (compI (itA rng1D (yF (vr 2) aNil)) 1 (setG 10) (tv (op2 notinD (vr 10) (vr 4))) (fnE F.way (yF (op2 ixD (vr 3) (cst (.int 1))) (yF (vr 4) (yF (vr 2) (yF (vr 10) aNil))))))) (retS (fnE tupD (yF (cst (.str "is")) (yF (vr 8) (yF (vr 9) aNil))))))))))))
def F.answer : List D → Sto → R D := fnF 10 3 Den.answer
def Den.k28_dot : DSt :=
 (seqS (setS 2 (fnE tupD (yF (cst (.int 0)) (yF (cst (.int 1)) aNil)))) (seqS (forS (itA zip2D (yF (vr 0) (yF (vr 1) aNil))) (tupG [(setG 3), (setG 4)]) (setS 2 (fnE F.k21_plus (yF (vr 2) (yF (fnE F.k21_times (yF (vr 3) (yF (vr 4) aNil))) aNil))))) (retS (vr 2))))
def F.k28_dot : List D → Sto → R D := fnF 5 2 Den.k28_dot
def Den.k28_answers : DSt :=
 (retS (fnE allD (yF (compE (itA zip2D (yF (vr 0) (yF (vr 1) aNil))) 2 (tupG [(setG 3), (setG 4)]) (op2 eqD (fnE F.k28_dot (yF (vr 3) (yF (vr 2) aNil))) (vr 4))) aNil)))
def F.k28_answers : List D → Sto → R D := fnF 3 3 Den.k28_answers
def Den.k28_none : DSt :=
 (seqS (ifS (orT (tv (op2 neD (fnE lenD (yF (vr 3) aNil)) (cst (.int 2)))) (orT (tv (op2 neD (op2 ixD (vr 3) (cst (.int 0))) (cst (.str "none")))) (notT (tv (fnE F.k21_is_row (yF (op2 ixD (vr 3) (cst (.int 1))) (yF (fnE lenD (yF (vr 0) aNil)) aNil))))))) (retS (cst (.bl false))) nxS) (retS (andV (op2 eqD (fnE F.k21_mix (yF (vr 0) (yF (op2 ixD (vr 3) (cst (.int 1))) (yF (vr 2) aNil)))) (op2 mulD (fnE lstD (yF (fnE tupD (yF (cst (.int 0)) (yF (cst (.int 1)) aNil))) aNil)) (vr 2))) (op2 eqD (fnE F.k28_dot (yF (op2 ixD (vr 3) (cst (.int 1))) (yF (vr 1) aNil))) (fnE tupD (yF (cst (.int 1)) (yF (cst (.int 1)) aNil)))))))
def F.k28_none : List D → Sto → R D := fnF 4 4 Den.k28_none
def Den.k28_is : DSt :=
 (seqS (ifS (orT (tv (op2 neD (fnE lenD (yF (vr 3) aNil)) (cst (.int 3)))) (orT (notT (tv (fnE F.k21_is_row (yF (op2 ixD (vr 3) (cst (.int 1))) (yF (vr 2) aNil))))) (notT (tv (fnE F.k21_is_table (yF (op2 ixD (vr 3) (cst (.int 2))) (yF (fnE lenD (yF (op2 ixD (vr 3) (cst (.int 2))) aNil)) (yF (vr 2) aNil)))))))) (retS (cst (.bl false))) nxS) (seqS (asgS (slE (vr 3) (atP (cst (.int 1))) noP) (tupG [(setG 4), (setG 5)])) (seqS (ifS (notT (tv (fnE F.k28_answers (yF (vr 0) (yF (vr 1) (yF (vr 4) aNil)))))) (retS (cst (.bl false))) nxS) (seqS (ifS (notT (tv (fnE allD (yF (compE (itE itL (vr 5)) 1 (setG 9) (fnE F.k28_answers (yF (vr 0) (yF (op2 mulD (fnE lstD (yF (fnE tupD (yF (cst (.int 0)) (yF (cst (.int 1)) aNil))) aNil)) (fnE lenD (yF (vr 0) aNil))) (yF (vr 9) aNil))))) aNil)))) (retS (cst (.bl false))) nxS) (seqS (setS 6 (op2 ixD (fnE F.reduced (yF (vr 0) (yF (vr 2) aNil))) (cst (.int 2)))) (seqS (setS 7 (compI (itA rng1D (yF (vr 2) aNil)) 1 (setG 9) (tv (op2 notinD (vr 9) (vr 6))) (vr 9))) (seqS (ifS (tv (op2 neD (fnE lenD (yF (vr 5) aNil)) (fnE lenD (yF (vr 7) aNil)))) (retS (cst (.bl false))) nxS) (seqS (forS (itA rng1D (yF (fnE lenD (yF (vr 7) aNil)) aNil)) (setG 8) (seqS (ifS (tv (op2 neD (compE (itE itL (vr 5)) 1 (setG 9) (op2 ixD (vr 9) (op2 ixD (vr 7) (vr 8)))) (compE (itA rng1D (yF (fnE lenD (yF (vr 5) aNil)) aNil)) 1 (setG 9) (fnE tupD (yF (fnE intD (yF (op2 eqD (vr 9) (vr 8)) aNil)) (yF (cst (.int 1)) aNil)))))) (retS (cst (.bl false))) nxS) (ifS (tv (op2 neD (op2 ixD (vr 4) (op2 ixD (vr 7) (vr 8))) (fnE tupD (yF (cst (.int 0)) (yF (cst (.int 1)) aNil))))) (retS (cst (.bl false))) nxS))) (retS (cst (.bl true)))))))))))
def F.k28_is : List D → Sto → R D := fnF 9 4 Den.k28_is
def Den.k28_law : DSt :=
 (seqS (setS 1 (op2 modD (fnE F.k11_cell_at (yF (vr 0) (yF (cst (.int 0)) aNil))) (cst (.int 6)))) (seqS (setS 2 (op2 modD (fnE F.k11_cell_at (yF (vr 0) (yF (cst (.int 1)) aNil))) (cst (.int 6)))) (seqS (setS 3 (op2 modD (fnE F.k11_cell_at (yF (vr 0) (yF (cst (.int 2)) aNil))) (cst (.int 8)))) (seqS (setS 4 (fnE F.k24_table (yF (compE (itA rng1D (yF (vr 1) aNil)) 1 (setG 14) (fnE F.k11_cell_at (yF (vr 0) (yF (op2 addD (cst (.int 3)) (vr 14)) aNil)))) (yF (vr 2) (yF (op2 eqD (op2 modD (vr 3) (cst (.int 2))) (cst (.int 0))) aNil))))) (seqS (setS 5 (fnE F.k21_great (yF (op2 addD (fnE F.k11_cell_at (yF (vr 0) (yF (cst (.int 2)) aNil))) (cst (.int 1))) aNil))) (seqS (setS 6 (fnE F.k24_row (yF (vr 5) (yF (vr 1) aNil)))) (seqS (ifS (tv (op2 gtD (vr 3) (cst (.int 1)))) (seqS (setS 7 (fnE F.k24_row (yF (vr 5) (yF (vr 2) aNil)))) (setS 6 (compE (itE itL (vr 4)) 1 (setG 14) (fnE F.k28_dot (yF (vr 14) (yF (vr 7) aNil)))))) nxS) (seqS (ifS (andT (tv (op2 eqD (vr 3) (cst (.int 7)))) (tv (op2 gtD (vr 1) (cst (.int 0))))) (asgS (fnE F.k21_plus (yF (op2 ixD (vr 6) (op2 modD (vr 5) (vr 1))) (yF (fnE tupD (yF (cst (.int 1)) (yF (cst (.int 1)) aNil))) aNil))) (setXG (vr 6) (op2 modD (vr 5) (vr 1)))) nxS) (seqS (setS 8 (fnE lstD (yF (compE (itE itL (vr 4)) 1 (setG 14) (fnE lofD (yF (vr 14) aNil))) (yF (fnE lofD (yF (vr 6) aNil)) aNil)))) (seqS (setS 9 (fnE F.answer (yF (op2 ixD (vr 8) (cst (.int 0))) (yF (op2 ixD (vr 8) (cst (.int 1))) (yF (vr 2) aNil))))) (seqS (ifS (orT (notT (tv (op1 (isiD .tup) (vr 9)))) (orT (tv (op2 ltD (fnE lenD (yF (vr 9) aNil)) (cst (.int 2)))) (tv (op2 neD (vr 8) (fnE lstD (yF (vr 4) (yF (vr 6) aNil))))))) (retS (cst (.bl false))) nxS) (seqS (ifS (tv (op2 neD (op2 ixD (vr 9) (cst (.int 0))) (cst (.str "is")))) (retS (andV (notV (chn ltD ltD (cst (.int 1)) (vr 3) (cst (.int 7)))) (fnE F.k28_none (yF (vr 4) (yF (vr 6) (yF (vr 2) (yF (vr 9) aNil))))))) nxS) (seqS (ifS (notT (tv (fnE F.k28_is (yF (vr 4) (yF (vr 6) (yF (vr 2) (yF (vr 9) aNil))))))) (retS (cst (.bl false))) nxS) (seqS (forS (itE itL (slE (vr 0) (atP (cst (.int 3))) (atP (cst (.int 11))))) (setG 10) (seqS (setS 11 (fnE F.k21_mix (yF (op2 ixD (vr 9) (cst (.int 2))) (yF (fnE F.k24_row (yF (fnE F.k21_great (yF (vr 10) aNil)) (yF (fnE lenD (yF (op2 ixD (vr 9) (cst (.int 2))) aNil)) aNil))) (yF (vr 2) aNil))))) (seqS (setS 12 (compE (itA zip2D (yF (op2 ixD (vr 9) (cst (.int 1))) (yF (vr 11) aNil))) 2 (tupG [(setG 14), (setG 15)]) (fnE F.k21_plus (yF (vr 14) (yF (vr 15) aNil))))) (ifS (notT (tv (fnE F.k28_answers (yF (vr 4) (yF (vr 6) (yF (vr 12) aNil)))))) (retS (cst (.bl false))) nxS)))) (seqS (setS 13 (fnE F.answer (yF (vr 4) (yF (vr 6) (yF (vr 2) aNil))))) (retS (op2 eqD (vr 13) (vr 9))))))))))))))))))
def F.k28_law : List D → Sto → R D := fnF 14 1 Den.k28_law
end
end
section
open Np PySem
noncomputable section
end
end
section
open Np PySem
noncomputable section
end
end
section
open Np PySem
noncomputable section
def DenX.ratio : DSt :=
 (seqS (ifS (tv (op2 eqD (vr 1) (cst (.int 0)))) (raiseS "NoRatio") nxS) (seqS (noerS (setS 2 (fnE F.greatest_common (yF (fnE absD (yF (vr 0) aNil)) (yF (fnE absD (yF (vr 1) aNil)) aNil))))) (seqS (noerS (ifS (tv (op2 ltD (vr 1) (cst (.int 0)))) (setS 2 (op1 negD (vr 2))) nxS)) (noerS (retS (fnE tupD (yF (op2 fdivD (vr 0) (vr 2)) (yF (op2 fdivD (vr 1) (vr 2)) aNil))))))))
def X.ratio : List D → Sto → R D := fnX 3 2 DenX.ratio
def DenX.over : DSt :=
 (retS (fnE X.ratio (yF (op2 mulD (op2 ixD (vr 0) (cst (.int 0))) (op2 ixD (vr 1) (cst (.int 1)))) (yF (op2 mulD (op2 ixD (vr 0) (cst (.int 1))) (op2 ixD (vr 1) (cst (.int 0)))) aNil))))
def X.over : List D → Sto → R D := fnX 2 2 DenX.over
end
end
section
namespace Np
open PySem
def ratD (r : Rat) : D := .tup [.int r.num, .int (r.den : Int)]
def asRat : D → Option Rat
 | .tup [.int n, .int d] => if (Rat.divInt n d).num = n ∧ ((Rat.divInt n d).den : Int) = d then some (Rat.divInt n d) else none
 | _ => none
@[simp] theorem asRat_ratD (r : Rat) : asRat (ratD r) = some r := by
 have h : Rat.divInt r.num (r.den : Int) = r := Rat.num_divInt_den r
 simp [asRat, ratD, h]
def Le (n : Nat) (r : Rat) : Prop := r.num.natAbs < 2 ^ n ∧ r.den < 2 ^ n
theorem Le.mono {m n : Nat} {r : Rat} (h : Le m r) (k : m ≤ n) : Le n r := by
 have : 2 ^ m ≤ 2 ^ n := Nat.pow_le_pow_right (by decide) k
 exact ⟨Nat.lt_of_lt_of_le h.1 this, Nat.lt_of_lt_of_le h.2 this⟩
theorem log2_le {n k : Nat} (h : k < 2 ^ n) : k.log2 ≤ n := by
 rcases Nat.eq_zero_or_pos k with z | z
 ·subst z; simp
 ·exact Nat.le_of_lt ((Nat.log2_lt (Nat.ne_of_gt z)).mpr h)
theorem Le.num {n : Nat} {r : Rat} (h : Le n r) : r.num.natAbs.log2 ≤ n := log2_le h.1
theorem Le.den {n : Nat} {r : Rat} (h : Le n r) : ((r.den : Int)).natAbs.log2 ≤ n := by
 rw [Int.natAbs_natCast]; exact log2_le h.2
theorem num_divInt_le (a b : Int) : (Rat.divInt a b).num.natAbs ≤ a.natAbs := by
 rw [Rat.num_divInt]
 by_cases hb : b = 0
 ·subst hb; simp
 ·have e : (b.sign * a / (b.gcd a : Int)).natAbs ≤ (b.sign * a).natAbs := by
   rw [Int.natAbs_ediv_of_dvd]
   ·exact Nat.div_le_self _ _
   ·exact Int.dvd_mul_of_dvd_right (Int.gcd_dvd_right ..)
  refine Nat.le_trans e ?_
  rw [Int.natAbs_mul, Int.natAbs_sign_of_ne_zero hb, Nat.one_mul]
  exact Nat.le_refl _
theorem den_divInt_le {a b : Int} (hb : b ≠ 0) : (Rat.divInt a b).den ≤ b.natAbs := by
 rw [Rat.den_divInt, if_neg hb]
 exact Nat.div_le_self _ _
theorem Le.divInt {n : Nat} {a b : Int} (hb : b ≠ 0) (h1 : a.natAbs < 2 ^ n) (h2 : b.natAbs < 2 ^ n) : Le n (Rat.divInt a b) :=
 ⟨Nat.lt_of_le_of_lt (num_divInt_le a b) h1, Nat.lt_of_le_of_lt (den_divInt_le hb) h2⟩
theorem den_pos' (r : Rat) : (0 : Int) < r.den := by have := r.den_pos; omega
theorem add_divInt (a b : Rat) : a + b = Rat.divInt (a.num * b.den + b.num * a.den) (a.den * b.den) := by
 rw [Rat.add_def', ← Rat.divInt_ofNat]
 norm_cast
theorem sub_divInt (a b : Rat) : a - b = Rat.divInt (a.num * b.den - b.num * a.den) (a.den * b.den) := by
 rw [Rat.sub_def', ← Rat.divInt_ofNat]
 norm_cast
theorem mul_divInt (a b : Rat) : a * b = Rat.divInt (a.num * b.num) (a.den * b.den) := by
 rw [Rat.mul_def', ← Rat.divInt_ofNat]
 norm_cast
theorem den2_ne (a b : Rat) : (a.den : Int) * b.den ≠ 0 := Int.mul_ne_zero (by have := den_pos' a; omega) (by have := den_pos' b; omega)
theorem mul_lt_pow {x y m n : Nat} (h1 : x < 2 ^ m) (h2 : y < 2 ^ n) : x * y < 2 ^ (m + n) := by
 rw [Nat.pow_add]
 exact Nat.mul_lt_mul'' h1 h2
theorem Le.add {m n : Nat} {a b : Rat} (ha : Le m a) (hb : Le n b) : Le (m + n + 1) (a + b) := by
 rw [add_divInt]
 refine Le.divInt (den2_ne a b) ?_ ?_
 ·have h1 : (a.num * (b.den : Int)).natAbs < 2 ^ (m + n) := by rw [Int.natAbs_mul, Int.natAbs_natCast]; exact mul_lt_pow ha.1 hb.2
  have h2 : (b.num * (a.den : Int)).natAbs < 2 ^ (m + n) := by rw [Int.natAbs_mul, Int.natAbs_natCast, Nat.add_comm]; exact mul_lt_pow hb.1 ha.2
  have h3 := Int.natAbs_add_le (a.num * (b.den : Int)) (b.num * (a.den : Int))
  rw [Nat.pow_succ]
  omega
 ·rw [Int.natAbs_mul, Int.natAbs_natCast, Int.natAbs_natCast]
  exact Nat.lt_trans (mul_lt_pow ha.2 hb.2) (Nat.pow_lt_pow_right (by decide) (Nat.lt_succ_self _))
theorem Le.neg {n : Nat} {a : Rat} (ha : Le n a) : Le n (-a) := by
 refine ⟨?_, ?_⟩
 ·show (-a.num).natAbs < _
  rw [Int.natAbs_neg]; exact ha.1
 ·show a.den < _
  exact ha.2
theorem Le.mul {m n : Nat} {a b : Rat} (ha : Le m a) (hb : Le n b) : Le (m + n) (a * b) := by
 rw [mul_divInt]
 refine Le.divInt (den2_ne a b) ?_ ?_
 ·rw [Int.natAbs_mul]; exact mul_lt_pow ha.1 hb.1
 ·rw [Int.natAbs_mul, Int.natAbs_natCast, Int.natAbs_natCast]; exact mul_lt_pow ha.2 hb.2
def sm (r : Rat) : Prop := r.num.natAbs.log2 ≤ 40000000 ∧ r.den.log2 ≤ 40000000
theorem Le.sm {n : Nat} {r : Rat} (h : Le n r) (k : n ≤ 40000000) : sm r := ⟨Nat.le_trans (log2_le h.1) k, Nat.le_trans (log2_le h.2) k⟩
theorem Le.inv {n : Nat} {a : Rat} (ha : Le n a) (hn : 0 < n) : Le n a⁻¹ := by
 by_cases h : a.num = 0
 ·have : a = 0 := Rat.num_eq_zero.mp h
  subst this
  rw [Rat.inv_zero]
  exact ha
 ·rw [Rat.inv_def]
  refine Le.divInt h ?_ ha.1
  rw [Int.natAbs_natCast]
  exact ha.2
theorem div_divInt {a b : Rat} : a / b = Rat.divInt (a.num * b.den) (a.den * b.num) := by
 rw [Rat.div_def, Rat.inv_def]
 conv => lhs; lhs; rw [← Rat.num_divInt_den a]
 rw [Rat.divInt_mul_divInt]
theorem Le.one {n : Nat} (h : 0 < n) : Le n 1 := ⟨by
 show (1 : Nat) < 2 ^ n
 exact Nat.one_lt_two_pow (by omega), by
 show (1 : Nat) < 2 ^ n
 exact Nat.one_lt_two_pow (by omega)⟩
theorem Le.zero {n : Nat} (h : 0 < n) : Le n 0 := ⟨by
 show (0 : Nat) < 2 ^ n
 exact Nat.two_pow_pos n, by
 show (1 : Nat) < 2 ^ n
 exact Nat.one_lt_two_pow (by omega)⟩
end Np
end
section
namespace Np
open PySem
theorem W_fnF {n k : Nat} {g : DSt} {ds : List D} {S : Sto} {Q : D → Sto → Prop} (h : ds.length = k) (q : W (outF (g (startD n ds) S)) Q) : W (fnF n k g ds S) Q := by unfold fnF; rw [if_pos h, W_noer]; exact q
theorem rd_int (n : Nat) (S : Sto) (i : Int) : rd n S (.int i) = some (.int i) := by cases n <;> rfl
theorem rd_bl (n : Nat) (S : Sto) (b : Bool) : rd n S (.bl b) = some (.bl b) := by cases n <;> rfl
theorem eqD_int (i j : Int) (S : Sto) : eqD (.int i) (.int j) S = ok (.bl (decide (i = j))) S := by
 unfold eqD; rw [rd_int, rd_int]; rfl
theorem neD_int (i j : Int) (S : Sto) : neD (.int i) (.int j) S = ok (.bl (!decide (i = j))) S := by
 unfold neD; rw [rd_int, rd_int]; rfl
theorem eqD_bl (i j : Bool) (S : Sto) : eqD (.bl i) (.bl j) S = ok (.bl (i == j)) S := by
 unfold eqD; rw [rd_bl, rd_bl]; rfl
def ratT (q : Rat) : T := .tup [.int q.num, .int q.den]
theorem rd_rat (n : Nat) (S : Sto) (q : Rat) : rd (n + 1) S (ratD q) = some (ratT q) := by
 simp [rd, rdl, ratD, ratT, rd_int]
theorem rat_ext {p q : Rat} (h1 : p.num = q.num) (h2 : (p.den : Int) = q.den) : p = q := Rat.ext h1 (by omega)
theorem eqT_rat (p q : Rat) : eqT (ratT p) (ratT q) = decide (p = q) := by
 simp only [ratT, eqT, eqTs, Bool.and_true]
 by_cases h : p = q
 ·subst h; simp
 ·rw [decide_eq_false h]
  by_cases h1 : p.num = q.num
  ·have h2 : ¬ (p.den : Int) = q.den := fun h2 => h (rat_ext h1 h2)
   simp [h1]
   exact fun h3 => h2 h3
  ·simp [h1]
theorem eqD_rat (p q : Rat) (S : Sto) : eqD (ratD p) (ratD q) S = ok (.bl (decide (p = q))) S := by
 unfold eqD; rw [rd_rat, rd_rat]
 show ok (D.bl (eqT (ratT p) (ratT q))) S = _
 rw [eqT_rat]
theorem neD_rat (p q : Rat) (S : Sto) : neD (ratD p) (ratD q) S = ok (.bl (!decide (p = q))) S := by
 unfold neD; rw [rd_rat, rd_rat]
 show ok (D.bl (!eqT (ratT p) (ratT q))) S = _
 rw [eqT_rat]
theorem rat0 : D.tup [.int 0, .int 1] = ratD 0 := rfl
theorem rat1 : D.tup [.int 1, .int 1] = ratD 1 := rfl
theorem tup2 (x y : D) (S : Sto) : tupD [x, y] S = ok (.tup [x, y]) S := rfl
theorem rdl_map {f : D → Option T} {α : Type} (g : α → D) (h : α → T) (hf : ∀ x, f (g x) = some (h x)) : ∀ xs : List α, rdl f (xs.map g) = some (xs.map h)
 | [] => rfl
 | x :: xs => by simp [rdl, hf, rdl_map g h hf xs]
theorem eqTs_rat : ∀ xs ys : List Rat, eqTs (xs.map ratT) (ys.map ratT) = decide (xs = ys)
 | [], [] => by simp [eqTs]
 | [], _ :: _ => by simp [eqTs]
 | _ :: _, [] => by simp [eqTs]
 | x :: xs, y :: ys => by
  simp only [List.map_cons, eqTs, eqT_rat, eqTs_rat xs ys, List.cons.injEq]
  by_cases h1 : x = y <;> by_cases h2 : xs = ys <;> simp [h1, h2]
abbrev RowA (S : Sto) (a : Nat) (xs : List Rat) : Prop := zH S a = some (xs.map ratD)
theorem rd_row {S : Sto} {a : Nat} {xs : List Rat} (n : Nat) (h : RowA S a xs) : rd (n + 2) S (.ref a) = some (.lst (xs.map ratT)) := by
 show (match zH S a with | some ds => (rdl (rd (n + 1) S) ds).map T.lst | none => none) = _
 rw [h]
 show (rdl (rd (n + 1) S) (xs.map ratD)).map T.lst = _
 rw [rdl_map ratD ratT (rd_rat n S)]
 rfl
theorem eqD_row {S : Sto} {a b : Nat} {xs ys : List Rat} (ha : RowA S a xs) (hb : RowA S b ys) : eqD (.ref a) (.ref b) S = ok (.bl (decide (xs = ys))) S := by
 unfold eqD; rw [rd_row 7 ha, rd_row 7 hb]
 show ok (D.bl (eqTs (xs.map ratT) (ys.map ratT))) S = _
 rw [eqTs_rat]
theorem neD_row {S : Sto} {a b : Nat} {xs ys : List Rat} (ha : RowA S a xs) (hb : RowA S b ys) : neD (.ref a) (.ref b) S = ok (.bl (!decide (xs = ys))) S := by
 unfold neD; rw [rd_row 7 ha, rd_row 7 hb]
 show ok (D.bl (!eqTs (xs.map ratT) (ys.map ratT))) S = _
 rw [eqTs_rat]
theorem addD_int (i j : Int) (S : Sto) : addD (.int i) (.int j) S = ok (.int (i + j)) S := rfl
theorem subD_int (i j : Int) (S : Sto) : subD (.int i) (.int j) S = ok (.int (i - j)) S := rfl
theorem negD_int (i : Int) (S : Sto) : negD (.int i) S = ok (.int (-i)) S := rfl
theorem absD_int (i : Int) (S : Sto) : absD [.int i] S = ok (.int (if i < 0 then -i else i)) S := rfl
theorem ltD_int (i j : Int) (S : Sto) : ltD (.int i) (.int j) S = ok (.bl (decide (i < j))) S := rfl
theorem leD_int (i j : Int) (S : Sto) : leD (.int i) (.int j) S = ok (.bl (decide (i ≤ j))) S := rfl
theorem gtD_int (i j : Int) (S : Sto) : gtD (.int i) (.int j) S = ok (.bl (decide (j < i))) S := rfl
theorem geD_int (i j : Int) (S : Sto) : geD (.int i) (.int j) S = ok (.bl (decide (j ≤ i))) S := rfl
theorem fdivD_int {i j : Int} (h : j ≠ 0) (S : Sto) : fdivD (.int i) (.int j) S = ok (.int (i.fdiv j)) S := by show (if _ then _ else _) = _; rw [if_neg h]
theorem modD_int {i j : Int} (h : j ≠ 0) (S : Sto) : modD (.int i) (.int j) S = ok (.int (i.fmod j)) S := by show (if _ then _ else _) = _; rw [if_neg h]
theorem mulD_int {i j : Int} (h : i.natAbs.log2 + j.natAbs.log2 ≤ 100000000) (S : Sto) : mulD (.int i) (.int j) S = ok (.int (i * j)) S := by
 show (if _ then _ else _) = _
 rw [if_pos h]
theorem atPK_int (i : Int) (S : Sto) : atPK (.int i) S = ok (some i) S := rfl
theorem isND_non (x : D) (S : Sto) : isND x .non S = ok (.bl (isNoneB x)) S := rfl
theorem isNND_non (x : D) (S : Sto) : isNND x .non S = ok (.bl (!isNoneB x)) S := rfl
theorem noneB_non : isNoneB .non = true := rfl
theorem noneB_ref (a : Nat) : isNoneB (.ref a) = false := rfl
theorem noneB_tup (a : List D) : isNoneB (.tup a) = false := rfl
theorem noneB_int (a : Int) : isNoneB (.int a) = false := rfl
theorem noneB_rat (a : Rat) : isNoneB (ratD a) = false := rfl
theorem isi_int_int (i : Int) (S : Sto) : isiD .int (.int i) S = ok (.bl true) S := rfl
theorem isi_bool_int (i : Int) (S : Sto) : isiD .bool (.int i) S = ok (.bl false) S := rfl
theorem isi_bool_bl (i : Bool) (S : Sto) : isiD .bool (.bl i) S = ok (.bl true) S := rfl
theorem isi_tup_rat (p : Rat) (S : Sto) : isiD .tup (ratD p) S = ok (.bl true) S := rfl
theorem isi_tup_tup (p : List D) (S : Sto) : isiD .tup (.tup p) S = ok (.bl true) S := rfl
theorem isi_lst_ref {S : Sto} {a : Nat} {xs : List D} (h : zH S a = some xs) : isiD .lst (.ref a) S = ok (.bl true) S := by
 unfold zH at h
 split at h
 ·rename_i e
  show (match (match S[a]? with | some (.lst _) => some true | _ => none) with | some b => ok (D.bl b) S | none => none) = _
  rw [e]
 ·cases h
theorem lenD_ref {S : Sto} {a : Nat} {xs : List D} (h : zH S a = some xs) : lenD [.ref a] S = ok (.int xs.length) S := by
 show lenK (zH S a) S = _
 rw [h]; rfl
theorem lenD_rat (p : Rat) (S : Sto) : lenD [ratD p] S = ok (.int 2) S := rfl
theorem lenD_tup (xs : List D) (S : Sto) : lenD [.tup xs] S = ok (.int xs.length) S := rfl
theorem lenD_scr (xs : List D) (S : Sto) : lenD [.scr xs] S = ok (.int xs.length) S := rfl
theorem ixA_nat {n i : Nat} (h : i < n) : ixA n (i : Int) = some i := by
 unfold ixA
 rw [if_pos (by omega), if_pos (by omega)]
 rfl
theorem ixD_ref {S : Sto} {a i : Nat} {xs : List D} {d : D} (h : zH S a = some xs) (hi : xs[i]? = some d) : ixD (.ref a) (.int i) S = ok d S := by
 have hl : i < xs.length := (List.getElem?_eq_some_iff.mp hi).1
 show ixK (zH S a) i S = _
 rw [h]
 unfold ixK
 simp only [ixA_nat hl, Option.bind_some, hi]
theorem ixD_scr {S : Sto} {i : Nat} {xs : List D} {d : D} (hi : xs[i]? = some d) : ixD (.scr xs) (.int i) S = ok d S := by
 have hl : i < xs.length := (List.getElem?_eq_some_iff.mp hi).1
 show ixK (some xs) i S = _
 unfold ixK
 simp only [ixA_nat hl, Option.bind_some, hi]
theorem ix0 (p : Rat) (S : Sto) : ixD (ratD p) (.int 0) S = ok (.int p.num) S := rfl
theorem ix1 (p : Rat) (S : Sto) : ixD (ratD p) (.int 1) S = ok (.int p.den) S := rfl
theorem itL_ref {S : Sto} {a : Nat} {xs : List D} (h : zH S a = some xs) : itL (.ref a) S = ok (.one a) S := by
 show (match zH S a with | some _ => ok (Src.one a) S | none => none) = _
 rw [h]
theorem itL_scr (xs : List D) (S : Sto) : itL (.scr xs) S = ok (.fix xs) S := rfl
theorem lofD_ref {S : Sto} {a : Nat} {xs : List D} (h : zH S a = some xs) : lofD [.ref a] S = ok (.ref S.length) (S ++ [.lst xs]) := by
 show (match zH S a with | some xs => newO (.lst xs) S | none => none) = _
 rw [h]; rfl
theorem appD_ref {S : Sto} {a : Nat} {xs : List D} (d : D) (h : zH S a = some xs) (hl : xs.length < 1000000) : appD (.ref a) d S = ok .non (S.set a (.lst (xs ++ [d]))) := by
 show (match zH S a with | some xs => _ | none => none) = _
 rw [h]
 show (if _ then _ else _) = _
 rw [if_pos hl]
theorem opMK_ref {S : Sto} {a : Nat} {xs : List D} (h : zH S a = some xs) (f : D → D → Sto → R D) (b : DE) (δ : DS) : opMK f b δ (.ref a) S = bnd (b δ S) (f (.ref a)) := by
 unfold opMK isL
 simp only [h, Option.isSome_some, if_true]
theorem sm.nn {a b : Rat} (ha : sm a) (hb : sm b) : a.num.natAbs.log2 + b.num.natAbs.log2 ≤ 100000000 := by have := ha.1; have := hb.1; omega
theorem sm.nd {a b : Rat} (ha : sm a) (hb : sm b) : a.num.natAbs.log2 + ((b.den : Int)).natAbs.log2 ≤ 100000000 := by have := ha.1; have := hb.2; rw [Int.natAbs_natCast]; omega
theorem sm.dn {a b : Rat} (ha : sm a) (hb : sm b) : ((a.den : Int)).natAbs.log2 + b.num.natAbs.log2 ≤ 100000000 := by have := ha.2; have := hb.1; rw [Int.natAbs_natCast]; omega
theorem sm.dd {a b : Rat} (ha : sm a) (hb : sm b) : ((a.den : Int)).natAbs.log2 + ((b.den : Int)).natAbs.log2 ≤ 100000000 := by have := ha.2; have := hb.2; rw [Int.natAbs_natCast, Int.natAbs_natCast]; omega
end Np
end
local macro_rules
  | `(tactic| simp_all [$xs,*]) => do
    let ys : Lean.Syntax.TSepArray [`Lean.Parser.Tactic.simpStar, `Lean.Parser.Tactic.simpErase, `Lean.Parser.Tactic.simpLemma] "," := ⟨xs.elemsAndSeps⟩
    `(tactic| simp only [Np.ifK_t, Np.ifK_f, Np.ifEK_t, Np.ifEK_f, Np.andTK_t, Np.andTK_f, Np.orTK_t, Np.orTK_f, Np.andVB_t, Np.andVB_f, Np.orVB_t, Np.orVB_f, Np.chnB_t, Np.chnB_f, Np.W_bnd, Np.W_ok, Np.W_outF, Np.outQ, Np.seqS, Np.asgS, Np.asgK, Np.setS, Np.setG, Np.retS, Np.retK, Np.ifS, Np.dropS, Np.dropK, Np.nxS, Np.seqK_nx, Np.seqK_rt, Np.vr, Np.cst, Np.op1, Np.op2, Np.op2K, Np.opM, Np.opM3, Np.op3, Np.op3J, Np.op3K, Np.op3K2, Np.fnE, Np.fnD, Np.yF, Np.aConsK, Np.consK, Np.aNil, Np.tv, Np.truV_bl,
  Np.andT, Np.orT, Np.notT, Np.notK, Np.andV, Np.andVK, Np.orV, Np.orVK, Np.notV, Np.notVK, Np.notVB, Np.ifE, Np.chn, Np.chnK, Np.chnK2, Np.chnT, Np.parS, Np.parK, Np.parK2, Np.tupGs, Np.bnd_ok, Np.itE, Np.itA, Np.forS, Np.cntS, Np.brkS,
  Np.startD, List.map_cons, List.map_nil, List.length_cons, List.length_nil, List.replicate, List.cons_append, List.nil_append, List.getElem?_cons_zero, List.getElem?_cons_succ, List.set_cons_zero, List.set_cons_succ, Nat.reduceAdd, Nat.reduceSub, Nat.zero_add,
  Np.addD_int, Np.subD_int, Np.negD_int, Np.absD_int, Np.ltD_int, Np.leD_int, Np.gtD_int, Np.geD_int, Np.isi_int_int, Np.isi_bool_int, Np.isi_bool_bl, Np.isi_tup_rat, Np.isi_tup_tup, Np.isND_non, Np.isNND_non, Np.noneB_non, Np.noneB_ref, Np.noneB_tup, Np.noneB_int, Np.noneB_rat, Np.eqD_int, Np.neD_int, Np.eqD_bl, Np.eqD_rat, Np.neD_rat, Np.tup2, Np.rat0, Np.rat1, Np.slE, Np.slK, Np.slK1, Np.slK2, Np.noP, Np.atP, Np.atPK_int,
  Np.lenD_rat, Np.lenD_tup, Np.lenD_scr, Np.ix0, Np.ix1, Np.itL_scr,
  decide_true, decide_false, Bool.not_true, Bool.not_false, Bool.not_not, decide_eq_true_eq, Bool.not_eq_true', decide_eq_false_iff_not, Bool.false_eq_true, if_true, if_false, Bool.not_eq_eq_eq_not, reduceIte, reduceCtorEq, ne_eq, not_true_eq_false, not_false_eq_true, and_self, $ys,*])
section
namespace Nm
open Np PySem
theorem gcd_step {a b : Int} (hb : 0 < b) (ha : 0 ≤ a) : 0 ≤ a.fmod b ∧ a.fmod b < b ∧ Int.gcd b (a.fmod b) = Int.gcd a b := by
 rw [Int.fmod_eq_emod_of_nonneg a (by omega)]
 refine ⟨Int.emod_nonneg _ (by omega), Int.emod_lt_of_pos _ hb, ?_⟩
 obtain ⟨x, rfl⟩ := Int.eq_ofNat_of_zero_le ha
 obtain ⟨y, rfl⟩ := Int.eq_ofNat_of_zero_le (Int.le_of_lt hb)
 rw [← Int.natCast_emod, Int.gcd_natCast_natCast, Int.gcd_natCast_natCast, Nat.gcd_comm y, ← Nat.gcd_rec, Nat.gcd_comm]
theorem W_eq {α : Type} {m : R α} {a : α} {S : Sto} (h : W m fun b S' => b = a ∧ S' = S) : m = ok a S := by
 obtain ⟨b, S', e, rfl, rfl⟩ := h.out
 exact e
theorem greatest_common_eq {a b : Int} (ha : 0 ≤ a) (hb : 0 ≤ b) (S : Sto) : F.greatest_common [.int a, .int b] S = ok (.int (Int.gcd a b)) S := by
 refine W_eq ?_
 (unfold F.greatest_common; refine Np.W_fnF rfl ?_; unfold Den.greatest_common; simp_all [])
 refine W_whileS (fun δ S' => S' = S ∧ ∃ x y o, δ = [some (.int a), some (.int b), some (.int x), some (.int y), o] ∧ 0 ≤ x ∧ 0 ≤ y ∧ Int.gcd x y = Int.gcd a b) (fun δ _ => match δ with | [_, _, _, some (.int y), _] => y.natAbs | _ => 0) ⟨rfl, a, b, none, rfl, ha, hb, rfl⟩ ?_
 rintro δ S' ⟨rfl, x, y, o, rfl, hx, hy, hg⟩
 simp_all []
 by_cases h0 : y = 0
 ·subst h0
  simp_all []
  rw [← hg]
  simp
  omega
 ·rw [if_pos h0]
  obtain ⟨h1, h2, h3⟩ := gcd_step (a := x) (b := y) (by omega) hx
  simp_all [modD_int h0]
  simp only [loopQ]
  refine ⟨⟨trivial, y, x.fmod y, _, rfl, hy, h1, by rw [h3, hg]⟩, by omega⟩
theorem gcd_abs (a b : Int) : Int.gcd (if a < 0 then -a else a) (if b < 0 then -b else b) = Int.gcd b a := by
 rw [Int.gcd_comm b a]
 unfold Int.gcd
 congr 1 <;> split <;> simp
theorem fdiv_exact {a b : Int} (h : b ∣ a) (hb : b ≠ 0) : a.fdiv b = a / b := by
 obtain ⟨c, rfl⟩ := h
 rw [Int.mul_fdiv_cancel_left _ hb, Int.mul_ediv_cancel_left _ hb]
theorem ratio_parts {a b : Int} (hb : b ≠ 0) : ∀ c : Int, c = (if b < 0 then -((Int.gcd b a : Nat) : Int) else ((Int.gcd b a : Nat) : Int)) → c ≠ 0 ∧ a.fdiv c = (Rat.divInt a b).num ∧ b.fdiv c = ((Rat.divInt a b).den : Int) := by
 intro c hc
 have g0 : Int.gcd b a ≠ 0 := fun z => hb (Int.eq_zero_of_gcd_eq_zero_left z)
 have g1 : ((Int.gcd b a : Nat) : Int) ∣ a := Int.gcd_dvd_right ..
 have g2 : ((Int.gcd b a : Nat) : Int) ∣ b := Int.gcd_dvd_left ..
 have g3 : ((Int.gcd b a : Nat) : Int) ≠ 0 := by omega
 rw [Rat.num_divInt, Rat.den_divInt, if_neg hb]
 split at hc
 ·rename_i hn
  subst hc
  refine ⟨by omega, ?_, ?_⟩
  ·rw [fdiv_exact (Int.neg_dvd.mpr g1) (by omega), Int.ediv_neg, Int.sign_eq_neg_one_of_neg hn, Int.neg_one_mul, Int.neg_ediv_of_dvd g1]
  ·rw [fdiv_exact (Int.neg_dvd.mpr g2) (by omega), Int.ediv_neg, Int.natCast_ediv, Int.ofNat_natAbs_of_nonpos (by omega), Int.neg_ediv_of_dvd g2]
 ·rename_i hn
  subst hc
  refine ⟨g3, ?_, ?_⟩
  ·rw [fdiv_exact g1 g3, Int.sign_eq_one_of_pos (by omega), Int.one_mul]
  ·rw [fdiv_exact g2 g3, Int.natCast_ediv, Int.natAbs_of_nonneg (by omega)]
theorem abs_nonneg (a : Int) : 0 ≤ (if a < 0 then -a else a) := by split <;> omega
theorem ratio_eq {a b : Int} (hb : b ≠ 0) (S : Sto) : F.ratio [.int a, .int b] S = ok (ratD (Rat.divInt a b)) S := by
 refine W_eq ?_
 (unfold F.ratio; refine Np.W_fnF rfl ?_; unfold Den.ratio; simp_all [])
 simp_all [hb, greatest_common_eq (abs_nonneg _) (abs_nonneg _), gcd_abs]
 by_cases hn : b < 0
 ·obtain ⟨c0, c1, c2⟩ := ratio_parts (a := a) hb (-((Int.gcd b a : Nat) : Int)) (by rw [if_pos hn])
  simp_all [hn, fdivD_int c0]
  simp only [c1, c2, ratD, and_self]
 ·obtain ⟨c0, c1, c2⟩ := ratio_parts (a := a) hb (((Int.gcd b a : Nat) : Int)) (by rw [if_neg hn])
  simp_all [hn, fdivD_int c0]
  simp only [c1, c2, ratD, and_self]
theorem plus_eq {p q : Rat} (hp : sm p) (hq : sm q) (S : Sto) : F.plus [ratD p, ratD q] S = ok (ratD (p + q)) S := by
 refine W_eq ?_
 (unfold F.plus; refine Np.W_fnF rfl ?_; unfold Den.plus; simp_all [])
 simp_all [mulD_int (hp.nd hq), mulD_int (hq.nd hp), mulD_int (hp.dd hq), ratio_eq (den2_ne p q), ← add_divInt]
theorem minus_eq {p q : Rat} (hp : sm p) (hq : sm q) (S : Sto) : F.minus [ratD p, ratD q] S = ok (ratD (p - q)) S := by
 refine W_eq ?_
 (unfold F.minus; refine Np.W_fnF rfl ?_; unfold Den.minus; simp_all [])
 simp_all [mulD_int (hp.nd hq), mulD_int (hq.nd hp), mulD_int (hp.dd hq), ratio_eq (den2_ne p q), ← sub_divInt]
theorem times_eq {p q : Rat} (hp : sm p) (hq : sm q) (S : Sto) : F.times [ratD p, ratD q] S = ok (ratD (p * q)) S := by
 refine W_eq ?_
 (unfold F.times; refine Np.W_fnF rfl ?_; unfold Den.times; simp_all [])
 simp_all [mulD_int (hp.nn hq), mulD_int (hp.dd hq), ratio_eq (den2_ne p q), ← mul_divInt]
theorem over_eq {p q : Rat} (hp : sm p) (hq : sm q) (h : q ≠ 0) (S : Sto) : F.over [ratD p, ratD q] S = ok (ratD (p / q)) S := by
 refine W_eq ?_
 (unfold F.over; refine Np.W_fnF rfl ?_; unfold Den.over; simp_all [])
 have h2 : (p.den : Int) * q.num ≠ 0 := Int.mul_ne_zero (by have := den_pos' p; omega) fun z => h (Rat.num_eq_zero.mp z)
 simp_all [mulD_int (hp.nd hq), mulD_int (hp.dn hq), ratio_eq h2, ← div_divInt]
end Nm
end
section
namespace Nm
open Np PySem
def Has (src : Src) (S : Sto) (xs : List D) : Prop := xs.length ≤ src.len S ∧ ∀ i, src.get S i = some xs[i]?
theorem Has.fix (xs : List D) (S : Sto) : Has (.fix xs) S xs := ⟨Nat.le_refl _, fun _ => rfl⟩
theorem get_one {a : Nat} {S : Sto} {xs : List D} (h : zH S a = some xs) (i : Nat) : (Src.one a).get S i = some xs[i]? := by
 show (match zH S a with | some xs => some xs[i]? | none => none) = _
 rw [h]
theorem len_one {a : Nat} {S : Sto} {xs : List D} (h : zH S a = some xs) : (Src.one a).len S = xs.length := by
 show (match zH S a with | some xs => xs.length | none => 0) = _
 rw [h]
theorem Has.one {a : Nat} {S : Sto} {xs : List D} (h : zH S a = some xs) : Has (.one a) S xs := ⟨by rw [len_one h]; exact Nat.le_refl _, get_one h⟩
def pairs (xs ys : List D) : List D := List.zipWith (fun x y => .tup [x, y]) xs ys
theorem get_two {a b : Nat} {S : Sto} {xs ys : List D} (h : zH S a = some xs) (k : zH S b = some ys) (i : Nat) : (Src.two a b).get S i = some (pairs xs ys)[i]? := by
 show (match zH S a, zH S b with | some xs, some ys => some (two1 xs[i]? ys[i]?) | _, _ => none) = _
 rw [h, k]
 show some (two1 xs[i]? ys[i]?) = _
 unfold pairs
 rw [List.getElem?_zipWith]
 cases xs[i]? <;> cases ys[i]? <;> rfl
theorem len_two {a b : Nat} {S : Sto} {xs : List D} (h : zH S a = some xs) : (Src.two a b).len S = xs.length := by
 show (match zH S a with | some xs => xs.length | none => 0) = _
 rw [h]
theorem Has.two {a b : Nat} {S : Sto} {xs ys : List D} (h : zH S a = some xs) (k : zH S b = some ys) : Has (.two a b) S (pairs xs ys) := ⟨by
 rw [len_two h]; unfold pairs; rw [List.length_zipWith]; omega, get_two h k⟩
theorem zip2D_ref {a b : Nat} {S : Sto} {xs ys : List D} (h : zH S a = some xs) (k : zH S b = some ys) : zip2D [.ref a, .ref b] S = ok (.two a b) S := by
 show (match zH S a, zH S b with | some _, some _ => ok (Src.two a b) S | _, _ => none) = _
 rw [h, k]
theorem rng1D_nat {n : Nat} (h : n < 1000000) (S : Sto) : rng1D [.int n] S = ok (.fix (intsD 0 n)) S := by
 have hlim := lim_eq
 simp only [rng1D]
 rw [if_pos (by omega)]
 rfl
theorem intsD_map : ∀ (n : Nat) (lo : Nat), intsD lo n = (List.range' lo n).map fun i => D.int (i : Nat)
 | 0, _ => rfl
 | n + 1, lo => by
  have := intsD_map n (lo + 1)
  simp only [List.range'_succ, List.map_cons, intsD]
  rw [← this]
  rfl
theorem intsD_zero (n : Nat) : intsD 0 n = (List.range n).map fun i => D.int (i : Nat) := by
 have := intsD_map n 0
 rw [List.range_eq_range']
 exact this
theorem comp_pure {it : DI} {g : DG} {e : DE} {base : DS} {k : Nat} {S : Sto} {src : Src} (vals : D → List (Option D)) {xs : List D} {f : D → D} {P : D → Prop} (hg : Tg g k vals base P) (hit : it base S = ok src S) (hs : Has src S xs) (hl : src.len S ≤ 1000000) (hP : ∀ x ∈ xs, P x)
  (step : ∀ x ∈ xs, e (base ++ vals x) S = ok (f x) S) : compE it k g e base S = ok (.ref S.length) (S ++ [.lst (xs.map f)]) := by
 refine W_eq ?_
 refine W_compE vals xs (fun i acc S' => S' = S ∧ acc = (xs.take i).map f) P hP hg ?_ ?_ ?_
 ·rw [hit, W_ok]
  exact ⟨hs.1, hl, ⟨rfl, rfl⟩, fun i acc S' ⟨h, _⟩ => by rw [h]; exact hs.2 i⟩
 ·rintro i x acc S' hx ha ⟨rfl, he⟩
  rw [step x (List.mem_of_getElem? hx), W_ok]
  refine ⟨rfl, ?_⟩
  rw [he, List.take_add_one, hx]
  simp
 ·rintro acc S' ⟨rfl, he⟩ _
  rw [he, List.take_length]
  exact ⟨rfl, rfl⟩
theorem W_compX {it : DI} {g : DG} {e : DE} {base : DS} {k : Nat} {S : Sto} {Q : D → Sto → Prop} (vals : D → List (Option D)) (xs : List D) (Rl : D → D → Prop) (P : D → Prop) (hg : Tg g k vals base P) (hP : ∀ x ∈ xs, P x)
  (hit : W (it base S) fun src S' => xs.length ≤ src.len S' ∧ src.len S' ≤ 1000000 ∧ SLe S S' ∧ ∀ i S'', SLe S' S'' → src.get S'' i = some xs[i]?)
  (step : ∀ x S', x ∈ xs → SLe S S' → W (e (base ++ vals x) S') fun d S'' => Rl x d ∧ SLe S' S'')
  (fin : ∀ ds S', SLe S S' → ds.length = xs.length → (∀ (i : Nat) x d, xs[i]? = some x → ds[i]? = some d → Rl x d) → Q (.ref S'.length) (S' ++ [.lst ds])) : W (compE it k g e base S) Q := by
 obtain ⟨src, S0, e0, h1, h2, h3, h4⟩ := hit.out
 refine W_compE vals xs (fun i acc S' => SLe S0 S' ∧ acc.length = i ∧ ∀ (j : Nat) x d, xs[j]? = some x → acc[j]? = some d → Rl x d) P hP hg ?_ ?_ ?_
 ·rw [e0, W_ok]
  exact ⟨h1, h2, ⟨SLe.rfl, rfl, fun j x d _ h => by simp at h⟩, fun i acc S'' h => h4 i S'' h.1⟩
 ·intro i x acc S' hx ha ⟨hS, _, he⟩
  refine (step x S' (List.mem_of_getElem? hx) (h3.trans hS)).mono fun d S'' ⟨h1, h2⟩ => ⟨hS.trans h2, by simp [ha], fun j y d' hy hd => ?_⟩
  by_cases hj : j < acc.length
  ·rw [List.getElem?_append_left hj] at hd
   exact he j y d' hy hd
  ·rw [List.getElem?_append_right (by omega)] at hd
   have : j = i := by
    have := (List.getElem?_eq_some_iff.mp hd).1
    simp at this
    omega
   subst this
   rw [hx] at hy
   cases hy
   rw [← ha] at hd
   simp at hd
   rw [← hd]
   exact h1
 ·intro acc S' ⟨hS, hl, he⟩ hl'
  exact fin acc S' (h3.trans hS) hl' he
theorem mem_pairs {xs ys : List D} {z : D} (h : z ∈ pairs xs ys) : ∃ p q, z = .tup [p, q] := by
 unfold pairs at h
 obtain ⟨i, hi, rfl⟩ := List.getElem_of_mem h
 rw [List.getElem_zipWith]
 exact ⟨_, _, rfl⟩
theorem pairs_map (f : D → D) (g : Rat → Rat → Rat) (hf : ∀ p q : Rat, f (.tup [ratD p, ratD q]) = ratD (g p q)) : ∀ xs ys : List Rat, (pairs (xs.map ratD) (ys.map ratD)).map f = (List.zipWith g xs ys).map ratD
 | [], _ => rfl
 | _ :: _, [] => rfl
 | x :: xs, y :: ys => by
  have := pairs_map f g hf xs ys
  unfold pairs at this ⊢
  simp [hf, this]
noncomputable def pr (g : Rat → Rat → Rat) (d : D) : D := match d with
 | .tup [p, q] => match asRat p, asRat q with
  | some a, some b => ratD (g a b)
  | _, _ => .non
 | _ => .non
theorem pr_eq (g : Rat → Rat → Rat) (p q : Rat) : pr g (.tup [ratD p, ratD q]) = ratD (g p q) := by
 show (match asRat (ratD p), asRat (ratD q) with | some a, some b => ratD (g a b) | _, _ => .non) = _
 rw [asRat_ratD, asRat_ratD]
theorem zip_step {f : List D → Sto → R D} {g : Rat → Rat → Rat} {S : Sto} {xs ys : List Rat} (hf : ∀ p ∈ xs, ∀ q ∈ ys, f [ratD p, ratD q] S = ok (ratD (g p q)) S) : ∀ z ∈ pairs (xs.map ratD) (ys.map ratD), ∃ p ∈ xs, ∃ q ∈ ys, z = .tup [ratD p, ratD q] ∧ f [ratD p, ratD q] S = ok (pr g z) S := by
 intro z hz
 unfold pairs at hz
 obtain ⟨i, hi, rfl⟩ := List.getElem_of_mem hz
 rw [List.getElem_zipWith, List.getElem_map, List.getElem_map]
 rw [List.length_zipWith, List.length_map, List.length_map] at hi
 exact ⟨_, List.getElem_mem _, _, List.getElem_mem _, rfl, by rw [pr_eq]; exact hf _ (List.getElem_mem _) _ (List.getElem_mem _)⟩
theorem comp_zip {f : List D → Sto → R D} {g : Rat → Rat → Rat} {S : Sto} {a b : Nat} {xs ys : List Rat} (ha : RowA S a xs) (hb : RowA S b ys) (hl : xs.length ≤ 1000000) (hf : ∀ p ∈ xs, ∀ q ∈ ys, f [ratD p, ratD q] S = ok (ratD (g p q)) S) :
  compE (itA zip2D (yF (vr 0) (yF (vr 1) aNil))) 2 (tupG [(setG 2), (setG 3)]) (fnE f (yF (vr 2) (yF (vr 3) aNil))) [some (.ref a), some (.ref b)] S = ok (.ref S.length) (S ++ [.lst ((List.zipWith g xs ys).map ratD)]) := by
 have := comp_pure (it := itA zip2D (yF (vr 0) (yF (vr 1) aNil))) (e := fnE f (yF (vr 2) (yF (vr 3) aNil))) (f := pr g) _ (tg_two [some (.ref a), some (.ref b)]) (src := .two a b) (S := S) (by
   simp only [itA, yF, aConsK, aNil, consK, vr, List.getElem?_cons_zero, List.getElem?_cons_succ, bnd_ok]
   exact zip2D_ref ha hb) (Has.two ha hb) (by rw [len_two ha, List.length_map]; exact hl) (fun x hx => mem_pairs hx) (fun z hz => by
   obtain ⟨p, _, q, _, rfl, h⟩ := zip_step hf z hz
   exact h)
 rw [pairs_map (pr g) g (pr_eq g)] at this
 exact this
theorem added_eq {S : Sto} {a b : Nat} {xs ys : List Rat} (ha : RowA S a xs) (hb : RowA S b ys) (hl : xs.length ≤ 1000000) (sx : ∀ x ∈ xs, sm x) (sy : ∀ y ∈ ys, sm y) : F.added [.ref a, .ref b] S = ok (.ref S.length) (S ++ [.lst ((List.zipWith (· + ·) xs ys).map ratD)]) := by
 refine W_eq ?_
 (unfold F.added; refine Np.W_fnF rfl ?_; unfold Den.added; simp_all [])
 rw [comp_zip ha hb hl fun p hp q hq => plus_eq (sx p hp) (sy q hq) S]
 simp_all []
theorem multiplied_eq {S : Sto} {a b : Nat} {xs ys : List Rat} (ha : RowA S a xs) (hb : RowA S b ys) (hl : xs.length ≤ 1000000) (sx : ∀ x ∈ xs, sm x) (sy : ∀ y ∈ ys, sm y) : F.multiplied [.ref a, .ref b] S = ok (.ref S.length) (S ++ [.lst ((List.zipWith (· * ·) xs ys).map ratD)]) := by
 refine W_eq ?_
 (unfold F.multiplied; refine Np.W_fnF rfl ?_; unfold Den.multiplied; simp_all [])
 rw [comp_zip ha hb hl fun p hp q hq => times_eq (sx p hp) (sy q hq) S]
 simp_all []
noncomputable def on1 (g : Rat → D) (d : D) : D := match asRat d with
 | some a => g a
 | none => .non
theorem on1_eq (g : Rat → D) (p : Rat) : on1 g (ratD p) = g p := by unfold on1; rw [asRat_ratD]
theorem map_on1 (g : Rat → D) (xs : List Rat) : (xs.map ratD).map (on1 g) = xs.map g := by
 rw [List.map_map]
 exact List.map_congr_left fun x _ => on1_eq g x
theorem comp_row {e : DE} {base : DS} {S : Sto} {a : Nat} {xs : List Rat} {g : Rat → D} {it : DI} (hit : it base S = ok (.one a) S) (ha : RowA S a xs) (hl : xs.length ≤ 1000000) (he : ∀ x ∈ xs, e (base ++ [some (ratD x)]) S = ok (g x) S) :
  compE it 1 (setG base.length) e base S = ok (.ref S.length) (S ++ [.lst (xs.map g)]) := by
 rw [comp_pure _ (tg_one base) hit (Has.one ha) (by rw [len_one ha, List.length_map]; exact hl) (fun _ _ => trivial) (f := on1 g) fun x hx => by
  obtain ⟨q, hq, rfl⟩ := List.mem_map.mp hx
  rw [on1_eq]
  exact he q hq]
 rw [map_on1]
theorem scaled_eq {S : Sto} {a : Nat} {xs : List Rat} {q : Rat} (ha : RowA S a xs) (hl : xs.length ≤ 1000000) (sx : ∀ x ∈ xs, sm x) (sq : sm q) : F.scaled [.ref a, ratD q] S = ok (.ref S.length) (S ++ [.lst ((xs.map (· * q)).map ratD)]) := by
 refine W_eq ?_
 (unfold F.scaled; refine Np.W_fnF rfl ?_; unfold Den.scaled; simp_all [])
 have := comp_row (it := itE itL (vr 0)) (e := fnE F.times (yF (vr 2) (yF (vr 1) aNil))) (base := [some (.ref a), some (ratD q)]) (g := fun x => ratD (x * q)) (by
  simp only [itE, vr, List.getElem?_cons_zero, bnd_ok]
  exact itL_ref ha) ha hl fun x hx => times_eq (sx x hx) sq S
 rw [show ([some (D.ref a), some (ratD q)] : DS).length = 2 from rfl] at this
 rw [this]
 simp_all []
 rw [List.map_map]
 exact ⟨trivial, rfl⟩
theorem allB_map {α : Type} (p : α → Bool) : ∀ xs : List α, allB (xs.map fun x => D.bl (p x)) = some (xs.all p)
 | [] => rfl
 | x :: xs => by
  rw [List.map_cons, List.all_cons]
  show (match allB (xs.map fun x => D.bl (p x)) with | some c => some (p x && c) | none => none) = _
  rw [allB_map p xs]
theorem allD_ref {S : Sto} {a : Nat} {xs : List D} {b : Bool} (h : zH S a = some xs) (hb : allB xs = some b) : allD [.ref a] S = ok (.bl b) S := by
 show (match zH S a with | some xs => (match allB xs with | some b => ok (D.bl b) S | none => none) | none => none) = _
 rw [h]
 show (match allB xs with | some b => ok (D.bl b) S | none => none) = _
 rw [hb]
end Nm
end
section
namespace Nm
open Np PySem
theorem powD_ok {a j : Int} (h : (0 ≤ j ∧ j ≤ 1000) ∧ a.natAbs < 1000000) (S : Sto) : powD (.int a) (.int j) S = ok (.int (a ^ j.toNat)) S := by
 simp only [powD]
 rw [if_pos h]
theorem p10_60 (S : Sto) : powD (.int 10) (.int 60) S = ok (.int (10 ^ 60)) S := powD_ok (by decide) S
theorem whole_int (i : Int) (S : Sto) : F.k02_whole [.int i] S = ok (.bl true) S := by
 refine W_eq ?_
 (unfold F.k02_whole; refine Np.W_fnF rfl ?_; unfold Den.k02_whole; simp_all [])
theorem gcd_abs1 (a b : Int) : Int.gcd (if a < 0 then -a else a) b = Int.gcd a b := by
 split
 ·unfold Int.gcd; rw [Int.natAbs_neg]
 ·rfl
theorem gcd_num_den (r : Rat) : Int.gcd r.num (r.den : Int) = 1 := r.reduced
theorem cell_at_scr (ns : List Int) (k : Nat) (S : Sto) : ∃ c : Int, (c = 0 ∨ c ∈ ns) ∧ F.k11_cell_at [.scr (ns.map D.int), .int k] S = ok (.int c) S := by
 by_cases h : k < ns.length
 ·refine ⟨ns[k], .inr (List.getElem_mem _), W_eq ?_⟩
  (unfold F.k11_cell_at; refine Np.W_fnF rfl ?_; unfold Den.k11_cell_at; simp_all [])
  have h1 : (k : Int) < ((ns.map D.int).length : Int) := by rw [List.length_map]; omega
  have h2 : (ns.map D.int)[k]? = some (.int ns[k]) := by simp [h]
  simp_all [h1, ixD_scr h2]
 ·refine ⟨0, .inl rfl, W_eq ?_⟩
  (unfold F.k11_cell_at; refine Np.W_fnF rfl ?_; unfold Den.k11_cell_at; simp_all [])
  have h1 : ¬ (k : Int) < ((ns.map D.int).length : Int) := by rw [List.length_map]; omega
  simp_all [h1]
theorem lstD_eq {ds : List D} (h : ds.length ≤ 1000) (S : Sto) : lstD ds S = ok (.ref S.length) (S ++ [.lst ds]) := by
 unfold lstD; rw [if_pos h]; rfl
theorem Le.divInt' {n : Nat} {a b : Int} (hb : 0 < b) (h1 : a.natAbs < 2 ^ n) (h2 : b.natAbs < 2 ^ n) : Le n (Rat.divInt a b) := Le.divInt (by omega) h1 h2
theorem fmod_bd (a : Int) {b : Int} (hb : 0 < b) : 0 ≤ a.fmod b ∧ a.fmod b < b := by
 rw [Int.fmod_eq_emod_of_nonneg a (by omega)]
 exact ⟨Int.emod_nonneg _ (by omega), Int.emod_lt_of_pos _ hb⟩
end Nm
end
section
namespace Nm
open Np PySem
def Scr (ns : List Int) : Prop := ns.length ≤ 63 ∧ ∀ z ∈ ns, z.natAbs.log2 < 1048577
theorem W_new {m : R D} {S : Sto} {xs : List D} {Q : D → Sto → Prop} (h : m = ok (.ref S.length) (S ++ [.lst xs])) (k : ∀ S' b, SLe S S' → S.length ≤ b → zH S' b = some xs → Q (.ref b) S') : W m Q :=
 W.intro h (k _ _ (SLe.app _) (Nat.le_refl _) (lstAt_push S xs))
theorem W_app {S : Sto} {b : Nat} {xs : List D} {d : D} {Q : D → Sto → Prop} (h : zH S b = some xs) (hl : xs.length < 1000000) (k : ∀ S', S'.length = S.length → (∀ S0, SLe S0 S → S0.length ≤ b → SLe S0 S') → (∀ c, c ≠ b → zH S' c = zH S c) → zH S' b = some (xs ++ [d]) → Q .non S') : W (appD (.ref b) d S) Q := by
 refine W.intro (appD_ref d h hl) (k _ (by simp) (fun S0 l hb => l.set hb _) (fun c hc => lstAt_set_ne (Ne.symm hc)) (lstAt_set h))
theorem slD_scr (xs : List D) (lo hi : Option Int) (S : Sto) : slD (.scr xs) lo hi S = ok (.ref S.length) (S ++ [.lst (cutD xs lo hi)]) := rfl
theorem mulD_rep {S : Sto} {a : Nat} {d : D} {k : Nat} (h : zH S a = some [d]) (hk : k ≤ 1000000) : mulD (.ref a) (.int (k : Int)) S = ok (.ref S.length) (S ++ [.lst (List.replicate k d)]) := by
 show repD (zH S a) k S = _
 rw [h]
 unfold repD
 simp only []
 rw [if_pos (by simp; omega)]
 have : (List.replicate k [d]).flatten = List.replicate k d := by simp
 rw [Int.toNat_natCast, this]
 rfl
theorem rep_rat (k : Nat) (q : Rat) : List.replicate k (ratD q) = (List.replicate k q).map ratD := by simp
theorem RowA.rep {S : Sto} {a k : Nat} {q : Rat} (h : zH S a = some (List.replicate k (ratD q))) : RowA S a (List.replicate k q) := by
 show zH S a = _
 rw [h, rep_rat]
def TabR (S : Sto) (a : Nat) (as : List Nat) (T : List (List Rat)) : Prop := zH S a = some (as.map D.ref) ∧ as.length = T.length ∧ ∀ (i b : Nat) r, as[i]? = some b → T[i]? = some r → RowA S b r
theorem rdl_tab {S : Sto} (n : Nat) : ∀ (as : List Nat) (T : List (List Rat)), as.length = T.length → (∀ (i b : Nat) r, as[i]? = some b → T[i]? = some r → RowA S b r) → rdl (rd (n + 2) S) (as.map D.ref) = some (T.map fun r => Np.T.lst (r.map ratT))
 | [], [], _, _ => rfl
 | [], _ :: _, h, _ => by cases h
 | _ :: _, [], h, _ => by cases h
 | a :: as, r :: T, h, k => by
  have h0 := rd_row n (k 0 a r rfl rfl)
  have ih := rdl_tab n as T (by simpa using h) fun i b r h1 h2 => k (i + 1) b r (by simpa using h1) (by simpa using h2)
  simp only [List.map_cons, rdl, h0, ih]
theorem rd_tab {S : Sto} {a : Nat} {as : List Nat} {T : List (List Rat)} (n : Nat) (h : TabR S a as T) : rd (n + 3) S (.ref a) = some (.lst (T.map fun r => Np.T.lst (r.map ratT))) := by
 show (match zH S a with | some ds => (rdl (rd (n + 2) S) ds).map Np.T.lst | none => none) = _
 rw [h.1]
 show (rdl (rd (n + 2) S) (as.map D.ref)).map Np.T.lst = _
 rw [rdl_tab n as T h.2.1 h.2.2]
 rfl
theorem eqTs_tab : ∀ A B : List (List Rat), eqTs (A.map fun r => Np.T.lst (r.map ratT)) (B.map fun r => Np.T.lst (r.map ratT)) = decide (A = B)
 | [], [] => by simp [eqTs]
 | [], _ :: _ => by simp [eqTs]
 | _ :: _, [] => by simp [eqTs]
 | x :: xs, y :: ys => by
  simp only [List.map_cons, eqTs, eqT, eqTs_rat, eqTs_tab xs ys, List.cons.injEq]
  by_cases h1 : x = y <;> by_cases h2 : xs = ys <;> simp [h1, h2]
theorem TabR.le {S S' : Sto} {a : Nat} {as : List Nat} {T : List (List Rat)} (h : TabR S a as T) (l : SLe S S') : TabR S' a as T := ⟨l.lst h.1, h.2.1, fun i b r h1 h2 => l.lst (h.2.2 i b r h1 h2)⟩
theorem one_src {a : Nat} {S : Sto} {xs : List D} (h : zH S a = some xs) (hl : xs.length ≤ 1000000) : xs.length ≤ (Src.one a).len S ∧ (Src.one a).len S ≤ 1000000 ∧ SLe S S ∧ ∀ i S'', SLe S S'' → (Src.one a).get S'' i = some xs[i]? := by
 rw [len_one h]
 exact ⟨Nat.le_refl _, hl, SLe.rfl, fun i S'' l => get_one (l.lst h) i⟩
theorem comp_to {it : DI} {g : DG} {e : DE} {base : DS} {k : Nat} {S : Sto} {src : Src} (vals : D → List (Option D)) {xs zs : List D} {P : D → Prop} (hg : Tg g k vals base P) (hit : it base S = ok src S) (hs : Has src S xs) (hl : src.len S ≤ 1000000) (hP : ∀ x ∈ xs, P x) (hz : zs.length = xs.length)
  (step : ∀ (i : Nat) x z, xs[i]? = some x → zs[i]? = some z → e (base ++ vals x) S = ok z S) : compE it k g e base S = ok (.ref S.length) (S ++ [.lst zs]) := by
 refine W_eq ?_
 refine W_compE vals xs (fun i acc S' => S' = S ∧ acc = zs.take i) P hP hg ?_ ?_ ?_
 ·rw [hit, W_ok]
  exact ⟨hs.1, hl, ⟨rfl, rfl⟩, fun i acc S' ⟨h, _⟩ => by rw [h]; exact hs.2 i⟩
 ·rintro i x acc S' hx ha ⟨rfl, he⟩
  have hi : i < zs.length := by rw [hz]; exact (List.getElem?_eq_some_iff.mp hx).1
  have hzi : zs[i]? = some zs[i] := by simp [hi]
  rw [step i x _ hx hzi, W_ok]
  refine ⟨rfl, ?_⟩
  rw [he, List.take_add_one, hzi]
  rfl
 ·rintro acc S' ⟨rfl, he⟩ _
  rw [he, ← hz, List.take_length]
  exact ⟨rfl, rfl⟩
theorem it_rng1 {as : DA} {base : DS} {S : Sto} {n : Nat} (h : as base S = ok [.int (n : Int)] S) (hn : n < 1000000) : itA rng1D as base S = ok (.fix (intsD 0 n)) S := by
 unfold itA
 rw [h, bnd_ok, rng1D_nat hn S]
theorem comp_range {e : DE} {base : DS} {S : Sto} {as : DA} {n : Nat} {zs : List D} (has : as base S = ok [.int (n : Int)] S) (hn : n < 1000000) (hz : zs.length = n)
  (step : ∀ (i : Nat) z, zs[i]? = some z → e (base ++ [some (.int i)]) S = ok z S) : compE (itA rng1D as) 1 (setG base.length) e base S = ok (.ref S.length) (S ++ [.lst zs]) := by
 have hit := it_rng1 has hn
 rw [intsD_zero] at hit
 refine comp_to _ (tg_one base) hit (Has.fix _ _) (by show List.length _ ≤ _; simp; omega) (fun _ _ => trivial) (by simpa using hz) fun i x z hx hz => ?_
 have hi : i < n := by
  have := (List.getElem?_eq_some_iff.mp hx).1
  simpa using this
 have ex : x = .int (i : Nat) := by simpa [hi] using hx.symm
 subst ex
 exact step i z hz
theorem get_map {α : Type} {xs : List α} {f : α → D} {i : Nat} {z : D} (h : (xs.map f)[i]? = some z) : ∃ x, xs[i]? = some x ∧ z = f x := by
 rw [List.getElem?_map] at h
 cases q : xs[i]? with
 | none => rw [q] at h; cases h
 | some x => rw [q] at h; cases h; exact ⟨x, rfl, rfl⟩
theorem get_zipWith {α β γ : Type} {f : α → β → γ} {xs : List α} {ys : List β} {i : Nat} {z : γ} (h : (List.zipWith f xs ys)[i]? = some z) : ∃ x y, xs[i]? = some x ∧ ys[i]? = some y ∧ z = f x y := by
 rw [List.getElem?_zipWith] at h
 cases q : xs[i]? with
 | none => rw [q] at h; simp at h
 | some x =>
  cases q2 : ys[i]? with
  | none => rw [q, q2] at h; simp at h
  | some y => rw [q, q2] at h; simp at h; exact ⟨x, y, rfl, rfl, h.symm⟩
theorem map_get {α : Type} {xs : List α} {i : Nat} {x : α} (f : α → D) (h : xs[i]? = some x) : (xs.map f)[i]? = some (f x) := by simp [h]
theorem zK {α : Type} {xs : List α} {i : Nat} {x : α} (h : xs[i]? = some x) : x ∈ xs := List.mem_of_getElem? h
theorem RowA.to {S : Sto} {a : Nat} {xs ys : List Rat} (h : zH S a = some (xs.map ratD)) (e : xs = ys) : RowA S a ys := e ▸ h
theorem zip_rep_r {f : Rat → Rat → Rat} {q : Rat} (h : ∀ x, f x q = x) : ∀ xs : List Rat, List.zipWith f xs (List.replicate xs.length q) = xs
 | [] => rfl
 | x :: xs => by simp [List.replicate_succ, h, zip_rep_r h xs]
theorem zip_rep_l {f : Rat → Rat → Rat} {q : Rat} (h : ∀ x, f q x = x) : ∀ xs : List Rat, List.zipWith f (List.replicate xs.length q) xs = xs
 | [] => rfl
 | x :: xs => by simp [List.replicate_succ, h, zip_rep_l h xs]
theorem sm_of {n : Nat} {xs : List Rat} (h : ∀ x ∈ xs, Le n x) (hn : n ≤ 40000000) : ∀ x ∈ xs, sm x := fun x hx => (h x hx).sm hn
end Nm
end
section
namespace Nm
open Np PySem
def sumR (xs : List Rat) : Rat := xs.foldl (· + ·) 0
theorem sumR_take {xs : List Rat} {i : Nat} {x : Rat} (h : xs[i]? = some x) : sumR (xs.take (i + 1)) = sumR (xs.take i) + x := by
 unfold sumR
 rw [List.take_add_one, h, List.foldl_append]
 rfl
theorem Le.sumR {n : Nat} : ∀ {xs : List Rat}, (∀ x ∈ xs, Le n x) → Le (1 + (n + 1) * xs.length) (sumR xs) := by
 suffices h : ∀ (xs : List Rat) (m : Nat) (q : Rat), Le m q → (∀ x ∈ xs, Le n x) → Le (m + (n + 1) * xs.length) (xs.foldl (· + ·) q) from fun {xs} hx => h xs 1 0 (Le.zero (by decide)) hx
 intro xs
 induction xs with
 | nil => intro m q hq _; exact hq
 | cons x xs ih =>
  intro m q hq hx
  have := ih (m + n + 1) (q + x) (hq.add (hx x (.head _))) fun y hy => hx y (.tail _ hy)
  rw [List.foldl_cons, List.length_cons]
  refine this.mono ?_
  rw [Nat.mul_add]
  omega
theorem le_zip {f : Rat → Rat → Rat} {k m n : Nat} (hf : ∀ a b, Le m a → Le n b → Le k (f a b)) {xs ys : List Rat} (hx : ∀ x ∈ xs, Le m x) (hy : ∀ y ∈ ys, Le n y) : ∀ z ∈ List.zipWith f xs ys, Le k z := fun z hz => by
 obtain ⟨i, hi, rfl⟩ := List.getElem_of_mem hz
 rw [List.getElem_zipWith]
 exact hf _ _ (hx _ (List.getElem_mem _)) (hy _ (List.getElem_mem _))
theorem sum_loop {S : Sto} {p : Nat} {zs : List Rat} {n : Nat} {δ0 : DS} {Q : Fl → Sto → Prop} (hp : RowA S p zs) (hz : ∀ z ∈ zs, Le n z) (hb : (n + 1) * zs.length + n + 1 ≤ 40000000)
  (a b c d o : Option D) (k : ∀ o', Q (.nx [a, b, c, d, some (ratD (sumR zs)), o']) S) : W (forK (setG 5) (asgS (fnE F.plus (yF (vr 4) (yF (vr 5) aNil))) (setG 4)) [a, b, c, d, some (ratD 0), o] (.one p) S) Q := by
 refine W_forK (zs.map ratD) (fun i δ S' => S' = S ∧ ∃ o', δ = [a, b, c, d, some (ratD (sumR (zs.take i))), o']) (by rw [len_one hp]; exact Nat.le_refl _) ⟨rfl, o, rfl⟩ (fun i δ S' h => by rw [h.1]; exact get_one hp i) ?_ ?_
 ·rintro i x δ S' hx ⟨rfl, o', rfl⟩
  obtain ⟨z, hzi, rfl⟩ := get_map hx
  have hi : i < zs.length := (List.getElem?_eq_some_iff.mp hzi).1
  have l1 : Le (1 + (n + 1) * (zs.take i).length) (sumR (zs.take i)) := Le.sumR fun x hx => hz x (List.mem_of_mem_take hx)
  have l2 : (n + 1) * (zs.take i).length ≤ (n + 1) * zs.length := Nat.mul_le_mul_left _ (by simp; omega)
  simp_all [plus_eq (l1.sm (by omega)) ((hz z (zK hzi)).sm (by omega))]
  exact ⟨rfl, _, by rw [sumR_take hzi]⟩
 ·rintro δ S' ⟨rfl, o', rfl⟩
  rw [List.length_map, List.take_length]
  exact k o'
theorem dot_w {S : Sto} {a b : Nat} {xs ys : List Rat} {m n : Nat} (ha : RowA S a xs) (hb : RowA S b ys) (hx : ∀ x ∈ xs, Le m x) (hy : ∀ y ∈ ys, Le n y) (hll : xs.length ≤ 1000000) (hl : (m + n + 1) * (xs.length + 1) ≤ 20000000) :
  W (F.dot [.ref a, .ref b, .non] S) fun d S' => SLe S S' ∧ d = ratD (sumR (List.zipWith (· * ·) xs ys)) := by
 have h0 : xs.length + 1 ≤ (m + n + 1) * (xs.length + 1) := Nat.le_mul_of_pos_left _ (by omega)
 have h1 : (m + n + 1) ≤ (m + n + 1) * (xs.length + 1) := Nat.le_mul_of_pos_right _ (by omega)
 (unfold F.dot; refine Np.W_fnF rfl ?_; unfold Den.dot; simp_all [])
 refine W_new (multiplied_eq ha hb (by omega) (sm_of hx (by omega)) (sm_of hy (by omega))) fun S1 p l1 _ r1 => ?_
 simp_all [itL_ref r1]
 have hz := le_zip (f := (· * ·)) (k := m + n) (fun a b h1 h2 => h1.mul h2) hx hy
 refine sum_loop (n := m + n) (δ0 := []) r1 hz ?_ _ _ _ _ _ fun o' => ?_
 ·have : (m + n + 1) * (List.zipWith (· * ·) xs ys).length ≤ (m + n + 1) * (xs.length + 1) := Nat.mul_le_mul_left _ (by simp; omega)
  omega
 ·simp_all []
  exact ⟨l1, trivial⟩
theorem sumR_cons (x : Rat) (xs : List Rat) : sumR (x :: xs) = x + sumR xs := by
 have h : ∀ (xs : List Rat) (q : Rat), xs.foldl (· + ·) q = q + xs.foldl (· + ·) 0 := by
  intro xs
  induction xs with
  | nil => intro q; simp [Rat.add_zero]
  | cons y ys ih =>
   intro q
   rw [List.foldl_cons, List.foldl_cons, ih, ih (0 + y)]
   grind
 unfold sumR
 rw [List.foldl_cons, h]
 grind
end Nm
end
section
namespace Nm
open Np PySem
abbrev addR (xs ys : List Rat) : List Rat := List.zipWith (· + ·) xs ys
abbrev sclR (xs : List Rat) (q : Rat) : List Rat := xs.map (· * q)
def mixR : List (List Rat) → List Rat → Nat → List Rat
 | r :: T, s :: ss, n => addR (sclR r s) (mixR T ss n)
 | _, _, n => List.replicate n 0
def Wide (T : List (List Rat)) (n : Nat) : Prop := ∀ r ∈ T, r.length = n
theorem Wide.tl {r : List Rat} {T : List (List Rat)} {n : Nat} (h : Wide (r :: T) n) : Wide T n := fun x hx => h x (.tail _ hx)
theorem mixR_length : ∀ {T : List (List Rat)} {ss : List Rat} {n : Nat}, Wide T n → (mixR T ss n).length = n
 | [], _, n, _ => by simp [mixR]
 | _ :: _, [], n, _ => by simp [mixR]
 | r :: T, s :: ss, n, h => by
  simp only [mixR, List.length_zipWith, List.length_map]
  rw [mixR_length h.tl, h r (.head _)]
  omega
theorem addR_zero_l : ∀ xs : List Rat, addR (List.replicate xs.length 0) xs = xs := zip_rep_l Rat.zero_add
theorem addR_zero_r : ∀ xs : List Rat, addR xs (List.replicate xs.length 0) = xs := zip_rep_r Rat.add_zero
theorem addR_assoc : ∀ xs ys zs : List Rat, addR (addR xs ys) zs = addR xs (addR ys zs)
 | [], _, _ => by simp [addR]
 | _ :: _, [], _ => by simp [addR]
 | _ :: _, _ :: _, [] => by simp [addR]
 | x :: xs, y :: ys, z :: zs => by
  have := addR_assoc xs ys zs
  simp only [addR, List.zipWith_cons_cons] at this ⊢
  rw [this, Rat.add_assoc]
theorem mixR_snoc : ∀ {T : List (List Rat)} {ss : List Rat} {r : List Rat} {s : Rat} {n : Nat}, Wide T n → r.length = n → T.length = ss.length → mixR (T ++ [r]) (ss ++ [s]) n = addR (mixR T ss n) (sclR r s)
 | [], [], r, s, n, _, hr, _ => by
  have h : (sclR r s).length = n := by simp [hr]
  simp only [List.nil_append, mixR]
  rw [← h, addR_zero_l, addR_zero_r]
 | t :: T, u :: ss, r, s, n, h, hr, hl => by
  simp only [List.cons_append, mixR]
  rw [mixR_snoc h.tl hr (by simpa using hl), addR_assoc]
 | [], _ :: _, _, _, _, _, _, hl => by simp at hl
 | _ :: _, [], _, _, _, _, _, hl => by simp at hl
theorem mixR_take {T : List (List Rat)} {ss : List Rat} {n i : Nat} {r : List Rat} {s : Rat} (h : Wide T n) (hr : T[i]? = some r) (hs : ss[i]? = some s) : mixR (T.take (i + 1)) (ss.take (i + 1)) n = addR (mixR (T.take i) (ss.take i) n) (sclR r s) := by
 have h1 := (List.getElem?_eq_some_iff.mp hr).1
 have h2 := (List.getElem?_eq_some_iff.mp hs).1
 rw [List.take_add_one, List.take_add_one, hr, hs]
 exact mixR_snoc (fun x hx => h x (List.mem_of_mem_take hx)) (h r (zK hr)) (by simp; omega)
theorem mixR_get : ∀ {T : List (List Rat)} {ss : List Rat} {n k : Nat}, Wide T n → k < n → T.length = ss.length → (mixR T ss n)[k]? = some (sumR (List.zipWith (fun r s => r.getD k 0 * s) T ss))
 | [], [], n, k, _, hk, _ => by simp [mixR, hk, sumR]
 | r :: T, s :: ss, n, k, h, hk, hl => by
  have ih := mixR_get (ss := ss) h.tl hk (by simpa using hl)
  have hr : r[k]? = some (r.getD k 0) := by
   have : k < r.length := by rw [h r (.head _)]; exact hk
   simp [this]
  simp only [mixR, List.zipWith_cons_cons, sumR_cons, List.getElem?_zipWith, ih, List.getElem?_map, hr, Option.map_some]
 | [], _ :: _, _, _, _, _, hl => by simp at hl
 | _ :: _, [], _, _, _, _, hl => by simp at hl
theorem zQ {α : Type} {xs : List α} {i : Nat} (h : i < xs.length) : ∃ x, xs[i]? = some x := ⟨xs[i], by simp [h]⟩
theorem getD_mem {r : List Rat} {k : Nat} (h : k < r.length) : r.getD k 0 ∈ r := by simp [h]
def LeT (n : Nat) (T : List (List Rat)) : Prop := ∀ r ∈ T, ∀ x ∈ r, Le n x
theorem le_mix {m n k : Nat} (hk : 0 < k) : ∀ {T : List (List Rat)} {ss : List Rat}, LeT m T → (∀ s ∈ ss, Le n s) → ∀ z ∈ mixR T ss k, Le (1 + (m + n + 1) * T.length) z := by
 intro T
 induction T with
 | nil =>
  intro ss _ _ z hz
  simp only [mixR, List.mem_replicate] at hz
  rw [hz.2]
  exact Le.zero (by omega)
 | cons r T ih =>
  intro ss hT hs z hz
  cases ss with
  | nil =>
   simp only [mixR, List.mem_replicate] at hz
   rw [hz.2]
   exact Le.zero (by omega)
  | cons s ss =>
   have h1 := ih (fun x hx => hT x (.tail _ hx)) (fun x hx => hs x (.tail _ hx))
   have h2 : ∀ x ∈ sclR r s, Le (m + n) x := fun x hx => by
    obtain ⟨y, hy, rfl⟩ := List.mem_map.mp hx
    exact (hT r (.head _) y hy).mul (hs s (.head _))
   refine (le_zip (f := (· + ·)) (k := (m + n) + (1 + (m + n + 1) * T.length) + 1) (fun a b h1 h2 => h1.add h2) h2 h1 z hz).mono ?_
   rw [List.length_cons, Nat.mul_add]
   omega
theorem TabR.row {S : Sto} {a : Nat} {as : List Nat} {T : List (List Rat)} {i : Nat} {r : List Rat} (h : TabR S a as T) (hi : T[i]? = some r) : ∃ b, as[i]? = some b ∧ RowA S b r := by
 have hl : i < as.length := by rw [h.2.1]; exact (List.getElem?_eq_some_iff.mp hi).1
 exact ⟨as[i], by simp [hl], h.2.2 i _ r (by simp [hl]) hi⟩
end Nm
end
section
namespace Nm
open Np PySem
structure FT (n : Nat) (S : Sto) (c : Nat) (cs : List Nat) (U : List (List Rat)) : Prop where
 tab : TabR S c cs U
 lo : ∀ b ∈ cs, n ≤ b
 inc : cs.Nodup
 ne : ∀ b ∈ cs, b ≠ c
 nc : n ≤ c
theorem get_snoc {α : Type} {xs : List α} {x y : α} {i : Nat} (h : (xs ++ [x])[i]? = some y) : (i < xs.length ∧ xs[i]? = some y) ∨ (i = xs.length ∧ y = x) := by
 by_cases hi : i < xs.length
 ·rw [List.getElem?_append_left hi] at h
  exact .inl ⟨hi, h⟩
 ·rw [List.getElem?_append_right (by omega)] at h
  have := (List.getElem?_eq_some_iff.mp h).1
  have e : i = xs.length := by simp at this; omega
  subst e
  simp at h
  exact .inr ⟨rfl, h.symm⟩
theorem W_compT {it : DI} {g : DG} {e : DE} {base : DS} {k : Nat} {S : Sto} {Q : D → Sto → Prop} (vals : D → List (Option D)) (xs : List D) (U : List (List Rat)) (P : D → Prop) (hg : Tg g k vals base P) (hP : ∀ x ∈ xs, P x) (hU : U.length = xs.length)
  (hit : W (it base S) fun src S' => xs.length ≤ src.len S' ∧ src.len S' ≤ 1000000 ∧ SLe S S' ∧ ∀ i S'', SLe S' S'' → src.get S'' i = some xs[i]?)
  (step : ∀ (i : Nat) x r S', xs[i]? = some x → U[i]? = some r → SLe S S' → W (e (base ++ vals x) S') fun d S'' => ∃ c, d = .ref c ∧ S'.length ≤ c ∧ SLe S' S'' ∧ RowA S'' c r)
  (fin : ∀ S' c cs, SLe S S' → FT S.length S' c cs U → Q (.ref c) S') : W (compE it k g e base S) Q := by
 obtain ⟨src, S0, e0, h1, h2, h3, h4⟩ := hit.out
 refine W_compE vals xs (fun i acc S' => SLe S0 S' ∧ ∃ cs : List Nat, acc = cs.map D.ref ∧ cs.length = i ∧ (∀ (j b : Nat) r, cs[j]? = some b → U[j]? = some r → RowA S' b r) ∧ (∀ b ∈ cs, S.length ≤ b) ∧ cs.Pairwise (· < ·) ∧ ∀ b ∈ cs, b < S'.length) P hP hg ?_ ?_ ?_
 ·rw [e0, W_ok]
  exact ⟨h1, h2, ⟨SLe.rfl, [], rfl, rfl, fun j b r h => (by simp at h), fun _ h => (by cases h), .nil, fun _ h => (by cases h)⟩, fun i acc S'' h => h4 i S'' h.1⟩
 ·rintro i x acc S' hx ha ⟨hS, cs, rfl, hl, hr, hlo, hinc, htop⟩
  have hi : i < U.length := by rw [hU]; exact (List.getElem?_eq_some_iff.mp hx).1
  obtain ⟨r, hri⟩ := zQ hi
  refine (step i x r S' hx hri (h3.trans hS)).mono ?_
  rintro d S'' ⟨c, rfl, hc, hS', hrow⟩
  refine ⟨hS.trans hS', cs ++ [c], by simp, by simp [hl], fun j b r' hb hr' => ?_, fun b hb => ?_, ?_, fun b hb => ?_⟩
  ·rcases get_snoc hb with ⟨_, h⟩ | ⟨rfl, rfl⟩
   ·exact hS'.lst (hr j b r' h hr')
   ·rw [hl] at hr'
    rw [hri] at hr'
    cases hr'
    exact hrow
  ·rcases List.mem_append.mp hb with h | h
   ·exact hlo b h
   ·rw [List.mem_singleton.mp h]
    have := (h3.trans hS).len
    omega
  ·rw [List.pairwise_append]
   refine ⟨hinc, List.pairwise_singleton _ _, fun b hb b' hb' => ?_⟩
   rw [List.mem_singleton.mp hb']
   exact Nat.lt_of_lt_of_le (htop b hb) hc
  ·rcases List.mem_append.mp hb with h | h
   ·exact Nat.lt_of_lt_of_le (htop b h) hS'.len
   ·rw [List.mem_singleton.mp h]
    exact lstAt_lt hrow
 ·rintro acc S' ⟨hS, cs, rfl, hl, hr, hlo, hinc, htop⟩ _
  refine fin _ _ cs ((h3.trans hS).push _) ⟨⟨lstAt_push S' _, by rw [hl, hU], fun i b r h1 h2 => (SLe.app _).lst (hr i b r h1 h2)⟩, hlo, hinc.imp fun h => Nat.ne_of_lt h, fun b hb => Nat.ne_of_lt (htop b hb), (h3.trans hS).len⟩
theorem cut_gen {xs : List D} {l k : Nat} (hl : l ≤ k) : cutD xs (some (l : Int)) (some (k : Int)) = (xs.drop l).take (k - l) := by
 unfold cutD sIxD
 simp only []
 rw [if_neg (by omega), if_neg (by omega), Int.toNat_natCast, Int.toNat_natCast]
 by_cases h : l ≤ xs.length
 ·by_cases h2 : k ≤ xs.length
  ·congr 2 <;> omega
  ·rw [Nat.min_eq_left h, Nat.min_eq_right (by omega), List.take_of_length_le (by simp), List.take_of_length_le (by simp; omega)]
 ·rw [List.drop_eq_nil_of_le (as := xs) (i := l) (by omega), List.drop_eq_nil_of_le (as := xs) (i := min l xs.length) (by omega)]
  simp
theorem eqD_TR {S : Sto} {a b t u r q : Nat} {ts us : List Nat} {A B : List (List Rat)} {xs ys : List Rat} (ha : zH S a = some [.ref t, .ref r]) (hb : zH S b = some [.ref u, .ref q]) (ht : TabR S t ts A) (hu : TabR S u us B) (hr : RowA S r xs) (hq : RowA S q ys) :
  eqD (.ref a) (.ref b) S = ok (.bl (decide (A = B) && decide (xs = ys))) S := by
 have e1 : ∀ {a t r : Nat} {ts : List Nat} {A : List (List Rat)} {xs : List Rat}, zH S a = some [.ref t, .ref r] → TabR S t ts A → RowA S r xs → rd 9 S (.ref a) = some (.lst [.lst (A.map fun r => Np.T.lst (r.map ratT)), .lst (xs.map ratT)]) := by
  intro a t r ts A xs ha ht hr
  show (match zH S a with | some ds => (rdl (rd 8 S) ds).map Np.T.lst | none => none) = _
  rw [ha]
  show (rdl (rd 8 S) [.ref t, .ref r]).map Np.T.lst = _
  simp only [rdl, rd_tab 5 ht, rd_row 6 hr]
  rfl
 unfold eqD
 rw [e1 ha ht hr, e1 hb hu hq]
 show ok (D.bl (eqTs _ _)) S = _
 simp only [eqTs, eqT, eqTs_tab, eqTs_rat, Bool.and_true]
theorem copy_tab {it : DI} {e : DE} {base : DS} {S : Sto} {Q : D → Sto → Prop} {a : Nat} {as : List Nat} {T : List (List Rat)} (ha : TabR S a as T) (hl : T.length ≤ 1000000) (hit : it base S = ok (.one a) S) (he : ∀ b S', e (base ++ [some (.ref b)]) S' = lofD [.ref b] S')
  (fin : ∀ S' c cs, SLe S S' → FT S.length S' c cs T → Q (.ref c) S') : W (compE it 1 (setG base.length) e base S) Q := by
 refine W_compT _ (as.map D.ref) T _ (tg_one base) (fun _ _ => trivial) (by simp [ha.2.1]) ?_ ?_ fin
 ·rw [hit, W_ok]
  exact one_src ha.1 (by simp [ha.2.1]; exact hl)
 ·intro i x r S' hx hr hS
  obtain ⟨b, hb, rfl⟩ := get_map hx
  rw [he]
  exact W_new (lofD_ref (hS.lst (ha.2.2 i b r hb hr))) fun S'' c l n r' => ⟨c, rfl, n, l, r'⟩
theorem FT.keep {n : Nat} {S S' : Sto} {c : Nat} {cs : List Nat} {U : List (List Rat)} (h : FT n S c cs U) (k : ∀ a, a = c ∨ a ∈ cs → zH S' a = zH S a) : FT n S' c cs U :=
 ⟨⟨by rw [k c (.inl rfl)]; exact h.tab.1, h.tab.2.1, fun i b r h1 h2 => by
  show zH S' b = _
  rw [k b (.inr (zK h1))]
  exact h.tab.2.2 i b r h1 h2⟩, h.lo, h.inc, h.ne, h.nc⟩
theorem FT.le {n : Nat} {S S' : Sto} {c : Nat} {cs : List Nat} {U : List (List Rat)} (h : FT n S c cs U) (l : SLe S S') : FT n S' c cs U := ⟨h.tab.le l, h.lo, h.inc, h.ne, h.nc⟩
theorem FT.lt {n : Nat} {S : Sto} {c : Nat} {cs : List Nat} {U : List (List Rat)} (h : FT n S c cs U) : ∀ b ∈ cs, b < S.length := fun b hb => by
 obtain ⟨i, hi⟩ := List.getElem?_of_mem hb
 obtain ⟨r, hr⟩ := zQ (show i < U.length by rw [← h.tab.2.1]; exact (List.getElem?_eq_some_iff.mp hi).1)
 exact lstAt_lt (h.tab.2.2 i b r hi hr)
theorem FT.snoc {n : Nat} {S S' : Sto} {c b : Nat} {cs : List Nat} {U : List (List Rat)} {r : List Rat} (h : FT n S c cs U) (hb : RowA S b r) (hn : n ≤ b) (hlt : ∀ x ∈ cs, x < b) (hbc : b ≠ c) (k1 : ∀ a, a ≠ c → zH S' a = zH S a) (k2 : zH S' c = some (cs.map D.ref ++ [.ref b])) : FT n S' c (cs ++ [b]) (U ++ [r]) := by
 refine ⟨⟨by rw [k2]; simp, by simp [h.tab.2.1], fun i x r' h1 h2 => ?_⟩, fun x hx => ?_, ?_, fun x hx => ?_, h.nc⟩
 ·rcases get_snoc h1 with ⟨hi, h1⟩ | ⟨rfl, rfl⟩
  ·rw [List.getElem?_append_left (by rw [← h.tab.2.1]; exact hi)] at h2
   show zH S' x = _
   rw [k1 x (h.ne x (zK h1))]
   exact h.tab.2.2 i x r' h1 h2
  ·rw [h.tab.2.1, List.getElem?_append_right (Nat.le_refl _)] at h2
   simp at h2
   subst h2
   show zH S' x = _
   rw [k1 x hbc]
   exact hb
 ·rcases List.mem_append.mp hx with hx | hx
  ·exact h.lo x hx
  ·rw [List.mem_singleton.mp hx]; exact hn
 ·show List.Pairwise _ _
  rw [List.pairwise_append]
  exact ⟨h.inc, List.pairwise_singleton _ _, fun x hx y hy => by rw [List.mem_singleton.mp hy]; exact Nat.ne_of_lt (hlt x hx)⟩
 ·rcases List.mem_append.mp hx with hx | hx
  ·exact h.ne x hx
  ·rw [List.mem_singleton.mp hx]; exact hbc
theorem FT.nil {n : Nat} {S : Sto} {c : Nat} (h : zH S c = some []) (hn : n ≤ c) : FT n S c [] [] := ⟨⟨h, rfl, fun i b r h => by simp at h⟩, fun _ h => (by cases h), .nil, fun _ h => (by cases h), hn⟩
def unitRow (n p : Nat) : List Rat := (List.range n).map fun i => if i = p then 1 else 0
def unitR (n : Nat) : List (List Rat) := (List.range n).map (unitRow n)
theorem range_get {n i j : Nat} (h : (List.range n)[i]? = some j) : j = i ∧ i < n := by
 have hi : i < n := by
  have := (List.getElem?_eq_some_iff.mp h).1
  simpa using this
 exact ⟨by simpa [hi] using h.symm, hi⟩
theorem range_map_get {α : Type} {n i : Nat} {f : Nat → α} {x : α} (h : ((List.range n).map f)[i]? = some x) : x = f i ∧ i < n := by
 rw [List.getElem?_map] at h
 cases q : (List.range n)[i]? with
 | none => rw [q] at h; cases h
 | some j =>
  rw [q] at h
  obtain ⟨rfl, hi⟩ := range_get q
  exact ⟨(Option.some.inj h).symm, hi⟩
theorem unit_row_eq {S : Sto} {n p : Nat} (hn : n < 1000000) : F.unit_row [.int (n : Int), .int (p : Int)] S = ok (.ref S.length) (S ++ [.lst ((unitRow n p).map ratD)]) := by
 refine W_eq ?_
 (unfold F.unit_row; refine Np.W_fnF rfl ?_; unfold Den.unit_row; simp_all [])
 have := comp_range (as := yF (vr 0) aNil) (S := S) (base := [some (.int (n : Int)), some (.int (p : Int))]) (e := ifE (tv (op2 eqD (vr 2) (vr 1))) (cst (ratD 1)) (cst (ratD 0))) (n := n) (zs := (unitRow n p).map ratD) rfl hn (by simp [unitRow]) fun i z hz => by
  obtain ⟨q, hq, rfl⟩ := get_map hz
  obtain ⟨rfl, hi⟩ := range_map_get hq
  refine W_eq ?_
  by_cases h : i = p
  ·subst h
   simp_all []
  ·have h' : ¬ ((i : Int) = (p : Int)) := by omega
   simp_all [h', h]
 rw [show ([some (D.int (n : Int)), some (D.int (p : Int))] : DS).length = 2 from rfl] at this
 rw [this]
 simp_all []
theorem unit_w {S : Sto} {n : Nat} {Q : D → Sto → Prop} (hn : n < 1000000) (fin : ∀ S' c cs, SLe S S' → FT S.length S' c cs (unitR n) → Q (.ref c) S') : W (F.unit [.int (n : Int)] S) Q := by
 (unfold F.unit; refine Np.W_fnF rfl ?_; unfold Den.unit; simp_all [])
 refine W_compT (base := [_]) _ ((List.range n).map fun i => D.int (i : Nat)) (unitR n) _ (tg_one _) (fun _ _ => trivial) (by simp [unitR]) ?_ ?_ fin
 ·rw [it_rng1 (n := n) rfl hn, intsD_zero, W_ok]
  exact ⟨Nat.le_refl _, by show List.length _ ≤ _; simp; omega, SLe.rfl, fun i S'' _ => rfl⟩
 ·intro i x r S' hx hr hS
  obtain ⟨rfl, hi⟩ := range_map_get hx
  obtain ⟨rfl, _⟩ := range_map_get hr
  simp_all []
  exact W_new (unit_row_eq hn) fun S'' c l n r' => ⟨c, rfl, n, l, r'⟩
theorem setXA_ref {S : Sto} {a i : Nat} {xs : List D} (v : D) (δ : DS) (h : zH S a = some xs) (hi : i < xs.length) : setXA v δ (.ref a) (.int (i : Int)) S = ok δ (S.set a (.lst (xs.set i v))) := by
 show (match zH S a with | some xs => _ | none => none) = _
 rw [h]
 simp only [ixA_nat hi]
theorem W_setX {S : Sto} {b i : Nat} {xs : List D} {v : D} {δ : DS} {Q : DS → Sto → Prop} (h : zH S b = some xs) (hi : i < xs.length) (k : ∀ S', S'.length = S.length → (∀ S0, SLe S0 S → S0.length ≤ b → SLe S0 S') → (∀ c, c ≠ b → zH S' c = zH S c) → zH S' b = some (xs.set i v) → Q δ S') : W (setXA v δ (.ref b) (.int (i : Int)) S) Q := by
 refine W.intro (setXA_ref v δ h hi) (k _ (by simp) (fun S0 l hb => l.set hb _) (fun c hc => lstAt_set_ne (Ne.symm hc)) (lstAt_set h))
theorem natOf (v : Int) {k : Int} (hk : 0 < k) : ∃ m : Nat, v.fmod k = (m : Int) ∧ (m : Int) < k := by
 obtain ⟨h1, h2⟩ := fmod_bd v hk
 exact ⟨(v.fmod k).toNat, by omega, by omega⟩
end Nm
end
section
namespace Nm
open Np PySem
inductive Deed where
 | swap (i j : Nat) | scale (i : Nat) (q : Rat) | add (i j : Nat) (q : Rat)
def Deed.d : Deed → D
 | .swap i j => .tup [.str "swap", .int (i : Int), .int (j : Int)]
 | .scale i q => .tup [.str "scale", .int (i : Int), ratD q]
 | .add i j q => .tup [.str "add", .int (i : Int), .int (j : Int), ratD q]
def Deed.Ok (m : Nat) : Deed → Prop
 | .swap i j => i < m ∧ j < m ∧ i ≠ j
 | .scale i q => i < m ∧ q ≠ 0
 | .add i j _ => i < m ∧ j < m ∧ i ≠ j
def zR (T : List (List Rat)) (i : Nat) : List Rat := T.getD i []
def doD (T : List (List Rat)) : Deed → List (List Rat)
 | .swap i j => (T.set i (zR T j)).set j (zR T i)
 | .scale i q => T.set i (sclR (zR T i) q)
 | .add i j q => T.set i (addR (zR T i) (sclR (zR T j) q))
def doneR (T : List (List Rat)) (ds : List Deed) : List (List Rat) := ds.foldl doD T
theorem eqD_str {x y : Str} (hx : x.cps.all (· < 0x110000) = true) (hy : y.cps.all (· < 0x110000) = true) (S : Sto) : eqD (.str x) (.str y) S = ok (.bl (x == y)) S := by
 have e : ∀ {x : Str}, x.cps.all (· < 0x110000) = true → rd 9 S (.str x) = some (.str x) := by
  intro x hx
  show (if x.cps.all (· < 0x110000) = true then some (T.str x) else none) = _
  rw [if_pos hx]
 unfold eqD
 rw [e hx, e hy]
 rfl
theorem str_ss (S : Sto) : eqD (.str "swap") (.str "swap") S = ok (.bl true) S := by rw [eqD_str (by decide +kernel) (by decide +kernel)]; rw [show (("swap" : Str) == ("swap" : Str)) = true by decide +kernel]
theorem str_cs (S : Sto) : eqD (.str "scale") (.str "swap") S = ok (.bl false) S := by rw [eqD_str (by decide +kernel) (by decide +kernel)]; rw [show (("scale" : Str) == ("swap" : Str)) = false by decide +kernel]
theorem str_as (S : Sto) : eqD (.str "add") (.str "swap") S = ok (.bl false) S := by rw [eqD_str (by decide +kernel) (by decide +kernel)]; rw [show (("add" : Str) == ("swap" : Str)) = false by decide +kernel]
theorem str_cc (S : Sto) : eqD (.str "scale") (.str "scale") S = ok (.bl true) S := by rw [eqD_str (by decide +kernel) (by decide +kernel)]; rw [show (("scale" : Str) == ("scale" : Str)) = true by decide +kernel]
theorem str_ac (S : Sto) : eqD (.str "add") (.str "scale") S = ok (.bl false) S := by rw [eqD_str (by decide +kernel) (by decide +kernel)]; rw [show (("add" : Str) == ("scale" : Str)) = false by decide +kernel]
theorem str_aa (S : Sto) : eqD (.str "add") (.str "add") S = ok (.bl true) S := by rw [eqD_str (by decide +kernel) (by decide +kernel)]; rw [show (("add" : Str) == ("add" : Str)) = true by decide +kernel]
theorem isi_str_str (x : Str) (S : Sto) : isiD .str (.str x) S = ok (.bl true) S := rfl
theorem tix (ds : List D) (i : Nat) (d : D) (h : ds[i]? = some d) (S : Sto) : ixD (.tup ds) (.int (i : Int)) S = ok d S := by
 have hl : i < ds.length := (List.getElem?_eq_some_iff.mp h).1
 show ixK (some ds) i S = _
 unfold ixK
 simp only [ixA_nat hl, Option.bind_some, h]
theorem tix0 (a : D) (r : List D) (S : Sto) : ixD (.tup (a :: r)) (.int 0) S = ok a S := tix (a :: r) 0 a rfl S
theorem tix1 (a b : D) (r : List D) (S : Sto) : ixD (.tup (a :: b :: r)) (.int 1) S = ok b S := tix (a :: b :: r) 1 b rfl S
theorem tix2 (a b c : D) (r : List D) (S : Sto) : ixD (.tup (a :: b :: c :: r)) (.int 2) S = ok c S := tix (a :: b :: c :: r) 2 c rfl S
theorem tix3 (a b c d : D) (r : List D) (S : Sto) : ixD (.tup (a :: b :: c :: d :: r)) (.int 3) S = ok d S := tix (a :: b :: c :: d :: r) 3 d rfl S
theorem is_ratio_rat (q : Rat) (S : Sto) : F.is_ratio [ratD q] S = ok (.bl true) S := by
 refine W_eq ?_
 have h1 : (1 : Int) ≤ q.den := by have := den_pos' q; omega
 have h2 : Int.gcd (if q.num < 0 then -q.num else q.num) (q.den : Int) = 1 := by rw [gcd_abs1]; exact gcd_num_den q
 (unfold F.is_ratio; refine Np.W_fnF rfl ?_; unfold Den.is_ratio; simp_all [])
 simp_all [whole_int, h1, greatest_common_eq (abs_nonneg q.num) (show (0 : Int) ≤ q.den by omega), h2]
 exact ⟨rfl, trivial⟩
theorem row_number_eq {i m : Nat} (h : i < m) (S : Sto) : F.is_row_number [.int (i : Int), .int (m : Int)] S = ok (.bl true) S := by
 refine W_eq ?_
 (unfold F.is_row_number; refine Np.W_fnF rfl ?_; unfold Den.is_row_number; simp_all [])
 have h1 : (0 : Int) ≤ (i : Int) := by omega
 have h2 : (i : Int) < (m : Int) := by omega
 simp_all [whole_int, h1, h2]
theorem unlike_eq {i j m : Nat} (hi : i < m) (hj : j < m) (h : i ≠ j) (S : Sto) : F.are_unlike_rows [.int (i : Int), .int (j : Int), .int (m : Int)] S = ok (.bl true) S := by
 refine W_eq ?_
 (unfold F.are_unlike_rows; refine Np.W_fnF rfl ?_; unfold Den.are_unlike_rows; simp_all [])
 have h1 : ¬ ((i : Int) = (j : Int)) := by omega
 simp_all [row_number_eq hi, row_number_eq hj, h1]
theorem is_deed_eq {d : Deed} {m : Nat} (h : d.Ok m) (S : Sto) : F.is_deed [d.d, .int (m : Int)] S = ok (.bl true) S := by
 refine W_eq ?_
 unfold F.is_deed
 refine W_fnF rfl ?_
 unfold Den.is_deed
 cases d with
 | swap i j => simp_all [Deed.d, tix0, tix1, tix2, isi_str_str, str_ss, unlike_eq h.1 h.2.1 h.2.2, Int.reduceEq, show ((0 + 1 + 1 + 1 : Nat) : Int) = 3 from rfl]
 | scale i q =>
  have hq : ¬ q = 0 := h.2
  simp_all [Deed.d, tix0, tix1, tix2, isi_str_str, str_cs, str_cc, row_number_eq h.1, is_ratio_rat, hq, Int.reduceEq, show ((0 + 1 + 1 + 1 : Nat) : Int) = 3 from rfl]
 | add i j q => simp_all [Deed.d, tix0, tix1, tix2, tix3, isi_str_str, str_as, str_ac, str_aa, unlike_eq h.1 h.2.1 h.2.2, is_ratio_rat, Int.reduceEq, show ((0 + 1 + 1 + 1 + 1 : Nat) : Int) = 4 from rfl]
def Deed.le (n : Nat) : Deed → Prop
 | .swap _ _ => True
 | .scale _ q => Le n q
 | .add _ _ q => Le n q
theorem doD_length (T : List (List Rat)) (d : Deed) : (doD T d).length = T.length := by cases d <;> simp [doD]
theorem yB {T : List (List Rat)} {i : Nat} {r : List Rat} (h : T[i]? = some r) : zR T i = r := by simp [zR, h]
theorem doD_wide {T : List (List Rat)} {d : Deed} {n m : Nat} (hw : Wide T n) (hd : d.Ok T.length) : Wide (doD T d) n := by
 have hrow : ∀ i, i < T.length → (zR T i).length = n := fun i hi => by
  obtain ⟨r, hr⟩ := zQ hi
  rw [yB hr]
  exact hw r (zK hr)
 intro r hr
 cases d with
 | swap i j =>
  rcases List.mem_or_eq_of_mem_set hr with h | h
  ·rcases List.mem_or_eq_of_mem_set h with h | h
   ·exact hw r h
   ·rw [h]; exact hrow j hd.2.1
  ·rw [h]; exact hrow i hd.1
 | scale i q =>
  rcases List.mem_or_eq_of_mem_set hr with h | h
  ·exact hw r h
  ·rw [h]; simp [hrow i hd.1]
 | add i j q =>
  rcases List.mem_or_eq_of_mem_set hr with h | h
  ·exact hw r h
  ·rw [h]; simp [hrow i hd.1, hrow j hd.2.1]
theorem set_get {α : Type} {xs : List α} {i k : Nat} {x y : α} (h : (xs.set i x)[k]? = some y) : (k = i ∧ y = x) ∨ (k ≠ i ∧ xs[k]? = some y) := by
 by_cases e : i = k
 ·subst e
  rw [List.getElem?_set] at h
  split at h
  ·split at h
   ·exact .inl ⟨rfl, (Option.some.inj h).symm⟩
   ·cases h
  ·exact absurd rfl (by assumption)
 ·rw [List.getElem?_set_ne e] at h
  exact .inr ⟨fun z => e z.symm, h⟩
theorem TabR.set {S S' : Sto} {c i b : Nat} {cs : List Nat} {U : List (List Rat)} {r : List Rat} (hl : cs.length = U.length) (hr : ∀ (k x : Nat) u, cs[k]? = some x → U[k]? = some u → RowA S x u) (hb : RowA S b r) : ∀ (k x : Nat) u, (cs.set i b)[k]? = some x → (U.set i r)[k]? = some u → RowA S x u := by
 intro k x u h1 h2
 rcases set_get h1 with ⟨rfl, rfl⟩ | ⟨hk, h1⟩
 ·rcases set_get h2 with ⟨_, rfl⟩ | ⟨hk, _⟩
  ·exact hb
  ·exact absurd rfl hk
 ·rcases set_get h2 with ⟨rfl, _⟩ | ⟨_, h2⟩
  ·exact absurd rfl hk
  ·exact hr k x u h1 h2
theorem nodup_set {cs : List Nat} {i b : Nat} (h : cs.Nodup) (hb : b ∉ cs) : (cs.set i b).Nodup := by
 induction cs generalizing i with
 | nil => exact h
 | cons c cs ih =>
  have h' := List.nodup_cons.mp h
  cases i with
  | zero =>
   rw [List.set_cons_zero, List.nodup_cons]
   exact ⟨fun z => hb (.tail _ z), h'.2⟩
  | succ i =>
   rw [List.set_cons_succ, List.nodup_cons]
   refine ⟨fun z => ?_, ih h'.2 fun z => hb (.tail _ z)⟩
   rcases List.mem_or_eq_of_mem_set z with z | z
   ·exact h'.1 z
   ·exact hb (by rw [← z]; exact .head _)
theorem map_set_ref (cs : List Nat) (i b : Nat) : (cs.map D.ref).set i (.ref b) = (cs.set i b).map D.ref := by rw [List.map_set]
theorem swap_get {α : Type} {xs : List α} {i j k : Nat} {a b y : α} (hi : xs[i]? = some a) (hj : xs[j]? = some b) (h : ((xs.set i b).set j a)[k]? = some y) : (k = j ∧ y = a) ∨ (k ≠ j ∧ k = i ∧ y = b) ∨ (k ≠ j ∧ k ≠ i ∧ xs[k]? = some y) := by
 rcases set_get h with ⟨rfl, rfl⟩ | ⟨hk, h⟩
 ·exact .inl ⟨rfl, rfl⟩
 ·rcases set_get h with ⟨rfl, rfl⟩ | ⟨hk2, h⟩
  ·exact .inr (.inl ⟨hk, rfl, rfl⟩)
  ·exact .inr (.inr ⟨hk, hk2, h⟩)
theorem nodup_swap {xs : List Nat} {i j a b : Nat} (h : xs.Nodup) (hi : xs[i]? = some a) (hj : xs[j]? = some b) : ((xs.set i b).set j a).Nodup := by
 show List.Pairwise _ _
 rw [List.pairwise_iff_getElem]
 intro p q hp hq hpq
 have hql : q < xs.length := by simpa using hq
 have inj : ∀ {u v x : Nat}, xs[u]? = some x → xs[v]? = some x → u = v := by
  intro u v x hu hv
  have h1 := (List.getElem?_eq_some_iff.mp hu)
  have h2 := (List.getElem?_eq_some_iff.mp hv)
  exact (List.getElem_inj h).mp (h1.2.trans h2.2.symm)
 obtain ⟨x, hx⟩ := zQ (xs := (xs.set i b).set j a) (i := p) (by simp; omega)
 obtain ⟨y, hy⟩ := zQ (xs := (xs.set i b).set j a) (i := q) (by simp; omega)
 intro e
 have e : x = y := by
  have h1 := (List.getElem?_eq_some_iff.mp hx).2
  have h2 := (List.getElem?_eq_some_iff.mp hy).2
  rw [← h1, ← h2]
  exact e
 subst e
 rcases swap_get hi hj hx with ⟨e1, e2⟩ | ⟨p1, e1, e2⟩ | ⟨p1, p2, hx'⟩ <;> rcases swap_get hi hj hy with ⟨e3, e4⟩ | ⟨q1, e3, e4⟩ | ⟨q1, q2, hy'⟩
 ·omega
 ·rw [e2] at e4; rw [← e4] at hj; have := inj hi hj; omega
 ·rw [e2] at hy'; have := inj hy' hi; omega
 ·rw [e2] at e4; rw [← e4] at hi; have := inj hi hj; omega
 ·omega
 ·rw [e2] at hy'; have := inj hy' hj; omega
 ·rw [e4] at hx'; have := inj hx' hi; omega
 ·rw [e4] at hx'; have := inj hx' hj; omega
 ·have := inj hx' hy'; omega
theorem done_once_w {S : Sto} {n t k N : Nat} {ts : List Nat} {T : List (List Rat)} {d : Deed} (f : FT n S t ts T) (hd : d.Ok T.length) (hw : Wide T k) (hk : k ≤ 1000000) (hm : T.length ≤ 1000000) (hT : LeT N T) (hq : d.le N) (hN : N ≤ 20000000) :
  W (F.done_once [.ref t, d.d] S) fun e S' => ∃ c cs, e = .ref c ∧ SLe S S' ∧ FT n S' c cs (doD T d) := by
 have htl := f.tab.2.1
 (unfold F.done_once; refine Np.W_fnF rfl ?_; unfold Den.done_once; simp_all [])
 refine W_new (lofD_ref f.tab.1) fun S1 c l1 n1 r1 => ?_
 have hnc : n ≤ c := by have := lstAt_lt f.tab.1; have := f.nc; omega
 have f1 := f.le l1
 have hcs : ∀ x ∈ ts, x ≠ c := fun x hx => by have := f.lt x hx; omega
 cases d with
 | swap i j =>
  obtain ⟨hi, hj, hij⟩ := hd
  obtain ⟨bi, hbi⟩ := zQ (xs := ts) (i := i) (by omega)
  obtain ⟨bj, hbj⟩ := zQ (xs := ts) (i := j) (by omega)
  obtain ⟨ri, hri⟩ := zQ hi
  obtain ⟨rj, hrj⟩ := zQ hj
  have row1 := f1.tab.2.2 i bi ri hbi hri
  have row2 := f1.tab.2.2 j bj rj hbj hrj
  simp_all [Deed.d, tix0, tix1, tix2, str_ss, ixD_ref f1.tab.1 (map_get D.ref hbj), ixD_ref f1.tab.1 (map_get D.ref hbi), setXG, setXK]
  refine W_setX r1 (by simp; omega) fun S2 _ k2 kne2 r2 => ?_
  have tc : t ≠ c := by have := lstAt_lt f.tab.1; omega
  simp_all [Deed.d, ixD_ref (show zH S2 t = some (ts.map D.ref) by rw [kne2 t tc]; exact f1.tab.1) (map_get D.ref hbi), tix2, setXG, setXK]
  refine W_setX r2 (by simp; omega) fun S3 _ k3 kne3 r3 => ?_
  simp_all []
  rw [map_set_ref, map_set_ref] at r3
  refine ⟨c, (ts.set i bj).set j bi, rfl, k3 _ (k2 _ l1 n1) n1, ⟨⟨r3, by simp [doD, htl], ?_⟩, fun x hx => ?_, nodup_swap f.inc hbi hbj, fun x hx => ?_, hnc⟩⟩
  ·intro p x u h1 h2
   have key : ∀ x u, RowA S1 x u → x ∈ ts → RowA S3 x u := fun x u hx hm => by
    show zH S3 x = _
    rw [kne3 x (hcs x hm), kne2 x (hcs x hm)]
    exact hx
   simp only [doD, yB hri, yB hrj] at h2
   rcases swap_get hbi hbj h1 with ⟨rfl, rfl⟩ | ⟨p1, rfl, rfl⟩ | ⟨p1, p2, h1⟩ <;> rcases swap_get hri hrj h2 with ⟨e1, e2⟩ | ⟨q1, e1, e2⟩ | ⟨q1, q2, h2⟩
   ·subst e2; exact key _ _ row1 (zK hbi)
   ·exact absurd rfl q1
   ·exact absurd rfl q1
   ·exact absurd e1 p1
   ·subst e2; exact key _ _ row2 (zK hbj)
   ·exact absurd rfl q2
   ·exact absurd e1 p1
   ·exact absurd e1 p2
   ·exact key _ _ (f1.tab.2.2 p x u h1 h2) (zK h1)
  ·rcases List.mem_or_eq_of_mem_set hx with h | h
   ·rcases List.mem_or_eq_of_mem_set h with h | h
    ·exact f.lo x h
    ·rw [h]; exact f.lo _ (zK hbj)
   ·rw [h]; exact f.lo _ (zK hbi)
  ·rcases List.mem_or_eq_of_mem_set hx with h | h
   ·rcases List.mem_or_eq_of_mem_set h with h | h
    ·exact hcs x h
    ·rw [h]; exact hcs _ (zK hbj)
   ·rw [h]; exact hcs _ (zK hbi)
 | scale i q =>
  obtain ⟨hi, hq0⟩ := hd
  obtain ⟨bi, hbi⟩ := zQ (xs := ts) (i := i) (by omega)
  obtain ⟨ri, hri⟩ := zQ hi
  have row1 := f1.tab.2.2 i bi ri hbi hri
  have hq : Le N q := hq
  simp_all [Deed.d, tix0, tix1, tix2, str_cs, str_cc, ixD_ref f1.tab.1 (map_get D.ref hbi)]
  refine W_new (scaled_eq row1 (by rw [hw ri (zK hri)]; exact hk) (sm_of (hT ri (zK hri)) (by omega)) (hq.sm (by omega))) fun S2 b l2 n2 r2 => ?_
  simp_all [setXG, setXK]
  refine W_setX (l2.lst r1) (by simp; omega) fun S3 _ k3 kne3 r3 => ?_
  simp_all []
  rw [map_set_ref] at r3
  have hbc : b ≠ c := by have := lstAt_lt r1; omega
  have hbt : b ∉ ts := fun z => by have := f1.lt b z; omega
  refine ⟨c, ts.set i b, rfl, k3 _ (l1.trans l2) n1, ⟨⟨r3, by simp [doD, htl], ?_⟩, fun x hx => ?_, nodup_set f.inc hbt, fun x hx => ?_, hnc⟩⟩
  ·simp only [doD, yB hri]
   refine TabR.set (S' := S3) (c := c) htl (fun p x u h1 h2 => ?_) ?_
   ·show zH S3 x = _
    rw [kne3 x (hcs x (zK h1))]
    exact l2.lst (f1.tab.2.2 p x u h1 h2)
   ·show zH S3 b = _
    rw [kne3 b hbc]
    exact r2
  ·rcases List.mem_or_eq_of_mem_set hx with h | h
   ·exact f.lo x h
   ·rw [h]; have := l1.len; have := lstAt_lt r1; omega
  ·rcases List.mem_or_eq_of_mem_set hx with h | h
   ·exact hcs x h
   ·rw [h]; exact hbc
 | add i j q =>
  obtain ⟨hi, hj, hij⟩ := hd
  obtain ⟨bi, hbi⟩ := zQ (xs := ts) (i := i) (by omega)
  obtain ⟨bj, hbj⟩ := zQ (xs := ts) (i := j) (by omega)
  obtain ⟨ri, hri⟩ := zQ hi
  obtain ⟨rj, hrj⟩ := zQ hj
  have row1 := f1.tab.2.2 i bi ri hbi hri
  have row2 := f1.tab.2.2 j bj rj hbj hrj
  have hq : Le N q := hq
  simp_all [Deed.d, tix0, tix1, tix2, tix3, str_as, str_ac, ixD_ref f1.tab.1 (map_get D.ref hbj), ixD_ref f1.tab.1 (map_get D.ref hbi)]
  refine W_new (scaled_eq row2 (by rw [hw rj (zK hrj)]; exact hk) (sm_of (hT rj (zK hrj)) (by omega)) (hq.sm (by omega))) fun S2 b l2 n2 r2 => ?_
  have hsc : ∀ x ∈ rj.map (· * q), Le (N + N) x := fun x hx => by
   obtain ⟨y, hy, rfl⟩ := List.mem_map.mp hx
   exact (hT rj (zK hrj) y hy).mul hq
  refine W_new (added_eq (l2.lst row1) r2 (by rw [hw ri (zK hri)]; exact hk) (sm_of (hT ri (zK hri)) (by omega)) (sm_of hsc (by omega))) fun S3 b3 l3 n3 r3 => ?_
  simp_all [setXG, setXK]
  refine W_setX ((l2.trans l3).lst r1) (by simp; omega) fun S4 _ k4 kne4 r4 => ?_
  simp_all []
  rw [map_set_ref] at r4
  have hbc : b3 ≠ c := by have := lstAt_lt r1; have := l2.len; omega
  have hbt : b3 ∉ ts := fun z => by have := f1.lt b3 z; have := l2.len; omega
  refine ⟨c, ts.set i b3, rfl, k4 _ (l1.trans (l2.trans l3)) n1, ⟨⟨r4, by simp [doD, htl], ?_⟩, fun x hx => ?_, nodup_set f.inc hbt, fun x hx => ?_, hnc⟩⟩
  ·simp only [doD, yB hri, yB hrj]
   refine TabR.set (S' := S4) (c := c) htl (fun p x u h1 h2 => ?_) ?_
   ·show zH S4 x = _
    rw [kne4 x (hcs x (zK h1))]
    exact (l2.trans l3).lst (f1.tab.2.2 p x u h1 h2)
   ·show zH S4 b3 = _
    rw [kne4 b3 hbc]
    exact r3
  ·rcases List.mem_or_eq_of_mem_set hx with h | h
   ·exact f.lo x h
   ·rw [h]; have := l1.len; have := lstAt_lt r1; have := l2.len; omega
  ·rcases List.mem_or_eq_of_mem_set hx with h | h
   ·exact hcs x h
   ·rw [h]; exact hbc
theorem allB_true (n : Nat) : allB (List.replicate n (D.bl true)) = some true := by
 have := allB_map (fun _ : Nat => true) (List.range n)
 rw [List.map_const', List.length_range] at this
 rw [this]
 congr 1
 exact List.all_eq_true.mpr fun _ _ => rfl
theorem rep_get {α : Type} {n i : Nat} {x z : α} (h : (List.replicate n x)[i]? = some z) : z = x ∧ i < n := by
 rw [List.getElem?_replicate] at h
 split at h
 ·exact ⟨(Option.some.inj h).symm, by assumption⟩
 ·cases h
theorem are_deeds_w {S : Sto} {b m : Nat} {ds : List Deed} (hb : zH S b = some (ds.map Deed.d)) (hd : ∀ d ∈ ds, d.Ok m) (hl : ds.length ≤ 1000000) : W (F.are_deeds [.ref b, .int (m : Int)] S) fun d S' => d = .bl true ∧ SLe S S' := by
 (unfold F.are_deeds; refine Np.W_fnF rfl ?_; unfold Den.are_deeds; simp_all [])
 simp_all [isi_lst_ref hb]
 refine W_new (comp_to (base := [some (.ref b), some (.int (m : Int))]) _ (tg_one _) (src := .one b) (xs := ds.map Deed.d) (zs := List.replicate ds.length (.bl true)) (by simp only [Np.itA, Np.itE, Np.yF, Np.aConsK, Np.aNil, Np.consK, Np.vr, Np.cst, List.getElem?_cons_zero, List.getElem?_cons_succ, Np.bnd_ok]; exact itL_ref hb) (Has.one hb) (by rw [len_one hb]; simpa using hl) (fun _ _ => trivial) (by simp) fun i x z hx hz => ?_) fun S' c l n r => ?_
 ·obtain ⟨d, hdi, rfl⟩ := get_map hx
  obtain ⟨rfl, _⟩ := rep_get hz
  refine W_eq ?_
  simp_all [is_deed_eq (hd d (zK hdi))]
 ·simp_all [allD_ref r (allB_true _)]
  exact ⟨trivial, l⟩
theorem doneR_take {T : List (List Rat)} {ds : List Deed} {i : Nat} {d : Deed} (h : ds[i]? = some d) : doneR T (ds.take (i + 1)) = doD (doneR T (ds.take i)) d := by
 unfold doneR
 rw [List.take_add_one, h, List.foldl_append]
 rfl
theorem doneR_length (T : List (List Rat)) : ∀ ds : List Deed, (doneR T ds).length = T.length := by
 intro ds
 unfold doneR
 induction ds generalizing T with
 | nil => rfl
 | cons d ds ih => rw [List.foldl_cons, ih, doD_length]
theorem doneR_wide {T : List (List Rat)} {n m : Nat} (hl : T.length = m) (hw : Wide T n) : ∀ {ds : List Deed}, (∀ d ∈ ds, d.Ok m) → Wide (doneR T ds) n := by
 intro ds
 unfold doneR
 induction ds generalizing T with
 | nil => intro _; exact hw
 | cons d ds ih =>
  intro hd
  rw [List.foldl_cons]
  exact ih (by rw [doD_length]; exact hl) (doD_wide (m := m) hw (by rw [hl]; exact hd d (.head _))) fun x hx => hd x (.tail _ hx)
theorem done_w {S : Sto} {t b k N : Nat} {ts : List Nat} {T : List (List Rat)} {ds : List Deed} {Q : D → Sto → Prop} (ht : TabR S t ts T) (hb : zH S b = some (ds.map Deed.d)) (hd : ∀ d ∈ ds, d.Ok T.length) (hw : Wide T k) (hk : k ≤ 1000000) (hm : T.length ≤ 1000000) (hl : ds.length ≤ 1000000) (hT : ∀ i, i ≤ ds.length → LeT N (doneR T (ds.take i))) (hq : ∀ d ∈ ds, d.le N) (hN : N ≤ 20000000)
  (fin : ∀ S' c cs, SLe S S' → FT S.length S' c cs (doneR T ds) → Q (.ref c) S') : W (F.done [.ref t, .ref b] S) Q := by
 (unfold F.done; refine Np.W_fnF rfl ?_; unfold Den.done; simp_all [])
 simp_all [lenD_ref ht.1, List.length_map, ht.2.1]
 refine (are_deeds_w hb hd hl).mono ?_
 rintro d S1 ⟨rfl, l1⟩
 simp_all []
 refine copy_tab (base := [_, _, _, _]) (ht.le l1) hm (by simp only [Np.itA, Np.itE, Np.yF, Np.aConsK, Np.aNil, Np.consK, Np.vr, Np.cst, List.getElem?_cons_zero, List.getElem?_cons_succ, Np.bnd_ok]; exact itL_ref (l1.lst ht.1)) (fun b S' => rfl) fun S2 c cs l2 f2 => ?_
 have L := l1.trans l2
 simp_all [itL_ref (L.lst hb)]
 refine W_forK (ds.map Deed.d) (fun i δ S' => SLe S S' ∧ ∃ c cs o, δ = [some (.ref t), some (.ref b), some (.ref c), o] ∧ FT S.length S' c cs (doneR T (ds.take i))) (by rw [len_one (L.lst hb)]; exact Nat.le_refl _) ⟨L, c, cs, _, rfl, ⟨f2.tab, fun x hx => Nat.le_trans l1.len (f2.lo x hx), f2.inc, f2.ne, Nat.le_trans l1.len f2.nc⟩⟩ (fun i δ S' h => get_one (h.1.lst hb) i) ?_ ?_
 ·rintro i x δ S3 hx ⟨L3, c3, cs3, o, rfl, f3⟩
  obtain ⟨d, hdi, rfl⟩ := get_map hx
  have hi : i < ds.length := (List.getElem?_eq_some_iff.mp hdi).1
  simp_all []
  have hln : (doneR T (ds.take i)).length = T.length := doneR_length T _
  refine (done_once_w (k := k) (N := N) f3 (by rw [hln]; exact hd d (zK hdi)) (doneR_wide rfl hw fun x hx => hd x (List.mem_of_mem_take hx)) hk (by omega) (hT i (by omega)) (hq d (zK hdi)) hN).mono ?_
  rintro e S4 ⟨c4, cs4, rfl, l4, f4⟩
  exact ⟨L3.trans l4, c4, cs4, _, rfl, by rw [doneR_take hdi]; exact f4⟩
 ·rintro δ S3 ⟨L3, c3, cs3, o, rfl, f3⟩
  simp_all []
  rw [List.length_map, List.take_length] at f3
  exact fin S3 c3 cs3 L3 f3
end Nm
end
section
namespace Nm
open Np PySem
theorem low_eq {a b : Int} (hb : 0 < b) (S : Sto) : F.k21_low [.int a, .int b] S = ok (ratD (Rat.divInt a b)) S := by
 refine W_eq ?_
 have hn : ¬ b < 0 := by omega
 obtain ⟨c0, c1, c2⟩ := ratio_parts (a := a) (b := b) (by omega) (((Int.gcd b a : Nat) : Int)) (by rw [if_neg hn])
 rw [Int.gcd_comm] at c0 c1 c2
 (unfold F.k21_low; refine Np.W_fnF rfl ?_; unfold Den.k21_low; simp_all [])
 refine W_whileS (fun δ S' => S' = S ∧ ∃ x y, δ = [some (.int a), some (.int b), some (.int x), some (.int y)] ∧ 0 ≤ x ∧ 0 ≤ y ∧ Int.gcd x y = Int.gcd a b) (fun δ _ => match δ with | [_, _, _, some (.int y)] => y.natAbs | _ => 0) ⟨rfl, _, b, rfl, abs_nonneg a, by omega, gcd_abs1 a b⟩ ?_
 rintro δ S' ⟨rfl, x, y, rfl, hx, hy, hg⟩
 simp_all []
 split
 ·rename_i h0
  obtain ⟨h1, h2, h3⟩ := gcd_step (a := x) (b := y) h0 hx
  simp_all [modD_int (show y ≠ 0 by omega)]
  simp only [loopQ]
  refine ⟨⟨trivial, y, x.fmod y, rfl, hy, h1, by rw [h3, hg]⟩, by omega⟩
 ·rename_i h0
  have hy0 : y = 0 := by omega
  subst hy0
  have hxg : x = ((Int.gcd a b : Nat) : Int) := by rw [← hg]; simp; omega
  subst hxg
  simp_all [fdivD_int c0]
  simp only [c1, c2, ratD, and_self]
theorem great21_eq (c : Int) (S : Sto) : ∃ v : Int, F.k21_great [.int c] S = ok (.int v) S := by
 have h1 : ((10 : Int) ^ 60).natAbs.log2 + ((10 : Int) ^ 24).natAbs.log2 ≤ 100000000 := by decide +kernel
 obtain ⟨g1, g2⟩ := fmod_bd c (show (0 : Int) < 10 ^ 60 by decide +kernel)
 have h2 : (c.fmod (10 ^ 60) + 41).natAbs.log2 + ((23 : Int) ^ 64).natAbs.log2 ≤ 100000000 := by
  have l1 : ((23 : Int) ^ 64).natAbs.log2 ≤ 300 := by decide +kernel
  have l2 : (c.fmod (10 ^ 60) + 41).natAbs.log2 ≤ 201 := by
   have e : (2 : Int) ^ 200 ≥ 10 ^ 60 := by decide +kernel
   refine log2_le ?_
   have e2 : ((2 : Nat) ^ 201 : Int) = 2 * 2 ^ 200 := by decide +kernel
   have e3 : (41 : Int) ≤ 2 ^ 200 := by decide +kernel
   have : ((c.fmod (10 ^ 60) + 41).natAbs : Int) < ((2 ^ 201 : Nat) : Int) := by
    rw [Int.natAbs_of_nonneg (by omega)]
    rw [Int.natCast_pow]
    show _ < ((2 : Nat) ^ 201 : Int)
    rw [e2]
    omega
   omega
  omega
 refine ⟨((c.fmod (10 ^ 60) + 41) * 23 ^ 64).fmod (10 ^ 60 * 10 ^ 24), W_eq ?_⟩
 (unfold F.k21_great; refine Np.W_fnF rfl ?_; unfold Den.k21_great; simp_all [])
 have q60 : powD (.int 10) (.int 60) = fun S => ok (.int (10 ^ 60)) S := by funext S; exact p10_60 S
 have q24 : ∀ S, powD (.int 10) (.int 24) S = ok (.int (10 ^ 24)) S := fun S => powD_ok (by decide) S
 have q23 : ∀ S, powD (.int 23) (.int 64) S = ok (.int (23 ^ 64)) S := fun S => powD_ok (by decide) S
 simp_all [p10_60, q24, q23, mulD_int h1, modD_int (show (10 : Int) ^ 60 ≠ 0 by decide +kernel), mulD_int h2, modD_int (show (10 : Int) ^ 60 * 10 ^ 24 ≠ 0 by decide +kernel)]
theorem dvm_eq {i j : Int} (h : j ≠ 0) (S : Sto) : dvmD [.int i, .int j] S = ok (.tup [.int (i.fdiv j), .int (i.fmod j)]) S := by
 show (if _ then _ else _) = _
 rw [if_neg h]
theorem tupG2 (a b : DG) (x y : D) (δ : DS) (S : Sto) : tupG [a, b] (.tup [x, y]) δ S = tupGs [a, b] [x, y] δ S := rfl
theorem plus21_eq {p q : Rat} (hp : sm p) (hq : sm q) (S : Sto) : F.k21_plus [ratD p, ratD q] S = ok (ratD (p + q)) S := by
 refine W_eq ?_
 (unfold F.k21_plus; refine Np.W_fnF rfl ?_; unfold Den.k21_plus; simp_all [])
 simp_all [mulD_int (hp.nd hq), mulD_int (hq.nd hp), mulD_int (hp.dd hq), low_eq (show (0 : Int) < p.den * q.den from Int.mul_pos (den_pos' p) (den_pos' q)), ← add_divInt]
theorem times21_eq {p q : Rat} (hp : sm p) (hq : sm q) (S : Sto) : F.k21_times [ratD p, ratD q] S = ok (ratD (p * q)) S := by
 refine W_eq ?_
 (unfold F.k21_times; refine Np.W_fnF rfl ?_; unfold Den.k21_times; simp_all [])
 simp_all [mulD_int (hp.nn hq), mulD_int (hp.dd hq), low_eq (show (0 : Int) < p.den * q.den from Int.mul_pos (den_pos' p) (den_pos' q)), ← mul_divInt]
theorem low_rat (q : Rat) (S : Sto) : F.k21_low [.int q.num, .int q.den] S = ok (ratD q) S := by
 rw [low_eq (den_pos' q), Rat.num_divInt_den]
theorem is_row21_eq {S : Sto} {a : Nat} {xs : List Rat} (ha : RowA S a xs) : F.k21_is_row [.ref a, .int (xs.length : Int)] S = ok (.bl true) S := by
 refine W_eq ?_
 (unfold F.k21_is_row; refine Np.W_fnF rfl ?_; unfold Den.k21_is_row; simp_all [])
 simp_all [isi_lst_ref ha, lenD_ref ha, List.length_map, itL_ref ha]
 refine W_forK (xs.map ratD) (fun i δ S' => S' = S ∧ ∃ o, δ = [some (.ref a), some (.int (xs.length : Int)), o]) (by rw [len_one ha]; exact Nat.le_refl _) ⟨rfl, _, rfl⟩ (fun i δ S' h => by rw [h.1]; exact get_one ha i) ?_ ?_
 ·rintro i x δ S' hx ⟨rfl, o, rfl⟩
  obtain ⟨q, hq, rfl⟩ := get_map hx
  have h1 : ¬ ((q.den : Int) < 1) := by have := den_pos' q; omega
  simp_all [whole_int, h1, low_rat]
  exact ⟨rfl, _, rfl⟩
 ·rintro δ S' ⟨rfl, o, rfl⟩
  simp_all []
theorem is_table21_w {S : Sto} {a n : Nat} {as : List Nat} {T : List (List Rat)} (ha : TabR S a as T) (hw : Wide T n) (hl : T.length ≤ 1000000) : W (F.k21_is_table [.ref a, .int (T.length : Int), .int (n : Int)] S) fun d S' => d = .bl true ∧ SLe S S' := by
 (unfold F.k21_is_table; refine Np.W_fnF rfl ?_; unfold Den.k21_is_table; simp_all [])
 simp_all [isi_lst_ref ha.1, lenD_ref ha.1, List.length_map, ha.2.1]
 refine W_new (comp_to (base := [some (.ref a), some (.int (T.length : Int)), some (.int (n : Int))]) _ (tg_one _) (src := .one a) (xs := as.map D.ref) (zs := List.replicate T.length (.bl true)) (by simp only [Np.itA, Np.itE, Np.yF, Np.aConsK, Np.aNil, Np.consK, Np.vr, Np.cst, List.getElem?_cons_zero, List.getElem?_cons_succ, Np.bnd_ok]; exact itL_ref ha.1) (Has.one ha.1) (by rw [len_one ha.1]; simp [ha.2.1]; exact hl) (fun _ _ => trivial) (by simp [ha.2.1]) fun i x z hx hz => ?_) fun S' c l n r => ?_
 ·obtain ⟨b, hb, rfl⟩ := get_map hx
  obtain ⟨rfl, hi⟩ := rep_get hz
  obtain ⟨r, hr⟩ := zQ hi
  refine W_eq ?_
  have := is_row21_eq (ha.2.2 i b r hb hr)
  rw [hw r (zK hr)] at this
  simp_all [this]
 ·simp_all [allD_ref r (allB_true _)]
  exact ⟨trivial, l⟩
theorem tup3 (x y z : D) (S : Sto) : tupD [x, y, z] S = ok (.tup [x, y, z]) S := rfl
theorem tup4 (x y z w : D) (S : Sto) : tupD [x, y, z, w] S = ok (.tup [x, y, z, w]) S := rfl
theorem FT.mono {n n' : Nat} {S : Sto} {c : Nat} {cs : List Nat} {U : List (List Rat)} (h : FT n S c cs U) (k : n' ≤ n) : FT n' S c cs U := ⟨h.tab, fun b hb => Nat.le_trans k (h.lo b hb), h.inc, h.ne, Nat.le_trans k h.nc⟩
theorem FT.swap {n : Nat} {S S' : Sto} {c i j bi bj : Nat} {cs : List Nat} {U : List (List Rat)} {ri rj : List Rat} (h : FT n S c cs U) (hbi : cs[i]? = some bi) (hbj : cs[j]? = some bj) (hri : U[i]? = some ri) (hrj : U[j]? = some rj) (k1 : ∀ a, a ≠ c → zH S' a = zH S a) (k2 : zH S' c = some (((cs.map D.ref).set i (.ref bj)).set j (.ref bi))) :
  FT n S' c ((cs.set i bj).set j bi) ((U.set i rj).set j ri) := by
 rw [map_set_ref, map_set_ref] at k2
 have key : ∀ x u, RowA S x u → x ∈ cs → RowA S' x u := fun x u hx hm => by
  show zH S' x = _
  rw [k1 x (h.ne x hm)]
  exact hx
 have row1 := h.tab.2.2 i bi ri hbi hri
 have row2 := h.tab.2.2 j bj rj hbj hrj
 refine ⟨⟨k2, by simp [h.tab.2.1], fun p x u h1 h2 => ?_⟩, fun x hx => ?_, nodup_swap h.inc hbi hbj, fun x hx => ?_, h.nc⟩
 ·rcases swap_get hbi hbj h1 with ⟨e0, e5⟩ | ⟨p1, e0, e5⟩ | ⟨p1, p2, h1⟩ <;> rcases swap_get hri hrj h2 with ⟨e1, e2⟩ | ⟨q1, e1, e2⟩ | ⟨q1, q2, h2⟩
  ·rw [e5, e2]; exact key _ _ row1 (zK hbi)
  ·exact absurd e0 q1
  ·exact absurd e0 q1
  ·exact absurd e1 p1
  ·rw [e5, e2]; exact key _ _ row2 (zK hbj)
  ·exact absurd e0 q2
  ·exact absurd e1 p1
  ·exact absurd e1 p2
  ·exact key _ _ (h.tab.2.2 p x u h1 h2) (zK h1)
 ·rcases List.mem_or_eq_of_mem_set hx with z | z
  ·rcases List.mem_or_eq_of_mem_set z with z | z
   ·exact h.lo x z
   ·rw [z]; exact h.lo _ (zK hbj)
  ·rw [z]; exact h.lo _ (zK hbi)
 ·rcases List.mem_or_eq_of_mem_set hx with z | z
  ·rcases List.mem_or_eq_of_mem_set z with z | z
   ·exact h.ne x z
   ·rw [z]; exact h.ne _ (zK hbj)
  ·rw [z]; exact h.ne _ (zK hbi)
theorem zip_scl (q : Rat) : ∀ xs ys : List Rat, List.zipWith (fun x y => x + y * q) xs ys = addR xs (sclR ys q)
 | [], _ => rfl
 | _ :: _, [] => rfl
 | x :: xs, y :: ys => by
  have := zip_scl q xs ys
  simp only [addR, sclR, List.map_cons, List.zipWith_cons_cons] at this ⊢
  rw [this]
end Nm
end
section
namespace Nm
open Np PySem
def Deed.back : Deed → Deed
 | .swap i j => .swap i j
 | .scale i q => .scale i (1 / q)
 | .add i j q => .add i j (0 - q)
theorem Deed.back_ok {d : Deed} {m : Nat} (h : d.Ok m) : d.back.Ok m := by
 cases d with
 | swap i j => exact h
 | scale i q =>
  refine ⟨h.1, fun z => h.2 ?_⟩
  have e : q * (1 / q) = 1 := by rw [Rat.div_def, Rat.one_mul]; exact Rat.mul_inv_cancel q h.2
  rw [z, Rat.mul_zero] at e
  exact absurd e (by decide)
 | add i j q => exact h
theorem rowAt_set_same {T : List (List Rat)} {i : Nat} {r : List Rat} (h : i < T.length) : zR (T.set i r) i = r := by
 simp [zR, List.getD, List.getElem?_set, h]
theorem rowAt_set_ne {T : List (List Rat)} {i j : Nat} {r : List Rat} (h : i ≠ j) : zR (T.set i r) j = zR T j := by
 simp [zR, List.getD, List.getElem?_set, h]
theorem set_rowAt {T : List (List Rat)} {i : Nat} : T.set i (zR T i) = T := by
 apply List.ext_getElem?
 intro k
 rw [List.getElem?_set]
 split
 ·rename_i e
  subst e
  split
  ·rename_i h
   simp [zR, List.getD, List.getElem?_eq_getElem h]
  ·rename_i h
   rw [List.getElem?_eq_none (by omega)]
 ·rfl
theorem sclR_sclR (xs : List Rat) (p q : Rat) : sclR (sclR xs p) q = sclR xs (p * q) := by
 simp only [sclR, List.map_map]
 apply List.map_congr_left
 intro x _
 simp only [Function.comp]
 grind
theorem sclR_one (xs : List Rat) : sclR xs 1 = xs := by
 simp only [sclR]
 conv => rhs; rw [← List.map_id xs]
 apply List.map_congr_left
 intro x _
 simp only [id]
 grind
theorem add_back : ∀ (xs ys : List Rat) (q : Rat), xs.length = ys.length → addR (addR xs (sclR ys q)) (sclR ys (0 - q)) = xs
 | [], _, _, _ => by simp [addR]
 | x :: xs, [], _, h => by simp at h
 | x :: xs, y :: ys, q, h => by
  have ih := add_back xs ys q (by simpa using h)
  simp only [addR, sclR, List.map_cons, List.zipWith_cons_cons, List.cons.injEq] at ih ⊢
  exact ⟨by grind, ih⟩
theorem doD_back {T : List (List Rat)} {d : Deed} {n : Nat} (hw : Wide T n) (h : d.Ok T.length) : doD (doD T d) d.back = T := by
 have hrow : ∀ i, i < T.length → (zR T i).length = n := fun i hi => by
  obtain ⟨r, hr⟩ := zQ hi
  rw [yB hr]
  exact hw r (zK hr)
 cases d with
 | swap i j =>
  obtain ⟨hi, hj, ne⟩ := h
  simp only [doD, Deed.back]
  rw [rowAt_set_same (by simpa using hj), rowAt_set_ne (fun e => ne e.symm), rowAt_set_same hi]
  rw [List.set_comm _ _ (fun e => ne e.symm), List.set_set, List.set_set]
  rw [show (T.set i (zR T i)) = T from set_rowAt, set_rowAt]
 | scale i q =>
  obtain ⟨hi, hq⟩ := h
  simp only [doD, Deed.back]
  rw [rowAt_set_same hi, List.set_set, sclR_sclR, show q * (1 / q) = 1 by rw [Rat.div_def, Rat.one_mul]; exact Rat.mul_inv_cancel q hq, sclR_one, set_rowAt]
 | add i j q =>
  obtain ⟨hi, hj, ne⟩ := h
  simp only [doD, Deed.back]
  rw [rowAt_set_same hi, rowAt_set_ne ne, List.set_set, add_back _ _ _ (by rw [hrow i hi, hrow j hj]), set_rowAt]
def backs (ds : List Deed) : List Deed := (ds.map Deed.back).reverse
theorem doneR_append (T : List (List Rat)) (ds es : List Deed) : doneR T (ds ++ es) = doneR (doneR T ds) es := by simp [doneR]
theorem doneR_backs {n : Nat} : ∀ {ds : List Deed} {T : List (List Rat)}, Wide T n → (∀ d ∈ ds, d.Ok T.length) → doneR (doneR T ds) (backs ds) = T
 | [], _, _, _ => rfl
 | d :: ds, T, hw, h => by
  have h1 := h d (.head _)
  have h2 : ∀ e ∈ ds, e.Ok (doD T d).length := fun e he => by rw [doD_length]; exact h e (.tail _ he)
  have ih := doneR_backs (ds := ds) (T := doD T d) (doD_wide (m := 0) hw h1) h2
  show doneR (doneR (doD T d) ds) (backs (d :: ds)) = T
  rw [show backs (d :: ds) = backs ds ++ [d.back] by simp [backs], doneR_append, ih]
  exact doD_back hw h1
theorem backs_ok {m : Nat} {ds : List Deed} (h : ∀ d ∈ ds, d.Ok m) : ∀ d ∈ backs ds, d.Ok m := by
 intro d hd
 simp only [backs, List.mem_reverse, List.mem_map] at hd
 obtain ⟨e, he, rfl⟩ := hd
 exact Deed.back_ok (h e he)
def Deed.t : Deed → T
 | .swap i j => .tup [.str "swap", .int (i : Int), .int (j : Int)]
 | .scale i q => .tup [.str "scale", .int (i : Int), ratT q]
 | .add i j q => .tup [.str "add", .int (i : Int), .int (j : Int), ratT q]
end Nm
end
section
namespace Nm
open Np PySem
theorem Deed.le.mono {m n : Nat} {d : Deed} (h : d.le m) (k : m ≤ n) : d.le n := by
 cases d with
 | swap i j => trivial
 | scale i q => exact Le.mono (r := q) h k
 | add i j q => exact Le.mono (r := q) h k
end Nm
end
section
namespace Nm
open Np PySem
def Sg : Nat → (Nat → Rat) → Rat
 | 0, _ => 0
 | n + 1, f => Sg n f + f n
theorem zM {n : Nat} {f g : Nat → Rat} (h : ∀ i, i < n → f i = g i) : Sg n f = Sg n g := by
 induction n with
 | zero => rfl
 | succ n ih => simp only [Sg]; rw [ih fun i hi => h i (by omega), h n (by omega)]
theorem Sg_add (n : Nat) (f g : Nat → Rat) : Sg n (fun i => f i + g i) = Sg n f + Sg n g := by
 induction n with
 | zero => simp [Sg, Rat.add_zero]
 | succ n ih => simp only [Sg, ih]; grind
theorem Sg_mul (n : Nat) (f : Nat → Rat) (q : Rat) : Sg n (fun i => f i * q) = Sg n f * q := by
 induction n with
 | zero => simp [Sg, Rat.zero_mul]
 | succ n ih => simp only [Sg, ih]; grind
theorem Sg_zero (n : Nat) : Sg n (fun _ => 0) = 0 := by
 induction n with
 | zero => rfl
 | succ n ih => simp only [Sg, ih, Rat.add_zero]
theorem Sg_swap (n m : Nat) (f : Nat → Nat → Rat) : Sg n (fun i => Sg m fun j => f i j) = Sg m fun j => Sg n fun i => f i j := by
 induction n with
 | zero => simp only [Sg]; exact (Sg_zero m).symm
 | succ n ih => simp only [Sg, ih, Sg_add]
theorem Sg_delta {n k : Nat} (hk : k < n) (f : Nat → Rat) : Sg n (fun i => if i = k then f i else 0) = f k := by
 induction n with
 | zero => omega
 | succ n ih =>
  simp only [Sg]
  by_cases h : n = k
  ·subst h
   rw [if_pos rfl, zM (g := fun _ => 0) fun i hi => if_neg (by omega), Sg_zero, Rat.zero_add]
  ·rw [if_neg h, ih (by omega), Rat.add_zero]
theorem sumR_Sg : ∀ (xs : List Rat), sumR xs = Sg xs.length fun i => xs.getD i 0 := by
 intro xs
 have h : ∀ n, n ≤ xs.length → sumR (xs.take n) = Sg n fun i => xs.getD i 0 := by
  intro n
  induction n with
  | zero => intro _; rfl
  | succ n ih =>
   intro hn
   obtain ⟨x, hx⟩ := zQ (show n < xs.length by omega)
   rw [sumR_take hx, ih (by omega)]
   simp only [Sg]
   congr 1
   simp [hx]
 have := h xs.length (Nat.le_refl _)
 rwa [List.take_length] at this
def ent (T : List (List Rat)) (i k : Nat) : Rat := (T.getD i []).getD k 0
theorem ent_get {T : List (List Rat)} {i k : Nat} {r : List Rat} (h : T[i]? = some r) : ent T i k = r.getD k 0 := by simp [ent, h]
theorem row_ext {r s : List Rat} {n : Nat} (hr : r.length = n) (hs : s.length = n) (h : ∀ k, k < n → r.getD k 0 = s.getD k 0) : r = s := by
 refine List.ext_getElem? fun k => ?_
 by_cases hk : k < n
 ·obtain ⟨x, hx⟩ := zQ (show k < r.length by omega)
  obtain ⟨y, hy⟩ := zQ (show k < s.length by omega)
  have := h k hk
  simp [hx, hy] at this
  rw [hx, hy, this]
 ·rw [List.getElem?_eq_none (by omega), List.getElem?_eq_none (by omega)]
theorem tab_ext {A B : List (List Rat)} {m n : Nat} (hA : A.length = m) (hB : B.length = m) (wA : Wide A n) (wB : Wide B n) (h : ∀ i k, i < m → k < n → ent A i k = ent B i k) : A = B := by
 refine List.ext_getElem? fun i => ?_
 by_cases hi : i < m
 ·obtain ⟨r, hr⟩ := zQ (show i < A.length by omega)
  obtain ⟨s, hs⟩ := zQ (show i < B.length by omega)
  rw [hr, hs, row_ext (wA r (zK hr)) (wB s (zK hs)) fun k hk => by rw [← ent_get hr, ← ent_get hs]; exact h i k hi hk]
 ·rw [List.getElem?_eq_none (by omega), List.getElem?_eq_none (by omega)]
theorem getD_of {α : Type} {xs : List α} {i : Nat} {x d : α} (h : xs[i]? = some x) : xs.getD i d = x := by simp [h]
theorem mix_ent {T : List (List Rat)} {ss : List Rat} {n k : Nat} (hw : Wide T n) (hk : k < n) (hl : T.length = ss.length) : (mixR T ss n).getD k 0 = Sg T.length fun j => ent T j k * ss.getD j 0 := by
 rw [getD_of (mixR_get hw hk hl), sumR_Sg]
 rw [List.length_zipWith, ← hl, Nat.min_self]
 refine zM fun j hj => ?_
 obtain ⟨r, hr⟩ := zQ hj
 obtain ⟨s, hs⟩ := zQ (show j < ss.length by omega)
 rw [ent_get hr, getD_of (xs := ss) hs]
 have : (List.zipWith (fun r s => r.getD k 0 * s) T ss)[j]? = some (r.getD k 0 * s) := by rw [List.getElem?_zipWith, hr, hs]
 exact getD_of this
def prodR (A B : List (List Rat)) (n : Nat) : List (List Rat) := A.map fun r => mixR B r n
theorem prodR_length (A B : List (List Rat)) (n : Nat) : (prodR A B n).length = A.length := by simp [prodR]
theorem prodR_wide {A B : List (List Rat)} {n : Nat} (hB : Wide B n) : Wide (prodR A B n) n := fun r hr => by
 obtain ⟨s, _, rfl⟩ := List.mem_map.mp hr
 exact mixR_length hB
theorem prod_ent {A B : List (List Rat)} {n i k : Nat} (hA : Wide A B.length) (hB : Wide B n) (hi : i < A.length) (hk : k < n) : ent (prodR A B n) i k = Sg B.length fun j => ent A i j * ent B j k := by
 obtain ⟨r, hr⟩ := zQ hi
 have h1 : (prodR A B n)[i]? = some (mixR B r n) := by simp [prodR, hr]
 rw [ent_get h1, mix_ent hB hk (hA r (zK hr)).symm]
 refine zM fun j hj => ?_
 rw [ent_get hr, Rat.mul_comm]
theorem unit_ent {n i k : Nat} (hi : i < n) (hk : k < n) : ent (unitR n) i k = if k = i then 1 else 0 := by
 have h : (unitR n)[i]? = some (unitRow n i) := by simp [unitR, hi]
 rw [ent_get h]
 have : (unitRow n i)[k]? = some (if k = i then 1 else 0) := by simp [unitRow, hk]
 exact getD_of this
theorem yE (n : Nat) : (unitR n).length = n := by simp [unitR]
theorem unitR_wide (n : Nat) : Wide (unitR n) n := fun r hr => by
 obtain ⟨p, _, rfl⟩ := List.mem_map.mp hr
 simp [unitRow]
theorem unit_prod {A : List (List Rat)} {n : Nat} (hA : Wide A n) : prodR (unitR A.length) A n = A := by
 refine tab_ext (m := A.length) (n := n) (by rw [prodR_length, yE]) rfl (prodR_wide hA) hA fun i k hi hk => ?_
 rw [prod_ent (unitR_wide _) hA (by rw [yE]; exact hi) hk, zM (g := fun j => if j = i then ent A j k else 0) fun j hj => ?_]
 ·exact Sg_delta hi _
 ·rw [unit_ent hi hj]
  split <;> simp [Rat.zero_mul, Rat.one_mul]
end Nm
end
section
namespace Nm
open Np PySem
theorem ent_row (T : List (List Rat)) (i c : Nat) : ent T i c = (zR T i).getD c 0 := rfl
theorem getD_scl (xs : List Rat) (q : Rat) (j : Nat) : (sclR xs q).getD j 0 = xs.getD j 0 * q := by
 simp only [sclR, List.getD_eq_getElem?_getD, List.getElem?_map]
 cases xs[j]? with
 | none => simp
 | some x => rfl
theorem getD_add {xs ys : List Rat} (h : xs.length = ys.length) (j : Nat) : (addR xs ys).getD j 0 = xs.getD j 0 + ys.getD j 0 := by
 simp only [addR, List.getD_eq_getElem?_getD, List.getElem?_zipWith]
 by_cases hj : j < xs.length
 ·simp [List.getElem?_eq_getElem hj, List.getElem?_eq_getElem (show j < ys.length by omega)]
 ·simp [List.getElem?_eq_none (show xs.length ≤ j by omega), List.getElem?_eq_none (show ys.length ≤ j by omega)]
  grind
theorem doneR_one (T : List (List Rat)) (d : Deed) : doneR T [d] = doD T d := rfl
theorem rowAt_none {T : List (List Rat)} {i : Nat} (h : T.length ≤ i) : zR T i = [] := by
 simp [zR, List.getElem?_eq_none h]
theorem ent_none {T : List (List Rat)} {i : Nat} (h : T.length ≤ i) (j : Nat) : ent T i j = 0 := by
 rw [ent_row, rowAt_none h]
 rfl
theorem row_len {T : List (List Rat)} {n i : Nat} (hw : Wide T n) (h : i < T.length) : (zR T i).length = n := by
 obtain ⟨r, hr⟩ := zQ h
 rw [yB hr]
 exact hw r (zK hr)
theorem row_swap {T : List (List Rat)} {i j : Nat} (hi : i < T.length) (hj : j < T.length) (k : Nat) : zR (doD T (.swap i j)) k = if k = j then zR T i else if k = i then zR T j else zR T k := by
 simp only [doD]
 by_cases h1 : k = j
 ·subst h1; rw [if_pos rfl, rowAt_set_same (by simpa using hj)]
 ·rw [if_neg h1, rowAt_set_ne (Ne.symm h1)]
  by_cases h2 : k = i
  ·subst h2; rw [if_pos rfl, rowAt_set_same hi]
  ·rw [if_neg h2, rowAt_set_ne (Ne.symm h2)]
theorem row_scale {T : List (List Rat)} {i : Nat} {q : Rat} (hi : i < T.length) (k : Nat) : zR (doD T (.scale i q)) k = if k = i then sclR (zR T i) q else zR T k := by
 simp only [doD]
 by_cases h2 : k = i
 ·subst h2; rw [if_pos rfl, rowAt_set_same hi]
 ·rw [if_neg h2, rowAt_set_ne (Ne.symm h2)]
theorem row_add {T : List (List Rat)} {i j : Nat} {q : Rat} (hi : i < T.length) (k : Nat) : zR (doD T (.add i j q)) k = if k = i then addR (zR T i) (sclR (zR T j) q) else zR T k := by
 simp only [doD]
 by_cases h2 : k = i
 ·subst h2; rw [if_pos rfl, rowAt_set_same hi]
 ·rw [if_neg h2, rowAt_set_ne (Ne.symm h2)]
theorem row_adds (coef : Nat → Rat) (p : Nat) : ∀ (L : List Nat) (T : List (List Rat)), L.Nodup → p ∉ L → (∀ i ∈ L, i < T.length) → ∀ k, zR (doneR T (L.map fun i => Deed.add i p (coef i))) k = if k ∈ L then addR (zR T k) (sclR (zR T p) (coef k)) else zR T k
 | [], T, _, _, _, k => by simp [doneR]
 | i :: L, T, hn, hp, hl, k => by
  have h1 : i ∉ L := (List.nodup_cons.mp hn).1
  have hpi : p ≠ i := fun e => hp (e ▸ .head _)
  have hi := hl i (.head _)
  show zR (doneR (doD T (.add i p (coef i))) (L.map fun i => Deed.add i p (coef i))) k = _
  rw [row_adds coef p L _ (List.nodup_cons.mp hn).2 (fun h => hp (.tail _ h)) (fun x hx => by rw [doD_length]; exact hl x (.tail _ hx)) k]
  rw [row_add hi, row_add hi, if_neg hpi]
  by_cases hk : k = i
  ·subst hk
   rw [if_neg h1, if_pos rfl, if_pos (List.mem_cons_self ..)]
  ·rw [if_neg hk]
   by_cases hm : k ∈ L
   ·rw [if_pos hm, if_pos (List.mem_cons_of_mem _ hm)]
   ·rw [if_neg hm, if_neg (fun h => (List.mem_cons.mp h).elim hk hm)]
def pvt (T : List (List Rat)) (p f c : Nat) : List Deed := (if f ≠ p then [.swap p f] else []) ++ (if ent T f c ≠ 1 then [.scale p (1 / ent T f c)] else [])
def toClear (T : List (List Rat)) (p f c : Nat) : List Nat := (List.range T.length).filter fun i => decide (i ≠ p ∧ i ≠ f ∧ ent T i c ≠ 0)
def clearDs (T : List (List Rat)) (p f c : Nat) : List Deed := pvt T p f c ++ (toClear T p f c).map fun i => Deed.add i p (0 - ent T i c)
theorem row_pvt {T : List (List Rat)} {p f c : Nat} (hp : p < T.length) (hf : f < T.length) (k : Nat) : zR (doneR T (pvt T p f c)) k = if k = p then sclR (zR T f) (1 / ent T f c) else if k = f then zR T p else zR T k := by
 have hs : ∀ U : List (List Rat), U.length = T.length → (∀ k, zR U k = if k = p then zR T f else if k = f then zR T p else zR T k) → zR (doneR U (if ent T f c ≠ 1 then [Deed.scale p (1 / ent T f c)] else [])) k = if k = p then sclR (zR T f) (1 / ent T f c) else if k = f then zR T p else zR T k := by
  intro U hU h
  by_cases h1 : ent T f c ≠ 1
  ·rw [if_pos h1]
   rw [doneR_one, row_scale (by omega), h, h, if_pos rfl]
   by_cases hk : k = p
   ·rw [if_pos hk, if_pos hk]
   ·rw [if_neg hk, if_neg hk, if_neg hk]
  ·rw [if_neg h1]
   have e1 : ent T f c = 1 := Classical.byContradiction h1
   show zR U k = _
   rw [h, e1, show (1 : Rat) / 1 = 1 by grind, sclR_one]
 unfold pvt
 rw [doneR_append]
 by_cases h0 : f ≠ p
 ·rw [if_pos h0]
  rw [doneR_one]
  refine hs _ (doD_length _ _) fun k => ?_
  rw [row_swap hp hf]
  by_cases h1 : k = f
  ·subst h1; rw [if_pos rfl, if_neg h0, if_pos rfl]
  ·rw [if_neg h1, if_neg h1]
 ·rw [if_neg h0]
  have e : f = p := Classical.byContradiction h0
  subst e
  refine hs _ rfl fun k => ?_
  show zR T k = _
  by_cases h1 : k = f
  ·subst h1; rw [if_pos rfl]
  ·rw [if_neg h1, if_neg h1]
theorem mem_toClear {T : List (List Rat)} {p f c i : Nat} : i ∈ toClear T p f c ↔ i < T.length ∧ i ≠ p ∧ i ≠ f ∧ ent T i c ≠ 0 := by
 simp [toClear]
theorem toClear_nodup (T : List (List Rat)) (p f c : Nat) : (toClear T p f c).Nodup := List.nodup_range.filter _
theorem row_clear_of {T : List (List Rat)} {p f c : Nat} (hp : p < T.length) (hf : f < T.length) {L : List Nat} (hL : L.Nodup) (hm : ∀ i ∈ L, i ∈ toClear T p f c) (k : Nat) : zR (doneR (doneR T (pvt T p f c)) (L.map fun i => Deed.add i p (0 - ent T i c))) k =
  if k = p then sclR (zR T f) (1 / ent T f c) else if k = f then zR T p else if k ∈ L then addR (zR T k) (sclR (sclR (zR T f) (1 / ent T f c)) (0 - ent T k c)) else zR T k := by
 rw [row_adds _ _ _ _ hL (fun h => (mem_toClear.mp (hm _ h)).2.1 rfl) (fun i hi => by rw [doneR_length]; exact (mem_toClear.mp (hm i hi)).1)]
 rw [row_pvt hp hf, row_pvt hp hf, if_pos rfl]
 by_cases h : k ∈ L
 ·have := mem_toClear.mp (hm _ h)
  rw [if_pos h, if_neg this.2.1, if_neg this.2.2.1, if_neg this.2.1, if_neg this.2.2.1, if_pos h]
 ·rw [if_neg h, if_neg h]
theorem row_clear {T : List (List Rat)} {p f c : Nat} (hp : p < T.length) (hf : f < T.length) (k : Nat) : zR (doneR T (clearDs T p f c)) k =
  if k = p then sclR (zR T f) (1 / ent T f c) else if k = f then zR T p else if k ∈ toClear T p f c then addR (zR T k) (sclR (sclR (zR T f) (1 / ent T f c)) (0 - ent T k c)) else zR T k := by
 unfold clearDs
 rw [doneR_append]
 exact row_clear_of hp hf (toClear_nodup ..) (fun _ h => h) k
theorem ent_clear {T : List (List Rat)} {p f c n : Nat} (hw : Wide T n) (hp : p < T.length) (hf : f < T.length) (k j : Nat) : ent (doneR T (clearDs T p f c)) k j =
  if k = p then ent T f j * (1 / ent T f c) else if k = f then ent T p j else ent T k j + ent T f j * (1 / ent T f c) * (0 - ent T k c) := by
 simp only [ent_row]
 rw [row_clear hp hf]
 by_cases h1 : k = p
 ·rw [if_pos h1, if_pos h1, getD_scl]; rfl
 ·rw [if_neg h1, if_neg h1]
  by_cases h2 : k = f
  ·rw [if_pos h2, if_pos h2]
  ·rw [if_neg h2, if_neg h2]
   by_cases h3 : k ∈ toClear T p f c
   ·have := mem_toClear.mp h3
    rw [if_pos h3, getD_add (by simp [sclR, row_len hw this.1, row_len hw hf]), getD_scl, getD_scl]
    rfl
   ·rw [if_neg h3]
    by_cases hk : k < T.length
    ·have e : ent T k c = 0 := Classical.byContradiction fun h => h3 (mem_toClear.mpr ⟨hk, h1, h2, h⟩)
     have e' : (zR T k).getD c 0 = 0 := e
     rw [e']
     grind
    ·have e' : ∀ c, (zR T k).getD c 0 = 0 := fun c => by rw [rowAt_none (by omega)]; rfl
     rw [e', e']
     grind
structure RedI (T : List (List Rat)) (fs : List Nat) (c : Nat) : Prop where
 inc : fs.Pairwise (· < ·)
 lt : ∀ x ∈ fs, x < c
 le : fs.length ≤ T.length
 one : ∀ (k x : Nat), fs[k]? = some x → ent T k x = 1
 bef : ∀ (k x j : Nat), fs[k]? = some x → j < x → ent T k j = 0
 alone : ∀ (k x i : Nat), fs[k]? = some x → i ≠ k → ent T i x = 0
 low : ∀ i j : Nat, fs.length ≤ i → j < c → ent T i j = 0
theorem RedI.nil (T : List (List Rat)) : RedI T [] 0 := ⟨.nil, fun _ h => (by cases h), Nat.zero_le _, fun k x h => (by simp at h), fun k x j h => (by simp at h), fun k x i h => (by simp at h), fun i j _ h => (by omega)⟩
theorem RedI.pass {T : List (List Rat)} {fs : List Nat} {c : Nat} (h : RedI T fs c) (hz : ∀ i, fs.length ≤ i → i < T.length → ent T i c = 0) : RedI T fs (c + 1) :=
 ⟨h.inc, fun x hx => Nat.lt_succ_of_lt (h.lt x hx), h.le, h.one, h.bef, h.alone, fun i j hi hj => by
  by_cases e : j = c
  ·subst e
   by_cases hl : i < T.length
   ·exact hz i hi hl
   ·exact ent_none (by omega) _
  ·exact h.low i j hi (by omega)⟩
theorem RedI.clear {T : List (List Rat)} {fs : List Nat} {c f n : Nat} (h : RedI T fs c) (hw : Wide T n) (h1 : fs.length ≤ f) (h2 : f < T.length) (h3 : ent T f c ≠ 0) (h4 : ∀ i, fs.length ≤ i → i < f → ent T i c = 0) :
  RedI (doneR T (clearDs T fs.length f c)) (fs ++ [c]) (c + 1) := by
 have hp : fs.length < T.length := by omega
 have E := ent_clear (c := c) hw hp h2
 have inv : ent T f c * (1 / ent T f c) = 1 := by rw [Rat.div_def, Rat.one_mul]; exact Rat.mul_inv_cancel _ h3
 have F0 : ∀ j, j < c → ent T f j = 0 := fun j hj => h.low f j h1 hj
 have P0 : ∀ j, j < c → ent T fs.length j = 0 := fun j hj => h.low _ j (Nat.le_refl _) hj
 -- at the columns ahead
 have A : ∀ k j, j < c → k < fs.length → ent (doneR T (clearDs T fs.length f c)) k j = ent T k j := fun k j hj hk => by
  rw [E, if_neg (by omega), if_neg (by omega), F0 j hj]; grind
 have B : ∀ k j, j < c → fs.length ≤ k → ent (doneR T (clearDs T fs.length f c)) k j = 0 := fun k j hj hk => by
  rw [E]
  split
  ·rw [F0 j hj]; grind
  ·split
   ·exact P0 j hj
   ·rw [F0 j hj, h.low k j hk hj]; grind
 have C : ∀ k, k ≠ fs.length → ent (doneR T (clearDs T fs.length f c)) k c = 0 := fun k hk => by
  rw [E, if_neg hk]
  split
  ·exact h4 _ (Nat.le_refl _) (by omega)
  ·rw [inv]; grind
 have gs : ∀ (k x : Nat), (fs ++ [c])[k]? = some x → (k < fs.length ∧ fs[k]? = some x) ∨ (k = fs.length ∧ x = c) := fun k x hx => get_snoc hx
 refine ⟨?_, fun x hx => ?_, by rw [doneR_length]; simp; omega, fun k x hx => ?_, fun k x j hx hj => ?_, fun k x i hx hi => ?_, fun i j hi hj => ?_⟩
 ·rw [List.pairwise_append]
  exact ⟨h.inc, List.pairwise_singleton _ _, fun a ha b hb => by rw [List.mem_singleton.mp hb]; exact h.lt a ha⟩
 ·rcases List.mem_append.mp hx with hx | hx
  ·exact Nat.lt_succ_of_lt (h.lt x hx)
  ·rw [List.mem_singleton.mp hx]; exact Nat.lt_succ_self c
 ·rcases gs k x hx with ⟨hk, hx⟩ | ⟨rfl, rfl⟩
  ·rw [A k x (h.lt x (zK hx)) hk]; exact h.one k x hx
  ·rw [E, if_pos rfl]; exact inv
 ·rcases gs k x hx with ⟨hk, hx⟩ | ⟨rfl, rfl⟩
  ·rw [A k j (Nat.lt_trans hj (h.lt x (zK hx))) hk]; exact h.bef k x j hx hj
  ·exact B _ j hj (Nat.le_refl _)
 ·rcases gs k x hx with ⟨hk, hx⟩ | ⟨rfl, rfl⟩
  ·by_cases hi2 : i < fs.length
   ·rw [A i x (h.lt x (zK hx)) hi2]; exact h.alone k x i hx hi
   ·exact B i x (h.lt x (zK hx)) (by omega)
  ·exact C i hi
 ·have hi : fs.length + 1 ≤ i := by simpa using hi
  by_cases e : j = c
  ·subst e; exact C i (by omega)
  ·exact B i j (by omega) (by omega)
def findRow (T : List (List Rat)) (p c : Nat) : Option Nat := (List.range' p (T.length - p)).find? fun i => decide (ent T i c ≠ 0)
theorem findRow_none {T : List (List Rat)} {p c : Nat} (h : findRow T p c = none) : ∀ i, p ≤ i → i < T.length → ent T i c = 0 := fun i h1 h2 => by
 have := List.find?_eq_none.mp h i (by simp [List.mem_range'_1]; omega)
 simpa using this
theorem find_first {α : Type} (q : α → Bool) : ∀ {xs : List α} {x : α}, xs.find? q = some x → ∃ i, xs[i]? = some x ∧ q x = true ∧ ∀ (j : Nat) y, j < i → xs[j]? = some y → q y = false
 | [], _, h => by cases h
 | y :: ys, x, h => by
  rw [List.find?_cons] at h
  cases e : q y with
  | true =>
   rw [e] at h
   cases h
   exact ⟨0, rfl, e, fun j y hj => by omega⟩
  | false =>
   rw [e] at h
   obtain ⟨i, h1, h2, h3⟩ := find_first q h
   refine ⟨i + 1, h1, h2, fun j z hj hz => ?_⟩
   cases j with
   | zero => cases hz; exact e
   | succ j => exact h3 j z (by omega) hz
theorem findRow_some {T : List (List Rat)} {p c f : Nat} (h : findRow T p c = some f) : p ≤ f ∧ f < T.length ∧ ent T f c ≠ 0 ∧ ∀ i, p ≤ i → i < f → ent T i c = 0 := by
 obtain ⟨i, h1, h2, h3⟩ := find_first _ h
 have hi := (List.getElem?_eq_some_iff.mp h1).1
 rw [List.length_range'] at hi
 rw [List.getElem?_range' hi] at h1
 have e : p + 1 * i = f := Option.some.inj h1
 refine ⟨by omega, by omega, by simpa using h2, fun j hj1 hj2 => ?_⟩
 have := h3 (j - p) j (by omega) (by rw [List.getElem?_range' (by omega)]; congr 1; omega)
 simpa using this
theorem findRow_is {T : List (List Rat)} {p c f : Nat} (h1 : p ≤ f) (h2 : f < T.length) (h3 : ent T f c ≠ 0) (h4 : ∀ i, p ≤ i → i < f → ent T i c = 0) : findRow T p c = some f := by
 cases e : findRow T p c with
 | none => exact absurd (findRow_none e f h1 h2) h3
 | some g =>
  obtain ⟨g1, g2, g3, g4⟩ := findRow_some e
  rcases Nat.lt_trichotomy f g with h | h | h
  ·exact absurd (g4 f h1 h) h3
  ·rw [h]
  ·exact absurd (h4 g g1 h) g3
theorem findRow_is_none {T : List (List Rat)} {p c : Nat} (h : ∀ i, p ≤ i → i < T.length → ent T i c = 0) : findRow T p c = none := by
 cases e : findRow T p c with
 | none => rfl
 | some g =>
  obtain ⟨g1, g2, g3, g4⟩ := findRow_some e
  exact absurd (h g g1 g2) g3
structure Rst where
 ds : List Deed
 tb : List (List Rat)
 fs : List Nat
def redStep (s : Rst) (c : Nat) : Rst := match findRow s.tb s.fs.length c with
 | none => s
 | some f => ⟨s.ds ++ clearDs s.tb s.fs.length f c, doneR s.tb (clearDs s.tb s.fs.length f c), s.fs ++ [c]⟩
def redR (T : List (List Rat)) (n : Nat) : Rst := (List.range n).foldl redStep ⟨[], T, []⟩
theorem redR_succ (T : List (List Rat)) (n : Nat) : redR T (n + 1) = redStep (redR T n) n := by
 unfold redR
 rw [List.range_succ, List.foldl_append]
 rfl
theorem clear_ok {T : List (List Rat)} {p f c : Nat} (hp : p < T.length) (hf : f < T.length) (h : ent T f c ≠ 0) : ∀ d ∈ clearDs T p f c, d.Ok T.length := by
 intro d hd
 unfold clearDs pvt at hd
 rcases List.mem_append.mp hd with hd | hd
 ·rcases List.mem_append.mp hd with hd | hd
  ·split at hd
   ·rename_i e
    rw [List.mem_singleton.mp hd]
    exact ⟨hp, hf, fun z => e z.symm⟩
   ·cases hd
  ·split at hd
   ·rw [List.mem_singleton.mp hd]
    refine ⟨hp, fun z => ?_⟩
    have inv : ent T f c * (1 / ent T f c) = 1 := by rw [Rat.div_def, Rat.one_mul]; exact Rat.mul_inv_cancel _ h
    rw [z, Rat.mul_zero] at inv
    exact absurd inv (by decide)
   ·cases hd
 ·obtain ⟨i, hi, rfl⟩ := List.mem_map.mp hd
  have := mem_toClear.mp hi
  exact ⟨this.1, hp, this.2.1⟩
theorem clear_len (T : List (List Rat)) (p f c : Nat) : (clearDs T p f c).length ≤ T.length + 2 := by
 unfold clearDs pvt
 have : (toClear T p f c).length ≤ T.length := by
  have := List.length_filter_le (fun i => decide (i ≠ p ∧ i ≠ f ∧ ent T i c ≠ 0)) (List.range T.length)
  rw [List.length_range] at this
  exact this
 have h1 : (if f ≠ p then [Deed.swap p f] else []).length ≤ 1 := by split <;> simp
 have h2 : (if ent T f c ≠ 1 then [Deed.scale p (1 / ent T f c)] else []).length ≤ 1 := by split <;> simp
 rw [List.length_append, List.length_append, List.length_map]
 omega
theorem pre_append {P : List (List Rat) → Prop} {T : List (List Rat)} {A B : List Deed} (h1 : ∀ i, P (doneR T (A.take i))) (h2 : ∀ i, P (doneR (doneR T A) (B.take i))) : ∀ i, P (doneR T ((A ++ B).take i)) := fun i => by
 rw [List.take_append, doneR_append]
 rcases Nat.le_total i A.length with h | h
 ·rw [show i - A.length = 0 by omega, List.take_zero]
  exact h1 i
 ·rw [List.take_of_length_le h]
  exact h2 _
theorem leT_rows {N : Nat} {T : List (List Rat)} (h : ∀ k, ∀ x ∈ zR T k, Le N x) : LeT N T := fun r hr x hx => by
 obtain ⟨i, hi⟩ := List.getElem?_of_mem hr
 exact h i x (by rw [yB hi]; exact hx)
theorem rows_leT {N : Nat} {T : List (List Rat)} (h : LeT N T) : ∀ k, ∀ x ∈ zR T k, Le N x := fun k x hx => by
 by_cases hk : k < T.length
 ·obtain ⟨r, hr⟩ := zQ hk
  rw [yB hr] at hx
  exact h r (zK hr) x hx
 ·rw [rowAt_none (by omega)] at hx
  cases hx
theorem le_getD {N : Nat} {xs : List Rat} (h : ∀ x ∈ xs, Le N x) (hN : 0 < N) (j : Nat) : Le N (xs.getD j 0) := by
 rw [List.getD_eq_getElem?_getD]
 cases e : xs[j]? with
 | none => exact Le.zero hN
 | some x => exact h x (List.mem_of_getElem? e)
theorem le_ent {N : Nat} {T : List (List Rat)} (h : LeT N T) (hN : 0 < N) (i j : Nat) : Le N (ent T i j) := le_getD (rows_leT h i) hN j
theorem le_scl {a b : Nat} {xs : List Rat} {q : Rat} (h : ∀ x ∈ xs, Le a x) (hq : Le b q) : ∀ x ∈ sclR xs q, Le (a + b) x := fun x hx => by
 obtain ⟨y, hy, rfl⟩ := List.mem_map.mp hx
 exact (h y hy).mul hq
theorem one_div_le {N : Nat} {q : Rat} (h : Le N q) (hN : 0 < N) : Le N (1 / q) := by
 rw [show 1 / q = q⁻¹ by rw [Rat.div_def, Rat.one_mul]]
 exact h.inv hN
theorem zero_sub_le {N : Nat} {q : Rat} (h : Le N q) : Le N (0 - q) := by
 rw [show 0 - q = -q by grind]
 exact h.neg
theorem clear_le {T : List (List Rat)} {p f c b : Nat} (hp : p < T.length) (hf : f < T.length) (hT : LeT b T) (hb : 0 < b) : (∀ i, LeT (4 * b + 1) (doneR T ((clearDs T p f c).take i))) ∧ ∀ d ∈ clearDs T p f c, d.le b := by
 have R := rows_leT hT
 have e1 : Le b (1 / ent T f c) := one_div_le (le_ent hT hb f c) hb
 have hsc : ∀ x ∈ sclR (zR T f) (1 / ent T f c), Le (b + b) x := le_scl (R f) e1
 constructor
 ·refine pre_append (pre_append ?_ ?_) ?_
  ·intro i
   split
   ·match i with
    | 0 => exact fun r hr x hx => (hT r hr x hx).mono (by omega)
    | i + 1 =>
     refine leT_rows fun k x hx => ?_
     have hx : x ∈ zR (doD T (.swap p f)) k := by simpa [doneR] using hx
     rw [row_swap hp hf] at hx
     split at hx
     ·exact (R p x hx).mono (by omega)
     ·split at hx
      ·exact (R f x hx).mono (by omega)
      ·exact (R k x hx).mono (by omega)
   ·rw [List.take_nil]
    exact fun r hr x hx => (hT r hr x hx).mono (by omega)
  ·intro i
   have hU : ∀ U : List (List Rat), U.length = T.length → LeT b U → LeT (4 * b + 1) (doneR U ((if ent T f c ≠ 1 then [Deed.scale p (1 / ent T f c)] else []).take i)) := by
    intro U hl hU
    split
    ·match i with
     | 0 => exact fun r hr x hx => (hU r hr x hx).mono (by omega)
     | i + 1 =>
      refine leT_rows fun k x hx => ?_
      have hx : x ∈ zR (doD U (.scale p (1 / ent T f c))) k := by simpa [doneR] using hx
      rw [row_scale (by omega)] at hx
      split at hx
      ·exact (le_scl (rows_leT hU p) e1 x hx).mono (by omega)
      ·exact (rows_leT hU k x hx).mono (by omega)
    ·rw [List.take_nil]
     exact fun r hr x hx => (hU r hr x hx).mono (by omega)
   refine hU _ (doneR_length _ _) ?_
   refine leT_rows fun k x hx => ?_
   split at hx
   ·have hx : x ∈ zR (doD T (.swap p f)) k := by simpa [doneR] using hx
    rw [row_swap hp hf] at hx
    split at hx
    ·exact R p x hx
    ·split at hx
     ·exact R f x hx
     ·exact R k x hx
   ·exact R k x hx
  ·intro i
   rw [← List.map_take]
   refine leT_rows fun k x hx => ?_
   rw [row_clear_of hp hf ((toClear_nodup T p f c).sublist (List.take_sublist _ _)) (fun i hi => List.mem_of_mem_take hi)] at hx
   split at hx
   ·exact (hsc x hx).mono (by omega)
   ·split at hx
    ·exact (R p x hx).mono (by omega)
    ·split at hx
     ·exact (le_zip (f := (· + ·)) (k := b + (b + b + b) + 1) (fun a b h1 h2 => h1.add h2) (R k) (le_scl hsc (zero_sub_le (le_ent hT hb k c))) x hx).mono (by omega)
     ·exact (R k x hx).mono (by omega)
 ·intro d hd
  unfold clearDs pvt at hd
  rcases List.mem_append.mp hd with hd | hd
  ·rcases List.mem_append.mp hd with hd | hd
   ·split at hd
    ·rw [List.mem_singleton.mp hd]; trivial
    ·cases hd
   ·split at hd
    ·rw [List.mem_singleton.mp hd]; exact e1
    ·cases hd
  ·obtain ⟨i, hi, rfl⟩ := List.mem_map.mp hd
   exact zero_sub_le (le_ent hT hb i c)
def gr (b : Nat) : Nat → Nat
 | 0 => b
 | n + 1 => 4 * gr b n + 1
theorem gr_mono (b : Nat) {m n : Nat} (h : m ≤ n) : gr b m ≤ gr b n := by
 induction n with
 | zero => rw [show m = 0 by omega]; exact Nat.le_refl _
 | succ n ih =>
  by_cases e : m = n + 1
  ·rw [e]; exact Nat.le_refl _
  ·have := ih (by omega)
   show _ ≤ 4 * gr b n + 1
   omega
theorem gr_pos {b : Nat} (h : 0 < b) (n : Nat) : 0 < gr b n := Nat.lt_of_lt_of_le h (gr_mono b (Nat.zero_le n))
structure RedS (T : List (List Rat)) (w b n : Nat) (s : Rst) : Prop where
 tb : s.tb = doneR T s.ds
 ok : ∀ d ∈ s.ds, d.Ok T.length
 red : RedI s.tb s.fs n
 le : LeT (gr b n) s.tb
 pre : ∀ i, LeT (gr b n) (doneR T (s.ds.take i))
 dle : ∀ d ∈ s.ds, d.le (gr b n)
 len : s.ds.length ≤ n * (T.length + 2)
theorem redS {T : List (List Rat)} {w b : Nat} (hw : Wide T w) (hb : 0 < b) (hT : LeT b T) : ∀ n, RedS T w b n (redR T n)
 | 0 => ⟨rfl, fun _ h => (by cases h), RedI.nil T, hT, fun i => (by rw [show (redR T 0).ds = [] from rfl, List.take_nil]; exact hT), fun _ h => (by cases h), Nat.zero_le _⟩
 | n + 1 => by
  have ih := redS hw hb hT n
  rw [redR_succ]
  obtain ⟨s, hs⟩ : ∃ s, s = redR T n := ⟨_, rfl⟩
  rw [← hs] at ih ⊢
  have hl : s.tb.length = T.length := by rw [ih.tb, doneR_length]
  have hwt : Wide s.tb w := by rw [ih.tb]; exact doneR_wide rfl hw ih.ok
  have hm : gr b n ≤ gr b (n + 1) := gr_mono b (Nat.le_succ n)
  have hmu : n * (T.length + 2) ≤ (n + 1) * (T.length + 2) := Nat.mul_le_mul_right _ (Nat.le_succ n)
  unfold redStep
  cases e : findRow s.tb s.fs.length n with
  | none => exact ⟨ih.tb, ih.ok, ih.red.pass (findRow_none e), fun r hr x hx => (ih.le r hr x hx).mono hm, fun i r hr x hx => (ih.pre i r hr x hx).mono hm, fun d hd => Deed.le.mono (ih.dle d hd) hm, Nat.le_trans ih.len hmu⟩
  | some f =>
   obtain ⟨g1, g2, g3, g4⟩ := findRow_some e
   have hp : s.fs.length < s.tb.length := by omega
   obtain ⟨k1, k2⟩ := clear_le (c := n) hp g2 ih.le (gr_pos hb n)
   have hc := clear_len s.tb s.fs.length f n
   refine ⟨?_, fun d hd => ?_, ih.red.clear hwt g1 g2 g3 g4, ?_, ?_, fun d hd => ?_, ?_⟩
   ·show doneR s.tb _ = doneR T (s.ds ++ _)
    rw [doneR_append, ← ih.tb]
   ·rcases List.mem_append.mp hd with hd | hd
    ·exact ih.ok d hd
    ·rw [← hl]; exact clear_ok hp g2 g3 d hd
   ·have := k1 (clearDs s.tb s.fs.length f n).length
    rw [List.take_length] at this
    exact this
   ·refine pre_append (P := LeT (gr b (n + 1))) (fun i r hr x hx => (ih.pre i r hr x hx).mono hm) fun i => ?_
    rw [← ih.tb]
    exact k1 i
   ·rcases List.mem_append.mp hd with hd | hd
    ·exact Deed.le.mono (ih.dle d hd) hm
    ·exact Deed.le.mono (k2 d hd) hm
   ·show (s.ds ++ _).length ≤ _
    rw [List.length_append, Nat.succ_mul]
    have := ih.len
    omega
end Nm
end
section
namespace Nm
open Np PySem
theorem rng2D_nat {p n : Nat} (hp : p < 1000000) (hn : n < 1000000) (S : Sto) : rng2D [.int (p : Int), .int (n : Int)] S = ok (.fix ((List.range' p (n - p)).map fun i => D.int (i : Nat))) S := by
 have hlim := lim_eq
 simp only [rng2D]
 rw [if_pos (by omega), ← intsD_map]
 rw [show ((n : Int) - (p : Int)).toNat = n - p by omega]
theorem range'_map_get {p n i : Nat} {x : D} (h : ((List.range' p n).map fun i => D.int (i : Nat))[i]? = some x) : x = .int ((p + i : Nat) : Int) ∧ i < n := by
 obtain ⟨j, hj, rfl⟩ := get_map h
 have hi := (List.getElem?_eq_some_iff.mp hj).1
 rw [List.length_range'] at hi
 rw [List.getElem?_range' hi] at hj
 have := Option.some.inj hj
 exact ⟨by rw [← this, Nat.one_mul], hi⟩
def fdD : Option Nat → D
 | none => .non
 | some f => .int (f : Int)
theorem ent_ix {T : List (List Rat)} {n i c : Nat} {r : List Rat} (hw : Wide T n) (h : T[i]? = some r) (hc : c < n) : (r.map ratD)[c]? = some (ratD (ent T i c)) := by
 have hl : r.length = n := hw r (zK h)
 rw [ent_row, yB h]
 simp [show c < r.length by omega]
theorem row_with_thing_eq {S : Sto} {t n p c : Nat} {ts : List Nat} {T : List (List Rat)} (ht : TabR S t ts T) (hw : Wide T n) (hc : c < n) (hp : p ≤ T.length) (hm : T.length < 1000000) : F.row_with_thing [.ref t, .int (p : Int), .int (c : Int)] S = ok (fdD (findRow T p c)) S := by
 refine W_eq ?_
 (unfold F.row_with_thing; refine Np.W_fnF rfl ?_; unfold Den.row_with_thing; simp_all [])
 simp_all [lenD_ref ht.1, List.length_map, ht.2.1, rng2D_nat (show p < 1000000 by omega) hm]
 refine W_forK ((List.range' p (T.length - p)).map fun i => D.int (i : Nat)) (fun i δ S' => S' = S ∧ (∀ k, p ≤ k → k < p + i → ent T k c = 0) ∧ ∃ o, δ = [some (.ref t), some (.int (p : Int)), some (.int (c : Int)), o]) (Nat.le_refl _) ⟨rfl, fun k h1 h2 => by omega, _, rfl⟩ (fun i δ S' _ => rfl) ?_ ?_
 ·rintro i x δ S' hx ⟨rfl, hz, o, rfl⟩
  obtain ⟨rfl, hi⟩ := range'_map_get hx
  obtain ⟨r, hr⟩ := zQ (xs := T) (i := p + i) (by omega)
  obtain ⟨b, hb, rb⟩ := ht.row hr
  simp_all [ixD_ref ht.1 (map_get D.ref hb), ixD_ref rb (ent_ix hw hr hc)]
  by_cases h0 : ent T (p + i) c = 0
  ·simp_all [h0]
   refine ⟨rfl, fun k h1 h2 => ?_, _, rfl⟩
   by_cases e : k = p + i
   ·rw [e]; exact h0
   ·exact hz k h1 (by omega)
  ·simp_all [h0, loopQ]
   rw [findRow_is (by omega) (by omega) h0 hz]
   simp [fdD]
 ·rintro δ S' ⟨rfl, hz, o, rfl⟩
  simp_all []
  rw [List.length_map, List.length_range'] at hz
  rw [findRow_is_none fun i h1 h2 => hz i h1 (by omega)]
  simp [fdD]
theorem if_keep {c : Prop} {inst : Decidable c} {A : Prop} {R : Sto → Prop} {S1 : Sto} (P : Sto → Prop) (hA : c → (∀ S', P S' → R S') → A) (hE : ¬c → P S1) (hR : ∀ S', P S' → R S') : if c then A else R S1 := by
 split
 ·exact hA (by assumption) hR
 ·exact hR _ (hE (by assumption))
theorem enumD_ref {S : Sto} {a : Nat} {xs : List D} (h : zH S a = some xs) : enumD [.ref a] S = ok (.enm a) S := by
 show (match zH S a with | some _ => ok (Src.enm a) S | none => none) = _
 rw [h]
def enmL (as : List Nat) : List D := (List.range as.length).map fun i => D.tup [.int (i : Nat), .ref (as.getD i 0)]
theorem get_enm {S : Sto} {a : Nat} {as : List Nat} (h : zH S a = some (as.map D.ref)) (i : Nat) : (Src.enm a).get S i = some (enmL as)[i]? := by
 show (match zH S a with | some xs => some (enm1 i xs[i]?) | none => none) = _
 rw [h]
 show some (enm1 i (as.map D.ref)[i]?) = _
 congr 1
 unfold enmL
 rw [List.getElem?_map, List.getElem?_map]
 by_cases hi : i < as.length
 ·rw [List.getElem?_eq_getElem hi, List.getElem?_range hi]
  simp [enm1, hi]
 ·rw [List.getElem?_eq_none (by omega), List.getElem?_eq_none (by simp; omega)]
  rfl
theorem len_enm {S : Sto} {a : Nat} {xs : List D} (h : zH S a = some xs) : (Src.enm a).len S = xs.length := by
 show (match zH S a with | some xs => xs.length | none => 0) = _
 rw [h]
theorem sm0 : sm (0 : Rat) := (show Le 70 (0 : Rat) from ⟨by decide, by decide⟩).sm (by decide)
theorem sm1 : sm (1 : Rat) := (show Le 70 (1 : Rat) from ⟨by decide, by decide⟩).sm (by decide)
theorem clearing_w {S : Sto} {t n p f c N : Nat} {ts : List Nat} {T : List (List Rat)} {Q : D → Sto → Prop} (ht : TabR S t ts T) (hw : Wide T n) (hc : c < n) (hp : p < T.length) (hf : f < T.length) (he : ent T f c ≠ 0) (hT : LeT N T) (hN : 0 < N) (hN2 : N ≤ 20000000) (hm : T.length < 100000)
  (fin : ∀ S' b, SLe S S' → S.length ≤ b → zH S' b = some ((clearDs T p f c).map Deed.d) → Q (.ref b) S') : W (F.clearing_deeds [.ref t, .int (p : Int), .int (f : Int), .int (c : Int)] S) Q := by
 have hsm : ∀ i, sm (ent T i c) := fun i => (le_ent hT hN i c).sm (by omega)
 (unfold F.clearing_deeds; refine Np.W_fnF rfl ?_; unfold Den.clearing_deeds; simp_all [])
 refine W_new (lstD_eq (by simp) _) fun S1 b l1 n1 r1 => ?_
 simp_all [Np.W_ifK, Np.W_ifEK, Np.W_andTK, Np.W_orTK, Np.W_andVB, Np.W_orVB, Np.W_chnB]
 apply if_keep (S1 := S1) (fun S' => SLe S S' ∧ zH S' b = some ((if f ≠ p then [Deed.swap p f] else []).map Deed.d))
 ·intro h k
  have h : f ≠ p := by omega
  simp_all [opMK_ref r1, tup3]
  refine W_app r1 (by simp) fun S2 _ k2 _ r2 => ?_
  exact k S2 ⟨k2 _ l1 n1, by rw [r2, if_pos h]; rfl⟩
 ·intro h
  exact ⟨l1, by rw [r1, if_neg (by omega)]; rfl⟩
 rintro S2 ⟨l2, r2⟩
 obtain ⟨rf, hrf⟩ := zQ hf
 obtain ⟨bf, hbf, rbf⟩ := ht.row hrf
 simp_all [Np.W_ifK, Np.W_ifEK, Np.W_andTK, Np.W_orTK, Np.W_andVB, Np.W_orVB, Np.W_chnB, ixD_ref (l2.lst ht.1) (map_get D.ref hbf), ixD_ref (l2.lst rbf) (ent_ix hw hrf hc)]
 apply if_keep (S1 := S2) (fun S' => SLe S S' ∧ zH S' b = some ((pvt T p f c).map Deed.d))
 ·intro h k
  simp_all [opMK_ref r2, over_eq sm1 (hsm f) he, tup3]
  refine W_app r2 (by split <;> simp) fun S3 _ k3 _ r3 => ?_
  exact k S3 ⟨k3 _ l2 n1, by rw [r3]; unfold pvt; rw [if_pos h, List.map_append]; rfl⟩
 ·intro h
  exact ⟨l2, by rw [r2]; unfold pvt; rw [if_neg h, List.append_nil]⟩
 rintro S3 ⟨l3, r3⟩
 have hpl : (pvt T p f c).length ≤ 2 := by
  unfold pvt
  rw [List.length_append]
  have h1 : (if f ≠ p then [Deed.swap p f] else []).length ≤ 1 := by split <;> simp
  have h2 : (if ent T f c ≠ 1 then [Deed.scale p (1 / ent T f c)] else []).length ≤ 1 := by split <;> simp
  omega
 have hfl : ∀ i, ((List.range i).filter fun i => decide (i ≠ p ∧ i ≠ f ∧ ent T i c ≠ 0)).length ≤ i := fun i => by
  have := List.length_filter_le (fun i => decide (i ≠ p ∧ i ≠ f ∧ ent T i c ≠ 0)) (List.range i)
  rwa [List.length_range] at this
 simp_all [enumD_ref (l3.lst ht.1)]
 refine W_forK (enmL ts) (fun i δ S' => SLe S S' ∧ zH S' b = some ((pvt T p f c ++ ((List.range i).filter fun i => decide (i ≠ p ∧ i ≠ f ∧ ent T i c ≠ 0)).map fun i => Deed.add i p (0 - ent T i c)).map Deed.d) ∧ ∃ o6 o7, δ = [some (.ref t), some (.int (p : Int)), some (.int (f : Int)), some (.int (c : Int)), some (.ref b), some (ratD (ent T f c)), o6, o7])
  (by rw [len_enm (l3.lst ht.1)]; simp [enmL]) ⟨l3, by rw [r3]; simp, _, _, rfl⟩ (fun i δ S' h => get_enm (h.1.lst ht.1) i) ?_ ?_
 ·rintro i x δ S4 hx ⟨l4, r4, o6, o7, rfl⟩
  obtain ⟨rfl, hi⟩ := range_map_get hx
  rw [ht.2.1] at hi
  obtain ⟨r, hr⟩ := zQ hi
  obtain ⟨bi, hbi, rbi⟩ := ht.row hr
  have eb : ts.getD i 0 = bi := by simp [hbi]
  rw [eb]
  have he := ixD_ref (l4.lst rbi) (ent_ix hw hr hc)
  have hi2 := hfl i
  rw [List.range_succ, List.filter_append, List.map_append]
  by_cases h1 : i = p
  ·subst h1
   simp_all [tupG2]
   exact ⟨l4, by rw [r4]; simp, _, _, rfl⟩
  ·have h1' : ¬ ((i : Int) = (p : Int)) := by omega
   by_cases h2 : i = f
   ·subst h2
    simp_all [tupG2, h1']
    exact ⟨l4, by rw [r4]; simp, _, _, rfl⟩
   ·have h2' : ¬ ((i : Int) = (f : Int)) := by omega
    by_cases h3 : ent T i c = 0
    ·simp_all [tupG2, h1', h2', he, h3]
     exact ⟨l4, by rw [r4]; simp [h3], _, _, rfl⟩
    ·simp_all [tupG2, h1', h2', he, h3, opMK_ref r4, minus_eq sm0 (hsm i), tup4]
     refine W_app r4 (by simp only [List.length_map, List.length_append]; omega) fun S5 _ k5 _ r5 => ?_
     refine ⟨k5 _ l4 n1, ?_, _, _, rfl⟩
     rw [r5]
     simp [h1, h2, h3, Deed.d]
 ·rintro δ S4 ⟨l4, r4, o6, o7, rfl⟩
  simp_all []
  refine fin S4 b l4 n1 ?_
  rw [r4]
  have : (enmL ts).length = T.length := by simp [enmL, ht.2.1]
  rw [this]
  rfl
theorem extD_ref {S : Sto} {a b : Nat} {xs ys : List D} (h : zH S a = some xs) (h2 : zH S b = some ys) (hl : xs.length + ys.length ≤ 1000000) : extD (.ref a) (.ref b) S = ok .non (S.set a (.lst (xs ++ ys))) := by
 show (match zH S a, zH S b with | some xs, some ys => _ | _, _ => none) = _
 rw [h, h2]
 show (if _ then _ else _) = _
 rw [if_pos hl]
theorem W_ext {S : Sto} {a b : Nat} {xs ys : List D} {Q : D → Sto → Prop} (h : zH S a = some xs) (h2 : zH S b = some ys) (hl : xs.length + ys.length ≤ 1000000) (k : ∀ S', S'.length = S.length → (∀ S0, SLe S0 S → S0.length ≤ a → SLe S0 S') → (∀ c, c ≠ a → zH S' c = zH S c) → zH S' a = some (xs ++ ys) → Q .non S') : W (extD (.ref a) (.ref b) S) Q := by
 refine W.intro (extD_ref h h2 hl) (k _ (by simp) (fun S0 l hb => l.set hb _) (fun c hc => lstAt_set_ne (Ne.symm hc)) (lstAt_set h))
theorem seqK_ct (b : DSt) (δ : DS) (S : Sto) : seqK b (.ct δ) S = ok (.ct δ) S := rfl
theorem reduced_w {S : Sto} {t n b : Nat} {ts : List Nat} {T : List (List Rat)} {Q : D → Sto → Prop} (ht : TabR S t ts T) (hw : Wide T n) (hT : LeT b T) (hb : 0 < b) (hg : gr b n ≤ 20000000) (hn : n < 1000) (hm : T.length < 100)
    (fin : ∀ S' a c cs f, SLe S S' → zH S' a = some ((redR T n).ds.map Deed.d) → FT S.length S' c cs (redR T n).tb → zH S' f = some ((redR T n).fs.map fun (i : Nat) => D.int (i : Int)) → S.length ≤ a → S.length ≤ f → a ≠ f → a ∉ c :: cs → f ∉ c :: cs → Q (.tup [.ref a, .ref c, .ref f]) S') : W (F.reduced [.ref t, .int (n : Int)] S) Q := by
  have RS := redS hw hb hT
  (unfold F.reduced; refine Np.W_fnF rfl ?_; unfold Den.reduced; simp_all [])
  refine copy_tab (base := [_, _, _, _, _, _, _, _, _]) ht (by omega) (by simp only [Np.itA, Np.itE, Np.yF, Np.aConsK, Np.aNil, Np.consK, Np.vr, Np.cst, List.getElem?_cons_zero, List.getElem?_cons_succ, Np.bnd_ok]; exact itL_ref ht.1) (fun b S' => rfl) fun S1 c0 cs0 l1 f1 => ?_
  refine W_new (lstD_eq (by simp) _) fun S2 a l2 n2 r2 => ?_
  refine W_new (lstD_eq (by simp) _) fun S3 f l3 n3 r3 => ?_
  simp_all [rng1D_nat (show n < 1000000 by omega), intsD_zero]
  have ha0 : a ∉ c0 :: cs0 := fun h => by
    have := lstAt_lt f1.tab.1
    rcases List.mem_cons.mp h with h | h
    · omega
    · have := f1.lt _ h; omega
  have hf0 : f ∉ c0 :: cs0 := fun h => by
    have := lstAt_lt f1.tab.1
    have := l2.len
    rcases List.mem_cons.mp h with h | h
    · omega
    · have := f1.lt _ h; omega
  have haf : a ≠ f := by have := lstAt_lt r2; omega
  have hSa : S.length ≤ a := by have := l1.len; omega
  have hSf : S.length ≤ f := by have := l1.len; have := l2.len; omega
  refine W_forK ((List.range n).map fun i => D.int (i : Nat)) (fun i δ S' => SLe S S' ∧ ∃ c cs o5 o6 o7 o8, δ = [some (.ref t), some (.int (n : Int)), some (.ref c), some (.ref a), some (.ref f), o5, o6, o7, o8] ∧ zH S' a = some ((redR T i).ds.map Deed.d) ∧ FT S.length S' c cs (redR T i).tb ∧ zH S' f = some ((redR T i).fs.map fun (i : Nat) => D.int (i : Int)) ∧ a ∉ c :: cs ∧ f ∉ c :: cs) (Nat.le_refl _)
    ⟨l1.trans (l2.trans l3), c0, cs0, _, _, _, _, rfl, l3.lst r2, f1.le (l2.trans l3), r3, ha0, hf0⟩ (fun i δ S' _ => rfl) ?_ ?_
  · rintro i x δ S4 hx ⟨l4, c, cs, o5, o6, o7, o8, rfl, ra, fc, rf, hac, hfc⟩
    obtain ⟨rfl, hi⟩ := range_map_get hx
    have rs := RS i
    have hstep := redR_succ T i
    obtain ⟨s, hs⟩ : ∃ s, s = redR T i := ⟨_, rfl⟩
    rw [← hs] at ra fc rf rs hstep
    have hl : s.tb.length = T.length := by rw [rs.tb, doneR_length]
    have hwt : Wide s.tb n := by rw [rs.tb]; exact doneR_wide rfl hw rs.ok
    have hfl : s.fs.length ≤ T.length := by rw [← hl]; exact rs.red.le
    have hmu : i * (T.length + 2) ≤ 1000 * 102 := Nat.mul_le_mul (by omega) (by omega)
    have hdl : s.ds.length ≤ 102000 := Nat.le_trans rs.len hmu
    simp_all [lenD_ref rf, List.length_map, row_with_thing_eq fc.tab hwt hi (show s.fs.length ≤ s.tb.length by omega) (by omega)]
    unfold redStep at hstep
    cases e : findRow s.tb s.fs.length i with
    | none =>
      rw [e] at hstep
      simp only [] at hstep
      rw [hstep]
      simp_all [fdD, seqK_ct, loopQ]
      exact ⟨l4, c, cs, _, _, _, _, rfl, ra, fc, rf, hac, hfc⟩
    | some g =>
      rw [e] at hstep
      simp only [] at hstep
      rw [hstep]
      obtain ⟨g1, g2, g3, g4⟩ := findRow_some e
      have hp : s.fs.length < s.tb.length := by omega
      have hgi : gr b i ≤ gr b n := gr_mono b (by omega)
      have hgi2 : gr b (i + 1) ≤ gr b n := gr_mono b (by omega)
      obtain ⟨k1, k2⟩ := clear_le (c := i) hp g2 rs.le (gr_pos hb i)
      have hcl := clear_len s.tb s.fs.length g i
      simp_all [fdD]
      refine clearing_w fc.tab hwt hi hp g2 g3 rs.le (gr_pos hb i) (by omega) (by omega) fun S5 d5 l5 n5 r5 => ?_
      refine done_w (k := n) (N := gr b n) (fc.tab.le l5) r5 (clear_ok hp g2 g3) hwt (by omega) (by omega) (by omega) (fun j _ r hr x hx => (k1 j r hr x hx).mono hgi2) (fun d hd => Deed.le.mono (k2 d hd) hgi) hg fun S6 c6 cs6 l6 f6 => ?_
      have ra6 := (l5.trans l6).lst ra
      have rf6 := (l5.trans l6).lst rf
      simp_all [opMK_ref ra6]
      refine W_ext ra6 (l6.lst r5) (by simp only [List.length_map]; omega) fun S7 e7 k7 kne7 r7 => ?_
      have q5 := l5.len
      have qa := lstAt_lt ra
      have qf := lstAt_lt rf
      have ha6 : a ∉ c6 :: cs6 := fun h => by
        rcases List.mem_cons.mp h with h | h
        · have := f6.nc; omega
        · have := f6.lo _ h; omega
      have hf6 : f ∉ c6 :: cs6 := fun h => by
        rcases List.mem_cons.mp h with h | h
        · have := f6.nc; omega
        · have := f6.lo _ h; omega
      have rf7 : zH S7 f = some (s.fs.map fun (i : Nat) => D.int (i : Int)) := by rw [kne7 f (Ne.symm haf)]; exact rf6
      simp_all [opMK_ref rf7]
      refine W_app rf7 (by simp; omega) fun S8 e8 k8 kne8 r8 => ?_
      have L6 := l4.trans (l5.trans l6)
      refine ⟨k8 _ (k7 _ L6 hSa) hSf, c6, cs6, _, _, _, _, rfl, ?_, ?_, ?_, ha6, hf6⟩
      · rw [kne8 a haf, r7, List.map_append]
      · refine (f6.mono (show S.length ≤ S5.length by have := l4.len; omega)).keep fun x hx => ?_
        have hxa : x ≠ a := fun z => ha6 (by rw [← z]; rcases hx with h | h; · rw [h]; exact .head _
                                             · exact .tail _ h)
        have hxf : x ≠ f := fun z => hf6 (by rw [← z]; rcases hx with h | h; · rw [h]; exact .head _
                                             · exact .tail _ h)
        rw [kne8 x hxf, kne7 x hxa]
      · rw [r8, List.map_append]; rfl
  · rintro δ S4 ⟨l4, c, cs, o5, o6, o7, o8, rfl, ra, fc, rf, hac, hfc⟩
    rw [List.length_map, List.length_range] at ra fc rf
    simp_all [tup3]
    exact fin S4 a c cs f l4 ra fc rf hSa hSf haf hac hfc
end Nm
end
section
namespace Nm
open Np PySem
theorem mix21_w {S : Sto} {a b n m k : Nat} {as : List Nat} {T : List (List Rat)} {ss : List Rat} (ha : TabR S a as T) (hb : RowA S b ss) (hw : Wide T k) (hl : T.length = ss.length) (hT : LeT m T) (hs : ∀ s ∈ ss, Le n s) (hk : k < 1000000) (hB : (m + n + 1) * (T.length + 1) ≤ 20000000) :
  W (F.k21_mix [.ref a, .ref b, .int (k : Int)] S) fun d S' => ∃ c, d = .ref c ∧ S.length ≤ c ∧ SLe S S' ∧ RowA S' c (mixR T ss k) := by
 have hB1 : (m + n + 1) ≤ (m + n + 1) * (T.length + 1) := Nat.le_mul_of_pos_right _ (by omega)
 (unfold F.k21_mix; refine Np.W_fnF rfl ?_; unfold Den.k21_mix; simp_all [])
 refine W_new (lstD_eq (by simp) _) fun S1 a1 l1 n1 r1 => ?_
 refine W_new (mulD_rep r1 (by omega)) fun S2 a2 l2 n2 r2 => ?_
 replace r2 := RowA.rep r2
 have L := l1.trans l2
 simp_all [zip2D_ref (L.lst ha.1) (L.lst hb)]
 refine W_forK (pairs (as.map D.ref) (ss.map ratD)) (fun i δ S' => SLe S S' ∧ ∃ c o1 o2, δ = [some (.ref a), some (.ref b), some (.int (k : Int)), some (.ref c), o1, o2] ∧ S.length ≤ c ∧ RowA S' c (mixR (T.take i) (ss.take i) k)) ?_ ⟨L, a2, _, _, rfl, by have := l1.len; omega, RowA.to r2 (by simp [mixR])⟩ (fun i δ S' h => get_two (h.1.lst ha.1) (h.1.lst hb) i) ?_ ?_
 ·rw [len_two (L.lst ha.1)]
  simp [pairs]
  omega
 ·rintro i x δ S' hx ⟨L', c, o1, o2, rfl, hc, rc⟩
  obtain ⟨x1, x2, h1, h2, rfl⟩ := get_zipWith hx
  obtain ⟨b1, hb1, rfl⟩ := get_map h1
  obtain ⟨s, hs1, rfl⟩ := get_map h2
  have hi : i < T.length := by rw [← ha.2.1]; exact (List.getElem?_eq_some_iff.mp hb1).1
  have hTi : T[i]? = some T[i] := by simp [hi]
  have rb := L'.lst (ha.2.2 i b1 _ hb1 hTi)
  have hrow := hw _ (zK hTi)
  have ms := hs s (zK hs1)
  have lr : ∀ x ∈ T[i], Le m x := hT _ (zK hTi)
  have lmx : ∀ z ∈ mixR (T.take i) (ss.take i) k, sm z := fun z hz => by
   have hk0 : 0 < k := by
    rcases Nat.eq_zero_or_pos k with h | h
    ·subst h
     have := mixR_length (ss := ss.take i) (fun x hx => hw x (List.mem_of_mem_take hx) : Wide (T.take i) 0)
     rw [List.length_eq_zero_iff] at this
     rw [this] at hz
     cases hz
    ·exact h
   have h := le_mix (m := m) (n := n) hk0 (T := T.take i) (ss := ss.take i) (fun r hr => hT r (List.mem_of_mem_take hr)) (fun s h => hs s (List.mem_of_mem_take h)) z hz
   refine h.sm ?_
   have h2 : (m + n + 1) * (T.take i).length ≤ (m + n + 1) * T.length := Nat.mul_le_mul_left _ (by simp; omega)
   rw [Nat.mul_add] at hB
   omega
  have hml : (mixR (T.take i) (ss.take i) k).length = k := mixR_length fun x hx => hw x (List.mem_of_mem_take hx)
  simp_all [tupG2]
  refine W_new (comp_to (base := [_, _, _, _, _, _]) _ (tg_two [_, _, _, _, _, _]) (src := .two c b1) (xs := pairs ((mixR (T.take i) (ss.take i) k).map ratD) (T[i].map ratD)) (zs := (List.zipWith (fun x y => x + y * s) (mixR (T.take i) (ss.take i) k) T[i]).map ratD) ?_ (Has.two rc rb) (by rw [len_two rc, List.length_map, hml]; omega) (fun x hx => mem_pairs hx) (by simp [pairs]) fun p' x z hx hz => ?_) fun S4 b4 l4 n4 r4 => ?_
  ·simp only [itA, yF, aConsK, aNil, consK, vr, List.getElem?_cons_zero, List.getElem?_cons_succ, bnd_ok]
   exact zip2D_ref rc rb
  ·obtain ⟨x1, x2, h1, h2, rfl⟩ := get_zipWith hx
   obtain ⟨y1, hy1, rfl⟩ := get_map h1
   obtain ⟨y2, hy2, rfl⟩ := get_map h2
   obtain ⟨z', hz', rfl⟩ := get_map hz
   obtain ⟨u1, u2, g1, g2, rfl⟩ := get_zipWith hz'
   rw [hy1] at g1
   rw [hy2] at g2
   cases g1
   cases g2
   have m2 := lr y2 (zK hy2)
   refine W_eq ?_
   simp_all [pr1, pr2, times21_eq (m2.sm (by omega)) (ms.sm (by omega)), plus21_eq (lmx y1 (zK hy1)) ((m2.mul ms).sm (by omega))]
  rw [zip_scl] at r4
  simp_all [loopQ]
  exact ⟨L'.trans l4, b4, _, _, rfl, by have := L'.len; omega, by rw [mixR_take hw hTi hs1]; exact r4⟩
 ·rintro δ S' ⟨L', c, o1, o2, rfl, hc, rc⟩
  simp_all []
  refine ⟨c, rfl, hc, L', ?_⟩
  have e : (pairs (as.map D.ref) (ss.map ratD)).length = T.length := by simp [pairs, ha.2.1, hl]
  rw [e, List.take_length, hl, List.take_length] at rc
  exact rc
def tb : Nat → Nat
 | 0 => 27
 | k + 1 => max (tb k) (1 + (tb k + 27 + 1) * k)
theorem cellsO_w {ns : List Int} (hs : Scr ns) {S : Sto} {m : Nat} {as : DA} {base : DS} {Q : D → Sto → Prop} (o : Nat) (e : DE) (hm : m < 1000) (has : as base S = ok [.int (m : Int)] S) (he : ∀ i S' Q, W (F.k11_cell_at [.scr (ns.map D.int), .int ((o + i : Nat) : Int)] S') Q → W (e (base ++ [some (.int (i : Nat))]) S') Q)
  (fin : ∀ (ms : List Int) S' b, SLe S S' → S.length ≤ b → ms.length = m → zH S' b = some (ms.map D.int) → Q (.ref b) S') : W (compE (itA rng1D as) 1 (setG base.length) e base S) Q := by
 refine W_compX _ ((List.range m).map fun i => D.int (i : Nat)) (fun _ x => ∃ c : Int, x = .int c) _ (tg_one base) (fun _ _ => trivial) ?_ ?_ ?_
 ·rw [it_rng1 has (by omega), intsD_zero, W_ok]
  exact ⟨Nat.le_refl _, by show List.length _ ≤ _; simp; omega, SLe.rfl, fun i S'' _ => rfl⟩
 ·intro x S' hx hS
  obtain ⟨i, hi, rfl⟩ := List.mem_map.mp hx
  refine he i S' _ ?_
  obtain ⟨c, _, hc⟩ := cell_at_scr ns (o + i) S'
  rw [hc, W_ok]
  exact ⟨⟨c, rfl⟩, SLe.rfl⟩
 ·intro xs S' hS hxl hr
  have h : ∃ ms : List Int, xs = ms.map D.int := by
   have : ∀ x ∈ xs, ∃ c : Int, x = .int c := fun x hm => by
    obtain ⟨i, hi, rfl⟩ := List.getElem_of_mem hm
    exact hr i (((List.range m).map fun i => D.int (i : Nat))[i]'(by omega)) _ (List.getElem?_eq_getElem _) (by simp [hi])
   clear hr hxl
   induction xs with
   | nil => exact ⟨[], rfl⟩
   | cons x xs ih =>
    obtain ⟨c, rfl⟩ := this x (.head _)
    obtain ⟨ms, rfl⟩ := ih fun y hy => this y (.tail _ hy)
    exact ⟨c :: ms, rfl⟩
  obtain ⟨ms, rfl⟩ := h
  exact fin ms _ _ (hS.push _) hS.len (by simpa using hxl) (lstAt_push S' _)
end Nm
end
section
namespace Nm
open Np PySem
abbrev natD (i : Nat) : D := .int (i : Int)
end Nm
end
section
namespace Nm
open Np PySem
theorem W_compZ {it : DI} {g : DG} {e : DE} {base : DS} {k : Nat} {S : Sto} {Q : D → Sto → Prop} (vals : D → List (Option D)) (xs zs : List D) (P : D → Prop) (hg : Tg g k vals base P) (hP : ∀ x ∈ xs, P x) (hz : zs.length = xs.length)
  (hit : W (it base S) fun src S' => xs.length ≤ src.len S' ∧ src.len S' ≤ 1000000 ∧ SLe S S' ∧ ∀ i S'', SLe S' S'' → src.get S'' i = some xs[i]?)
  (step : ∀ (i : Nat) x z S', xs[i]? = some x → zs[i]? = some z → SLe S S' → W (e (base ++ vals x) S') fun d S'' => d = z ∧ SLe S' S'')
  (fin : ∀ S' b, SLe S S' → S.length ≤ b → zH S' b = some zs → Q (.ref b) S') : W (compE it k g e base S) Q := by
 obtain ⟨src, S0, e0, h1, h2, h3, h4⟩ := hit.out
 refine W_compE vals xs (fun i acc S' => SLe S0 S' ∧ acc = zs.take i) P hP hg ?_ ?_ ?_
 ·rw [e0, W_ok]
  exact ⟨h1, h2, ⟨SLe.rfl, rfl⟩, fun i acc S'' h => h4 i S'' h.1⟩
 ·rintro i x acc S' hx ha ⟨hS, he⟩
  obtain ⟨z, hzi⟩ := zQ (xs := zs) (i := i) (by rw [hz]; exact (List.getElem?_eq_some_iff.mp hx).1)
  refine (step i x z S' hx hzi (h3.trans hS)).mono ?_
  rintro d S'' ⟨rfl, l⟩
  exact ⟨hS.trans l, by rw [he, List.take_add_one, hzi]; rfl⟩
 ·rintro acc S' ⟨hS, he⟩ _
  rw [← hz, List.take_length] at he
  subst he
  exact fin _ _ ((h3.trans hS).push _) (h3.trans hS).len (lstAt_push S' _)
end Nm
end
section
namespace Nm
open Np PySem
theorem Sg_sub (n : Nat) (f g : Nat → Rat) : Sg n (fun i => f i - g i) = Sg n f - Sg n g := by
 induction n with
 | zero => simp [Sg]; grind
 | succ n ih => simp only [Sg, ih]; grind
theorem Sg_one {n k : Nat} (hk : k < n) {f : Nat → Rat} (hz : ∀ i, i < n → i ≠ k → f i = 0) : Sg n f = f k := by
 rw [zM (g := fun i => if i = k then f i else 0), Sg_delta hk]
 intro i hi
 by_cases e : i = k
 ·rw [if_pos e]
 ·rw [if_neg e, hz i hi e]
def dt (n : Nat) (w f g : Nat → Rat) : Rat := Sg n fun c => f c * g c * w c
structure GS (n : Nat) (w : Nat → Rat) (R L H : Nat → Nat → Rat) (k : Nat) : Prop where
 mix : ∀ i, i < k → ∀ c, R i c = L i c + Sg i fun j => R j c * H i j
 low : ∀ i j, i < k → i ≤ j → H i j = 0
 up : ∀ i j, i < k → j < k → i ≠ j → dt n w (L i) (L j) = 0
 free : ∀ i j, i < k → j < i → (∀ c, c < n → L j c = 0) → H i j = 0
def AmtIs (n : Nat) (w r l : Nat → Rat) (a : Rat) : Prop := ((∀ c, c < n → l c = 0) ∧ a = 0) ∨ (dt n w l l ≠ 0 ∧ a = dt n w r l / dt n w l l)
end Nm
end
section
namespace Nm
open Np PySem
def skip (p k : Nat) : Nat := if k < p then k else k + 1
def upd (A : Nat → Nat → Rat) (r : Nat) (f : Nat → Rat) : Nat → Nat → Rat := fun i c => if i = r then f c else A i c
theorem zW (A : Nat → Nat → Rat) (r : Nat) (f : Nat → Rat) (c : Nat) : upd A r f r c = f c := by unfold upd; rw [if_pos rfl]
theorem zO {A : Nat → Nat → Rat} {r i : Nat} {f : Nat → Rat} (h : i ≠ r) (c : Nat) : upd A r f i c = A i c := by unfold upd; rw [if_neg h]
end Nm
end
section
namespace Nm
open Np PySem
theorem ent_deed {T : List (List Rat)} {n : Nat} {d : Deed} (hw : Wide T n) (h : d.Ok T.length) (k c : Nat) : ent (doD T d) k c = match d with
  | .swap i j => if k = j then ent T i c else if k = i then ent T j c else ent T k c
  | .scale i q => if k = i then ent T i c * q else ent T k c
  | .add i j q => if k = i then ent T i c + ent T j c * q else ent T k c := by
 cases d with
 | swap i j =>
  rw [ent_row, row_swap h.1 h.2.1]
  simp only []
  split
  ·rfl
  ·split <;> rfl
 | scale i q =>
  rw [ent_row, row_scale h.1]
  simp only []
  split
  ·rw [getD_scl]; rfl
  ·rfl
 | add i j q =>
  rw [ent_row, row_add h.1]
  simp only []
  split
  ·rw [getD_add (by simp [sclR, row_len hw h.1, row_len hw h.2.1]), getD_scl]; rfl
  ·rfl
theorem prod_deed {A B : List (List Rat)} {d : Deed} {n : Nat} (hA : Wide A B.length) (hB : Wide B n) (h : d.Ok A.length) : prodR (doD A d) B n = doD (prodR A B n) d := by
 have hAd : Wide (doD A d) B.length := doD_wide (m := 0) hA h
 have hpl : (prodR A B n).length = A.length := prodR_length A B n
 have hpw : Wide (prodR A B n) n := prodR_wide hB
 have h' : d.Ok (prodR A B n).length := by rw [hpl]; exact h
 refine tab_ext (m := A.length) (n := n) (by rw [prodR_length, doD_length]) (by rw [doD_length]; exact hpl) (prodR_wide hB) (doD_wide (m := 0) hpw h') fun i k hi hk => ?_
 have P : ∀ i, i < A.length → ent (prodR A B n) i k = Sg B.length fun j => ent A i j * ent B j k := fun i hi => prod_ent hA hB hi hk
 rw [prod_ent hAd hB (by rw [doD_length]; exact hi) hk, ent_deed hpw h']
 rw [zM fun j _ => by rw [ent_deed hA h i j]]
 cases d with
 | swap a b =>
  simp only []
  split
  ·rw [P a h.1]
  ·split
   ·rw [P b h.2.1]
   ·rw [P i hi]
 | scale a q =>
  simp only []
  split
  ·rw [P a h.1, ← Sg_mul]
   exact zM fun j _ => by grind
  ·rw [P i hi]
 | add a b q =>
  simp only []
  split
  ·rw [P a h.1, P b h.2.1, ← Sg_mul, ← Sg_add]
   exact zM fun j _ => by grind
  ·rw [P i hi]
theorem prod_deeds {B : List (List Rat)} {n : Nat} (hB : Wide B n) : ∀ {ds : List Deed} {A : List (List Rat)}, Wide A B.length → (∀ d ∈ ds, d.Ok A.length) → prodR (doneR A ds) B n = doneR (prodR A B n) ds
 | [], _, _, _ => rfl
 | d :: ds, A, hA, h => by
  have hd := h d (.head _)
  show prodR (doneR (doD A d) ds) B n = doneR (doD (prodR A B n) d) ds
  rw [prod_deeds hB (ds := ds) (A := doD A d) (doD_wide (m := 0) hA hd) (fun e he => by rw [doD_length]; exact h e (.tail _ he)), prod_deed hA hB hd]
def Deed.turn : Deed → Deed
 | .swap i j => .swap i j
 | .scale i q => .scale i q
 | .add i j q => .add j i q
end Nm
end
section
namespace Nm
open Np PySem
theorem ex_rat (q : Rat) : ∃ n, Le n q := ⟨q.num.natAbs + q.den, by
 have : q.num.natAbs + q.den < 2 ^ (q.num.natAbs + q.den) := Nat.lt_two_pow_self
 omega, by
 have : q.num.natAbs + q.den < 2 ^ (q.num.natAbs + q.den) := Nat.lt_two_pow_self
 omega⟩
theorem ex_list : ∀ xs : List Rat, ∃ n, ∀ x ∈ xs, Le n x
 | [] => ⟨0, fun _ h => by cases h⟩
 | x :: xs => by
  obtain ⟨n, hn⟩ := ex_list xs
  obtain ⟨m, hm⟩ := ex_rat x
  exact ⟨m + n, fun y hy => by
   rcases List.mem_cons.mp hy with rfl | hy
   ·exact hm.mono (by omega)
   ·exact (hn y hy).mono (by omega)⟩
theorem ex_tab : ∀ T : List (List Rat), ∃ n, 0 < n ∧ LeT n T
 | [] => ⟨1, by decide, fun _ h => by cases h⟩
 | r :: T => by
  obtain ⟨n, hn, h1⟩ := ex_tab T
  obtain ⟨m, hm⟩ := ex_list r
  exact ⟨m + n, by omega, fun y hy x hx => by
   rcases List.mem_cons.mp hy with rfl | hy
   ·exact (hm x hx).mono (by omega)
   ·exact (h1 y hy x hx).mono (by omega)⟩
end Nm
end
section
namespace Nm
open Np PySem
def aug (T E : List (List Rat)) : List (List Rat) := List.zipWith (· ++ ·) T E
section
variable {T E : List (List Rat)} {w : Nat}
theorem aug_length (h : E.length = T.length) : (aug T E).length = T.length := by unfold aug; simp; omega
theorem aug_row (h : E.length = T.length) (i : Nat) : zR (aug T E) i = zR T i ++ zR E i := by
 by_cases hi : i < T.length
 ·obtain ⟨r, hr⟩ := zQ (xs := T) hi
  obtain ⟨e, he⟩ := zQ (xs := E) (i := i) (by omega)
  rw [yB hr, yB he, yB (T := aug T E) (r := r ++ e) (by unfold aug; rw [List.getElem?_zipWith, hr, he])]
 ·have h1 : ∀ A : List (List Rat), A.length ≤ i → zR A i = [] := fun A hA => by unfold zR; rw [List.getD_eq_getElem?_getD, List.getElem?_eq_none hA]; rfl
  rw [h1 _ (by rw [aug_length h]; omega), h1 T (by omega), h1 E (by omega)]
  rfl
theorem aug_ent (h : E.length = T.length) (hw : Wide T w) (i : Nat) {c : Nat} (hc : c < w) : ent (aug T E) i c = ent T i c := by
 by_cases hi : i < T.length
 ·obtain ⟨r, hr⟩ := zQ (xs := T) hi
  rw [ent_row, ent_row, aug_row h, yB hr]
  have := hw r (zK hr)
  simp only [List.getD_eq_getElem?_getD]
  rw [List.getElem?_append_left (by omega)]
 ·rw [ent_none (by rw [aug_length h]; omega), ent_none (by omega)]
theorem aug_set (i : Nat) (a b : List Rat) : (aug T E).set i (a ++ b) = aug (T.set i a) (E.set i b) := by
 unfold aug
 apply List.ext_getElem?
 intro k
 simp only [List.getElem?_set, List.getElem?_zipWith, List.length_zipWith]
 by_cases hk : i = k
 ·subst hk
  simp only [if_true]
  by_cases h1 : i < T.length <;> by_cases h2 : i < E.length <;> simp [h1, h2] <;> omega
 ·simp only [if_neg hk]
theorem addR_app {a b c d : List Rat} (h : a.length = c.length) : addR (a ++ b) (c ++ d) = addR a c ++ addR b d := by
 unfold addR
 exact List.zipWith_append h
theorem sclR_app (a b : List Rat) (q : Rat) : sclR (a ++ b) q = sclR a q ++ sclR b q := by unfold sclR; simp
theorem aug_doD (h : E.length = T.length) (hw : Wide T w) {d : Deed} (hd : d.Ok T.length) : doD (aug T E) d = aug (doD T d) (doD E d) := by
 cases d with
 | swap i j =>
  show ((aug T E).set i (zR (aug T E) j)).set j (zR (aug T E) i) = _
  rw [aug_row h, aug_row h, aug_set, aug_set]
  rfl
 | scale i q =>
  show (aug T E).set i (sclR (zR (aug T E) i) q) = _
  rw [aug_row h, sclR_app, aug_set]
  rfl
 | add i j q =>
  obtain ⟨hi, hj, _⟩ := hd
  obtain ⟨r, hr⟩ := zQ (xs := T) hi
  obtain ⟨s, hs⟩ := zQ (xs := T) hj
  show (aug T E).set i (addR (zR (aug T E) i) (sclR (zR (aug T E) j) q)) = _
  rw [aug_row h, aug_row h, sclR_app, addR_app (by rw [yB hr, yB hs]; unfold sclR; rw [List.length_map, hw r (zK hr), hw s (zK hs)]), aug_set]
  rfl
theorem aug_done : ∀ {ds : List Deed} {T E : List (List Rat)}, E.length = T.length → Wide T w → (∀ d ∈ ds, d.Ok T.length) → doneR (aug T E) ds = aug (doneR T ds) (doneR E ds)
 | [], _, _, _, _, _ => rfl
 | d :: ds, T, E, h, hw, hd => by
  show doneR (doD (aug T E) d) ds = aug (doneR (doD T d) ds) (doneR (doD E d) ds)
  rw [aug_doD h hw (hd d (.head _))]
  exact aug_done (by rw [doD_length, doD_length, h]) (doneR_wide (ds := [d]) rfl hw fun x hx => by rw [List.mem_singleton.mp hx]; exact hd d (.head _)) fun x hx => by rw [doD_length]; exact hd x (.tail _ hx)
theorem aug_find (h : E.length = T.length) (hw : Wide T w) (p : Nat) {c : Nat} (hc : c < w) : findRow (aug T E) p c = findRow T p c := by
 unfold findRow
 rw [aug_length h]
 congr 1
 funext i
 rw [aug_ent h hw i hc]
theorem aug_clear (h : E.length = T.length) (hw : Wide T w) (p f : Nat) {c : Nat} (hc : c < w) : clearDs (aug T E) p f c = clearDs T p f c := by
 unfold clearDs pvt toClear
 simp only [aug_length h, aug_ent h hw _ hc]
theorem red_aug {b : Nat} (h : E.length = T.length) (hw : Wide T w) (hb : 0 < b) (hT : LeT b T) : ∀ n, n ≤ w → redR (aug T E) n = ⟨(redR T n).ds, aug (redR T n).tb (doneR E (redR T n).ds), (redR T n).fs⟩
 | 0, _ => rfl
 | n + 1, hn => by
  have RS := redS hw hb hT n
  have hl : (redR T n).tb.length = T.length := by rw [RS.tb, doneR_length]
  have hwt : Wide (redR T n).tb w := by rw [RS.tb]; exact doneR_wide rfl hw RS.ok
  have he : (doneR E (redR T n).ds).length = (redR T n).tb.length := by rw [doneR_length, hl, h]
  rw [redR_succ, redR_succ, red_aug h hw hb hT n (by omega)]
  unfold redStep
  simp only [aug_find he hwt _ (show n < w by omega)]
  cases e : findRow (redR T n).tb (redR T n).fs.length n with
  | none => rfl
  | some f =>
   simp only [aug_clear he hwt _ _ (show n < w by omega)]
   obtain ⟨h1, h2, h3, _⟩ := findRow_some e
   have hp : (redR T n).fs.length < (redR T n).tb.length := by omega
   rw [aug_done he hwt (clear_ok hp h2 h3), doneR_append]
theorem papers_le {b m : Nat} (hl : T.length = m) (hw : Wide T w) (hb : 0 < b) (hT : LeT b T) : (∀ i, LeT (gr b w) (doneR (unitR m) ((redR T w).ds.take i))) ∧ LeT (gr b w) (doneR (unitR m) (redR T w).ds) := by
 have hE : (unitR m).length = T.length := by rw [yE, hl]
 have hbE : LeT b (unitR m) := fun r hr x hx => by
  obtain ⟨i, _, rfl⟩ := List.mem_map.mp hr
  obtain ⟨j, _, rfl⟩ := List.mem_map.mp hx
  by_cases e : j = i
  ·rw [if_pos e]; exact Le.one hb
  ·rw [if_neg e]; exact Le.zero hb
 have hA : LeT b (aug T (unitR m)) := fun r hr x hx => by
  obtain ⟨i, hi⟩ := List.getElem?_of_mem hr
  unfold aug at hi
  rw [List.getElem?_zipWith] at hi
  cases e1 : T[i]? with
  | none => rw [e1] at hi; cases hi
  | some t =>
   cases e2 : (unitR m)[i]? with
   | none => rw [e1, e2] at hi; cases hi
   | some u =>
    rw [e1, e2] at hi
    cases hi
    rcases List.mem_append.mp hx with q | q
    ·exact hT t (zK e1) x q
    ·exact hbE u (zK e2) x q
 have hAw : Wide (aug T (unitR m)) (w + m) := fun r hr => by
  obtain ⟨i, hi⟩ := List.getElem?_of_mem hr
  unfold aug at hi
  rw [List.getElem?_zipWith] at hi
  cases e1 : T[i]? with
  | none => rw [e1] at hi; cases hi
  | some t =>
   cases e2 : (unitR m)[i]? with
   | none => rw [e1, e2] at hi; cases hi
   | some u =>
    rw [e1, e2] at hi
    cases hi
    rw [List.length_append, hw t (zK e1), unitR_wide m u (zK e2)]
 have RS := redS hw hb hT w
 have RA := redS hAw hb hA w
 have ed : (redR (aug T (unitR m)) w).ds = (redR T w).ds := by rw [red_aug hE hw hb hT w (Nat.le_refl _)]
 have part : ∀ ds : List Deed, (∀ d ∈ ds, d.Ok T.length) → LeT (gr b w) (doneR (aug T (unitR m)) ds) → LeT (gr b w) (doneR (unitR m) ds) := fun ds hd hh u hu x hx => by
  rw [aug_done hE hw hd] at hh
  obtain ⟨i, hi⟩ := List.getElem?_of_mem hu
  have hil : i < (doneR T ds).length := by have := (List.getElem?_eq_some_iff.mp hi).1; rw [doneR_length] at this ⊢; omega
  obtain ⟨t, ht⟩ := zQ (xs := doneR T ds) hil
  exact hh (t ++ u) (List.mem_of_getElem? (i := i) (by unfold aug; rw [List.getElem?_zipWith, ht, hi])) x (List.mem_append_right _ hx)
 refine ⟨fun i => part _ (fun d hd => RS.ok d (List.mem_of_mem_take hd)) ?_, part _ RS.ok ?_⟩
 ·have := RA.pre i
  rw [ed] at this
  exact this
 ·have := RA.le
  rw [RA.tb, ed] at this
  exact this
end
end Nm
end
section
namespace Nm
open Np PySem
def Tw (a b : Nat) (q : Rat) : Prop := ∃ n : Int, q * ((12 ^ a : Int) : Rat) = (n : Rat) ∧ n.natAbs < 2 ^ b
theorem Tw.mono {a b b' : Nat} {q : Rat} (h : Tw a b q) (hb : b ≤ b') : Tw a b' q := by
 obtain ⟨n, h1, h2⟩ := h
 exact ⟨n, h1, Nat.lt_of_lt_of_le h2 (Nat.pow_le_pow_right (by decide) hb)⟩
theorem Tw.mul {a b a' b' : Nat} {p q : Rat} (hp : Tw a b p) (hq : Tw a' b' q) : Tw (a + a') (b + b') (p * q) := by
 obtain ⟨n, h1, h2⟩ := hp
 obtain ⟨m, h3, h4⟩ := hq
 refine ⟨n * m, ?_, by rw [Int.natAbs_mul]; exact mul_lt_pow h2 h4⟩
 rw [Int.pow_add, Rat.intCast_mul, Rat.intCast_mul, ← h1, ← h3]
 grind
theorem Tw.up {a b : Nat} {q : Rat} (h : Tw a b q) : Tw (a + 1) (b + 4) q := by
 obtain ⟨n, h1, h2⟩ := h
 refine ⟨n * 12, ?_, by rw [Int.natAbs_mul]; exact mul_lt_pow h2 (by decide)⟩
 rw [Int.pow_succ, Rat.intCast_mul, Rat.intCast_mul, ← h1]
 grind
theorem Tw.ups {a b : Nat} {q : Rat} (h : Tw a b q) : ∀ k, Tw (a + k) (b + 4 * k) q
 | 0 => h
 | k + 1 => by
  have := (Tw.ups h k).up
  exact this.mono (by omega)
theorem Tw.add {a b c : Nat} {p q : Rat} (hp : Tw a b p) (hq : Tw a c q) : Tw a (max b c + 1) (p + q) := by
 obtain ⟨n, h1, h2⟩ := hp
 obtain ⟨m, h3, h4⟩ := hq
 refine ⟨n + m, ?_, ?_⟩
 ·rw [Rat.intCast_add, ← h1, ← h3]; grind
 ·have e1 : 2 ^ b ≤ 2 ^ max b c := Nat.pow_le_pow_right (by decide) (Nat.le_max_left _ _)
  have e2 : 2 ^ c ≤ 2 ^ max b c := Nat.pow_le_pow_right (by decide) (Nat.le_max_right _ _)
  have := Int.natAbs_add_le n m
  rw [Nat.pow_succ]
  omega
theorem Tw.zero (a b : Nat) : Tw a b 0 := ⟨0, by grind, by show 0 < _; exact Nat.two_pow_pos b⟩
theorem Tw.sum {a b : Nat} {f : Nat → Rat} : ∀ {n : Nat}, (∀ i, i < n → Tw a b (f i)) → Tw a (b + n) (Sg n f)
 | 0, _ => Tw.zero _ _
 | n + 1, h => by
  have := (Tw.sum (n := n) fun i hi => h i (by omega)).add (h n (by omega))
  exact this.mono (by omega)
theorem Tw.le {a b N : Nat} {q : Rat} (h : Tw a b q) (h1 : b ≤ N) (h2 : 4 * a < N) : Le N q := by
 obtain ⟨n, e, hn⟩ := h
 have hD : (0 : Int) < 12 ^ a := Int.pow_pos (by decide)
 have hD' : ((12 ^ a : Int) : Rat) ≠ 0 := fun z => by
  have : (12 ^ a : Int) = 0 := by exact_mod_cast z
  omega
 have eq : q = Rat.divInt n (12 ^ a) := by
  rw [Rat.divInt_eq_div, ← e, Rat.mul_div_cancel hD']
 rw [eq]
 refine Le.divInt' hD (Nat.lt_of_lt_of_le hn (Nat.pow_le_pow_right (by decide) h1)) ?_
 have : ((12 : Int) ^ a).natAbs = 12 ^ a := by rw [Int.natAbs_pow]; rfl
 rw [this]
 have h16 : (12 : Nat) ^ a ≤ 16 ^ a := Nat.pow_le_pow_left (by decide) a
 have e16 : (16 : Nat) ^ a = 2 ^ (4 * a) := by rw [Nat.pow_mul]
 rw [e16] at h16
 exact Nat.lt_of_le_of_lt h16 (Nat.pow_lt_pow_right (by decide) h2)
theorem eight12 (i : Int) (h0 : 0 ≤ i) (h8 : i < 8) {S : Sto} {a : Nat} (h : zH S a = some [.int 1, .int 1, .int 1, .int 2, .int 3, .int 4, .int 6, .int 12]) : ∃ c e : Int, 1 ≤ c ∧ c ≤ 12 ∧ ixD (.ref a) (.int i) S = ok (.int c) S ∧ c * e = 12 ∧ 0 < e ∧ e ≤ 12 := by
 have : i = 0 ∨ i = 1 ∨ i = 2 ∨ i = 3 ∨ i = 4 ∨ i = 5 ∨ i = 6 ∨ i = 7 := by omega
 rcases this with rfl | rfl | rfl | rfl | rfl | rfl | rfl | rfl
 ·exact ⟨1, 12, by decide, by decide, ixD_ref (i := 0) h rfl, by decide⟩
 ·exact ⟨1, 12, by decide, by decide, ixD_ref (i := 1) h rfl, by decide⟩
 ·exact ⟨1, 12, by decide, by decide, ixD_ref (i := 2) h rfl, by decide⟩
 ·exact ⟨2, 6, by decide, by decide, ixD_ref (i := 3) h rfl, by decide⟩
 ·exact ⟨3, 4, by decide, by decide, ixD_ref (i := 4) h rfl, by decide⟩
 ·exact ⟨4, 3, by decide, by decide, ixD_ref (i := 5) h rfl, by decide⟩
 ·exact ⟨6, 2, by decide, by decide, ixD_ref (i := 6) h rfl, by decide⟩
 ·exact ⟨12, 1, by decide, by decide, ixD_ref (i := 7) h rfl, by decide⟩
theorem Tw.div {t c e : Int} {b : Nat} (hc : 1 ≤ c) (h : c * e = 12) (hb : (t * e).natAbs < 2 ^ b) : Tw 1 b (Rat.divInt t c) := by
 refine ⟨t * e, ?_, hb⟩
 have hc0 : (c : Rat) ≠ 0 := fun z => by
  have : c = 0 := by exact_mod_cast z
  omega
 rw [show ((12 : Int) ^ 1) = c * e by rw [h]; rfl, Rat.divInt_eq_div, Rat.intCast_mul, Rat.intCast_mul, ← Rat.mul_assoc, Rat.div_mul_cancel hc0]
theorem ratio12_w (n : Int) (S : Sto) : W (F.k24_ratio [.int n] S) fun d S' => SLe S S' ∧ ∃ (v : Int) (q : Rat), Tw 1 30 q ∧ d = .tup [.int v, ratD q] := by
 (unfold F.k24_ratio; refine Np.W_fnF rfl ?_; unfold Den.k24_ratio; simp_all [])
 have m2 : ((5 : Int)).natAbs.log2 + ((10 : Int) ^ 7).natAbs.log2 ≤ 100000000 := by decide +kernel
 have q7 : ∀ S, powD (.int 10) (.int 7) S = ok (.int (10 ^ 7)) S := fun S => powD_ok (by decide) S
 have q8 : ∀ S, powD (.int 10) (.int 8) S = ok (.int (10 ^ 8)) S := fun S => powD_ok (by decide) S
 have h30 : (2 : Nat) ^ 30 = 1073741824 := by decide
 simp_all [Np.W_ifK, Np.W_ifEK, Np.W_andTK, Np.W_orTK, Np.W_andVB, Np.W_orVB, Np.W_chnB, dvm_eq (show (8 : Int) ≠ 0 by decide), dvm_eq (show (19 : Int) ≠ 0 by decide), tupG2, q8, q7, mulD_int m2, fdivD_int (show (1000 : Int) ≠ 0 by decide), modD_int (show (10 : Int) ^ 8 ≠ 0 by decide), lstD_eq (show [D.int 1, D.int 1, D.int 1, D.int 2, D.int 3, D.int 4, D.int 6, D.int 12].length ≤ 1000 by decide)]
 split
 ·obtain ⟨h1, h2⟩ := fmod_bd ((n.fdiv 8).fdiv 19) (show (0 : Int) < 10 ^ 8 by decide)
  refine ⟨SLe.rfl, _, (((n.fdiv 8).fdiv 19).fmod (10 ^ 8) - 5 * 10 ^ 7 : Int), ⟨(((n.fdiv 8).fdiv 19).fmod (10 ^ 8) - 5 * 10 ^ 7) * 12, ?_, by omega⟩, rfl⟩
  rw [show ((12 : Int) ^ 1) = 12 from rfl, Rat.intCast_mul]
 ·obtain ⟨h1, h2⟩ := fmod_bd n (show (0 : Int) < 8 by decide)
  obtain ⟨h3, h4⟩ := fmod_bd (n.fdiv 8) (show (0 : Int) < 19 by decide)
  obtain ⟨c, e, c1, c2, c3, c4, c5, c6⟩ := eight12 _ h1 h2 (lstAt_push S _)
  simp_all [c3, low_eq (show (0 : Int) < c by omega)]
  refine ⟨SLe.app _, _, _, Tw.div c1 c4 ?_, rfl⟩
  rw [Int.natAbs_mul]
  have : ((n.fdiv 8).fmod 19 - 9).natAbs * e.natAbs ≤ 9 * 12 := Nat.mul_le_mul (by omega) (by omega)
  omega
theorem row12_w (n : Int) {k : Nat} (hk : k < 1000) (S : Sto) : W (F.k24_row [.int n, .int (k : Int)] S) fun d S' => ∃ c xs, d = .ref c ∧ S.length ≤ c ∧ SLe S S' ∧ RowA S' c xs ∧ xs.length = k ∧ ∀ x ∈ xs, Tw 1 30 x := by
 (unfold F.k24_row; refine Np.W_fnF rfl ?_; unfold Den.k24_row; simp_all [])
 refine W_new (lstD_eq (by simp) _) fun S1 c l1 n1 r1 => ?_
 simp_all [rng1D_nat (show k < 1000000 by omega), intsD_zero]
 refine W_forK ((List.range k).map fun i => D.int (i : Nat)) (fun i δ S' => SLe S S' ∧ (∃ xs, RowA S' c xs ∧ xs.length = i ∧ ∀ x ∈ xs, Tw 1 30 x) ∧ ∃ (v : Int) (o3 o4 : Option D), δ = [some (.int v), some (.int (k : Int)), some (.ref c), o3, o4]) (Nat.le_refl _)
  ⟨l1, ⟨[], r1, rfl, fun _ h => (by cases h)⟩, _, _, _, rfl⟩ (fun i δ S' _ => rfl) ?_ ?_
 ·rintro i x δ S2 hx ⟨L, ⟨xs, rc, hxl, hxs⟩, v, o3, o4, rfl⟩
  obtain ⟨rfl, hi⟩ := range_map_get hx
  simp_all []
  refine (ratio12_w v S2).mono ?_
  rintro d S3 ⟨l3, v', q, hq, rfl⟩
  simp_all [tupG2, opMK_ref (l3.lst rc)]
  refine W_app (l3.lst rc) (by simp; omega) fun S4 _ k4 _ r4 => ?_
  refine ⟨k4 _ (L.trans l3) n1, ⟨xs ++ [q], by show zH S4 c = _; rw [r4]; simp, by simp [hxl], fun x hx => ?_⟩, _, _, _, rfl⟩
  rcases List.mem_append.mp hx with h | h
  ·exact hxs x h
  ·rw [List.mem_singleton.mp h]; exact hq
 ·rintro δ S2 ⟨L, ⟨xs, rc, hxl, hxs⟩, v, o3, o4, rfl⟩
  simp_all []
  exact ⟨c, xs, rfl, n1, L, rc, by simpa using hxl, hxs⟩
def tw : Nat → Nat
 | 0 => 30
 | i + 1 => tw i + 30 + i
theorem tw_ge : ∀ i, 30 + 4 * i ≤ tw i
 | 0 => Nat.le_refl _
 | i + 1 => by have := tw_ge i; show _ ≤ tw i + 30 + i; omega
def TwT (a b : Nat) (T : List (List Rat)) : Prop := ∀ r ∈ T, ∀ x ∈ r, Tw a b x
theorem tw_ent {a b : Nat} {T : List (List Rat)} (h : TwT a b T) (i c : Nat) : Tw a b (ent T i c) := by
 by_cases hi : i < T.length
 ·obtain ⟨r, hr⟩ := zQ (xs := T) hi
  rw [ent_get hr]
  by_cases hc : c < r.length
  ·exact h r (zK hr) _ (getD_mem hc)
  ·rw [List.getD_eq_getElem?_getD, List.getElem?_eq_none (by omega)]; exact Tw.zero _ _
 ·rw [ent_none (by omega)]; exact Tw.zero _ _
theorem tw_mix {T : List (List Rat)} {ss : List Rat} {n a b : Nat} (hw : Wide T n) (hl : T.length = ss.length) (hT : TwT a b T) (hs : ∀ s ∈ ss, Tw 1 30 s) : ∀ x ∈ mixR T ss n, Tw (a + 1) (b + 30 + T.length) x := fun x hx => by
 obtain ⟨c, hc⟩ := List.getElem?_of_mem hx
 have hcl := (List.getElem?_eq_some_iff.mp hc).1
 rw [mixR_length hw] at hcl
 have e : (mixR T ss n).getD c 0 = x := by simp [hc]
 rw [← e, mix_ent hw hcl hl]
 refine Tw.sum fun j hj => (tw_ent hT j c).mul ?_
 exact hs _ (getD_mem (by omega))
theorem table12_w {S : Sto} {a n : Nat} {mx : Bool} {ms : List Int} (ha : zH S a = some (ms.map D.int)) (hm : ms.length ≤ 6) (hn : n < 1000) :
  W (F.k24_table [.ref a, .int (n : Int), .bl mx] S) fun d S' => ∃ c cs T, d = .ref c ∧ SLe S S' ∧ FT S.length S' c cs T ∧ T.length = ms.length ∧ Wide T n ∧ TwT (ms.length + 1) (tw ms.length) T := by
 (unfold F.k24_table; refine Np.W_fnF rfl ?_; unfold Den.k24_table; simp_all [])
 refine W_new (lstD_eq (by simp) _) fun S1 c l1 n1 r1 => ?_
 simp_all [lenD_ref (l1.lst ha), List.length_map, rng1D_nat (show ms.length < 1000000 by omega), intsD_zero]
 refine W_forK ((List.range ms.length).map fun i => D.int (i : Nat)) (fun i δ S' => SLe S S' ∧ (∃ cs T, FT S.length S' c cs T ∧ T.length = i ∧ Wide T n ∧ TwT (i + 1) (tw i) T) ∧ ∃ o4 o5 o6 o7, δ = [some (.ref a), some (.int (n : Int)), some (.bl mx), some (.ref c), o4, o5, o6, o7]) (Nat.le_refl _)
  ⟨l1, ⟨[], [], FT.nil r1 n1, rfl, fun _ h => (by cases h), fun _ h => (by cases h)⟩, _, _, _, _, rfl⟩ (fun i δ S' _ => rfl) ?_ ?_
 ·rintro i x δ S2 hx ⟨L, ⟨cs, T, ft, hTl, hw, hT⟩, o4, o5, o6, o7, rfl⟩
  obtain ⟨rfl, hi⟩ := range_map_get hx
  obtain ⟨z, hz⟩ := zQ (xs := ms) (i := i) hi
  obtain ⟨v, hv⟩ := great21_eq z S2
  have tws : tw i ≤ 400 := by
   have : ∀ k, k ≤ 6 → tw k ≤ 400 := by decide
   exact this i (by omega)
  have put : ∀ (S3 : Sto) (b : Nat) (xs : List Rat) (o7 : Option D) (K : D → Sto → Prop), SLe S2 S3 → S2.length ≤ b → RowA S3 b xs → xs.length = n → (∀ x ∈ xs, Tw (i + 2) (tw (i + 1)) x) → (∀ S4, SLe S S4 → (∃ cs T, FT S.length S4 c cs T ∧ T.length = i + 1 ∧ Wide T n ∧ TwT (i + 2) (tw (i + 1)) T) → K .non S4) → W (appD (.ref c) (.ref b) S3) K := by
   intro S3 b xs o7 K l3 n3 r3 hxl hxs k
   have hbc : b ≠ c := by have := lstAt_lt ft.tab.1; omega
   refine W_app (l3.lst ft.tab.1) (by simp [ft.tab.2.1]; omega) fun S4 _ k4 kne r4 => ?_
   refine k S4 (k4 _ (L.trans l3) ft.nc) ⟨cs ++ [b], T ++ [xs], (ft.le l3).snoc r3 (by have := L.len; omega) (fun x hx => by have := ft.lt x hx; omega) hbc kne r4, by simp [hTl], fun r hr => ?_, fun r hr => ?_⟩
   ·rcases List.mem_append.mp hr with h | h
    ·exact hw r h
    ·rw [List.mem_singleton.mp h]; exact hxl
   ·rcases List.mem_append.mp hr with h | h
    ·exact fun x hx => (hT r h x hx).up.mono (by show _ ≤ tw i + 30 + i; omega)
    ·rw [List.mem_singleton.mp h]; exact hxs
  simp_all [ixD_ref (L.lst ha) (map_get D.int hz), hv, fdivD_int (show (9 : Int) ≠ 0 by decide), modD_int (show (3 : Int) ≠ 0 by decide)]
  refine (row12_w (v.fdiv 9) hn S2).mono ?_
  rintro d S3 ⟨b, xs, rfl, n3, l3, r3, hxl, hxs⟩
  have plain : ∀ K : D → Sto → Prop, (∀ S4, SLe S S4 → (∃ cs T, FT S.length S4 c cs T ∧ T.length = i + 1 ∧ Wide T n ∧ TwT (i + 2) (tw (i + 1)) T) → K .non S4) → W (appD (.ref c) (.ref b) S3) K := fun K k => put S3 b xs none K l3 n3 r3 hxl (fun x hx => by
   have := (hxs x hx).ups (i + 1)
   rw [show 1 + (i + 1) = i + 2 by omega] at this
   exact this.mono (tw_ge _)) k
  have hi0 : ((0 : Int) < (i : Int)) = (0 < i) := by simp
  by_cases hmx : mx = true
  ·subst hmx
   by_cases h3 : 0 < v.fmod 3
   ·by_cases hi' : 0 < i
    ·simp_all [modD_int (show (3 : Int) ≠ 0 by decide), fdivD_int (show (9 : Int) ≠ 0 by decide), h3, hi', hi0]
     refine (row12_w (v.fdiv 9) (k := i) (by omega) S3).mono ?_
     rintro d S4 ⟨b4, ss, rfl, n4, l4, r4, hsl, hss⟩
     refine (mix21_w (m := 400) (n := 400) (k := n) (ft.tab.le (l3.trans l4)) r4 hw (by omega) (fun r hr x hx => (hT r hr x hx).le tws (by omega)) (fun s hs => (hss s hs).le (by decide) (by decide)) (by omega) ?_).mono ?_
     ·have : (400 + 400 + 1) * (T.length + 1) ≤ 801 * 10 := Nat.mul_le_mul (by omega) (by omega)
      omega
     rintro d S5 ⟨b5, rfl, n5, l5, r5⟩
     simp_all [opMK_ref ((l3.trans (l4.trans l5)).lst ft.tab.1)]
     have hml : (mixR T ss n).length = n := mixR_length hw
     refine put S5 b5 _ none _ (l3.trans (l4.trans l5)) (by have := l3.len; have := l4.len; omega) r5 hml (fun x hx => ?_) fun S6 L6 h6 => ⟨L6, h6, _, _, _, _, rfl⟩
     have := tw_mix hw (by omega) hT hss x hx
     rw [hTl] at this
     exact this
    ·simp_all [modD_int (show (3 : Int) ≠ 0 by decide), fdivD_int (show (9 : Int) ≠ 0 by decide), h3, hi', hi0, opMK_ref (l3.lst ft.tab.1)]
     exact plain _ fun S4 L4 h4 => ⟨L4, h4, _, _, _, _, rfl⟩
   ·simp_all [modD_int (show (3 : Int) ≠ 0 by decide), fdivD_int (show (9 : Int) ≠ 0 by decide), h3, opMK_ref (l3.lst ft.tab.1)]
    exact plain _ fun S4 L4 h4 => ⟨L4, h4, _, _, _, _, rfl⟩
  ·have hmx : mx = false := by simpa using hmx
   subst hmx
   simp_all [opMK_ref (l3.lst ft.tab.1)]
   exact plain _ fun S4 L4 h4 => ⟨L4, h4, _, _, _, _, rfl⟩
 ·rintro δ S2 ⟨L, ⟨cs, T, ft, hTl, hw, hT⟩, o4, o5, o6, o7, rfl⟩
  rw [List.length_map, List.length_range] at hTl hT
  simp_all []
  exact ⟨c, cs, T, rfl, L, ft, hTl, hw, hT⟩
theorem TwT.le {a b N : Nat} {T : List (List Rat)} (h : TwT a b T) (h1 : b ≤ N) (h2 : 4 * a < N) : LeT N T := fun r hr x hx => (h r hr x hx).le h1 h2
end Nm
end
section
namespace Nm
open Np PySem
def Rl (A : List (List Rat)) (m : Nat) (c : Nat → Rat) : Prop := ∀ i, Sg m (fun k => ent A i k * c k) = 0
theorem rl_deed {A : List (List Rat)} {d : Deed} {n m : Nat} {c : Nat → Rat} (hw : Wide A n) (hd : d.Ok A.length) (h : Rl A m c) : Rl (doD A d) m c := fun i => by
 have E := ent_deed hw hd i
 rw [zM fun k _ => by rw [E k]]
 cases d with
 | swap a b =>
  simp only []
  split
  ·exact h a
  ·split
   ·exact h b
   ·exact h i
 | scale a q =>
  simp only []
  split
  ·rw [zM (g := fun k => ent A a k * c k * q) fun k _ => by grind, Sg_mul, h a, Rat.zero_mul]
  ·exact h i
 | add a b q =>
  simp only []
  split
  ·rw [zM (g := fun k => ent A a k * c k + ent A b k * c k * q) fun k _ => by grind, Sg_add, Sg_mul, h a, h b]
   grind
  ·exact h i
theorem rl_deeds {n m : Nat} {c : Nat → Rat} : ∀ {ds : List Deed} {A : List (List Rat)}, Wide A n → (∀ d ∈ ds, d.Ok A.length) → Rl A m c → Rl (doneR A ds) m c
 | [], _, _, _, h => h
 | d :: ds, A, hw, hd, h => rl_deeds (ds := ds) (A := doD A d) (doD_wide (m := 0) hw (hd d (.head _))) (fun e he => by rw [doD_length]; exact hd e (.tail _ he)) (rl_deed hw (hd d (.head _)) h)
theorem rl_iff {n m : Nat} {c : Nat → Rat} {ds : List Deed} {A : List (List Rat)} (hw : Wide A n) (hd : ∀ d ∈ ds, d.Ok A.length) : Rl (doneR A ds) m c ↔ Rl A m c := by
 refine ⟨fun h => ?_, rl_deeds hw hd⟩
 have hb := backs_ok (m := A.length) hd
 have := rl_deeds (n := n) (ds := backs ds) (A := doneR A ds) (doneR_wide rfl hw hd) (fun d hx => by rw [doneR_length]; exact hb d hx) h
 rwa [doneR_backs hw hd] at this
theorem rl_red {A : List (List Rat)} {m : Nat} {c : Nat → Rat} (hw : Wide A m) : Rl (redR A m).tb m c ↔ Rl A m c := by
 obtain ⟨b, hb, hT⟩ : ∃ n, 0 < n ∧ LeT n A := by
  clear hw
  induction A with
  | nil => exact ⟨1, by decide, fun _ h => by cases h⟩
  | cons r T ih =>
   obtain ⟨n, hn, h1⟩ := ih
   have : ∃ m, ∀ x ∈ r, Le m x := by
    clear h1
    induction r with
    | nil => exact ⟨0, fun _ h => by cases h⟩
    | cons x xs ih =>
     obtain ⟨k, hk⟩ := ih
     have hx : Le (x.num.natAbs + x.den) x := by
      have : x.num.natAbs + x.den < 2 ^ (x.num.natAbs + x.den) := Nat.lt_two_pow_self
      exact ⟨by omega, by omega⟩
     exact ⟨x.num.natAbs + x.den + k, fun y hy => by
      rcases List.mem_cons.mp hy with rfl | hy
      ·exact hx.mono (by omega)
      ·exact (hk y hy).mono (by omega)⟩
   obtain ⟨m, hm⟩ := this
   exact ⟨m + n, by omega, fun y hy x hx => by
    rcases List.mem_cons.mp hy with rfl | hy
    ·exact (hm x hx).mono (by omega)
    ·exact (h1 y hy x hx).mono (by omega)⟩
 have RS := redS hw hb hT m
 rw [RS.tb]
 exact rl_iff hw RS.ok
def byFirsts (U : List (List Rat)) (fs : List Nat) (k i : Nat) : Rat := match fs.idxOf? i with
 | some j => ent U j k
 | none => 0
theorem idx_some {fs : List Nat} {i j : Nat} (h : fs.idxOf? i = some j) : fs[j]? = some i := by
 rw [List.idxOf?, List.findIdx?_eq_some_iff_getElem] at h
 obtain ⟨h1, h2, _⟩ := h
 rw [List.getElem?_eq_getElem h1]
 simpa using h2
theorem idx_none {fs : List Nat} {i : Nat} (h : fs.idxOf? i = none) : i ∉ fs := fun hi => by
 rw [List.idxOf?, List.findIdx?_eq_none_iff] at h
 have := h i hi
 simp at this
theorem inc_inj {fs : List Nat} (h : fs.Pairwise (· < ·)) {i j x : Nat} (hi : fs[i]? = some x) (hj : fs[j]? = some x) : i = j := by
 have h1 := List.getElem?_eq_some_iff.mp hi
 have h2 := List.getElem?_eq_some_iff.mp hj
 rcases Nat.lt_trichotomy i j with h3 | h3 | h3
 ·have := List.pairwise_iff_getElem.mp h i j h1.1 h2.1 h3
  rw [h1.2, h2.2] at this
  omega
 ·exact h3
 ·have := List.pairwise_iff_getElem.mp h j i h2.1 h1.1 h3
  rw [h1.2, h2.2] at this
  omega
theorem idx_get {fs : List Nat} (h : fs.Pairwise (· < ·)) {i j : Nat} (hj : fs[j]? = some i) : fs.idxOf? i = some j := by
 cases e : fs.idxOf? i with
 | none => exact absurd (zK hj) (idx_none e)
 | some j' => rw [inc_inj h hj (idx_some e)]
theorem sum_firsts {U : List (List Rat)} {fs : List Nat} {m : Nat} (h : RedI U fs m) {r : Nat} {g : Nat → Rat} (hg : ∀ i, i ∉ fs → g i = 0) : Sg m (fun i => ent U r i * g i) = match fs[r]? with
  | some x => g x
  | none => 0 := by
 cases e : fs[r]? with
 | none =>
  simp only []
  rw [zM (g := fun _ => 0) fun i hi => ?_, Sg_zero]
  by_cases hm : i ∈ fs
  ·obtain ⟨j, hj⟩ := List.getElem?_of_mem hm
   have hjr : r ≠ j := fun z => by rw [z, hj] at e; cases e
   rw [h.alone j i r hj hjr, Rat.zero_mul]
  ·rw [hg i hm, Rat.mul_zero]
 | some x =>
  simp only []
  rw [Sg_one (k := x) (h.lt x (zK e)) fun i hi hne => ?_, h.one r x e, Rat.one_mul]
  by_cases hm : i ∈ fs
  ·obtain ⟨j, hj⟩ := List.getElem?_of_mem hm
   have hjr : r ≠ j := fun z => by rw [z, hj] at e; exact hne (Option.some.inj e)
   rw [h.alone j i r hj hjr, Rat.zero_mul]
  ·rw [hg i hm, Rat.mul_zero]
theorem byF_zero {U : List (List Rat)} {fs : List Nat} {k i : Nat} (h : i ∉ fs) : byFirsts U fs k i = 0 := by
 unfold byFirsts
 cases e : fs.idxOf? i with
 | none => rfl
 | some j => exact absurd (zK (idx_some e)) h
theorem byF_at {U : List (List Rat)} {fs : List Nat} {k x r : Nat} (h : fs.Pairwise (· < ·)) (hx : fs[r]? = some x) : byFirsts U fs k x = ent U r k := by
 unfold byFirsts
 rw [idx_get h hx]
theorem rl_free {U : List (List Rat)} {fs : List Nat} {m k : Nat} (h : RedI U fs m) (hk : k < m) : Rl U m fun i => (if i = k then 1 else 0) - byFirsts U fs k i := fun r => by
 rw [zM (g := fun i => (if i = k then ent U r i else 0) - ent U r i * byFirsts U fs k i) fun i _ => by split <;> grind, Sg_sub, Sg_delta hk, sum_firsts h fun i hi => byF_zero hi]
 cases e : fs[r]? with
 | none =>
  simp only []
  have hr : fs.length ≤ r := by rw [List.getElem?_eq_none_iff] at e; exact e
  rw [h.low r k hr hk]
  grind
 | some x =>
  simp only []
  rw [byF_at h.inc e]
  grind
end Nm
end
section
namespace Nm
open Np PySem
end Nm
end
section
namespace Nm
open Np PySem
def dotR (xs ys : List Rat) : Rat := sumR (List.zipWith (· * ·) xs ys)
theorem dotR_Sg {xs ys : List Rat} {n : Nat} (h1 : xs.length = n) (h2 : ys.length = n) : dotR xs ys = Sg n fun c => xs.getD c 0 * ys.getD c 0 := by
 unfold dotR
 rw [sumR_Sg, List.length_zipWith, h1, h2, Nat.min_self]
 refine zM fun c hc => ?_
 obtain ⟨x, hx⟩ := zQ (xs := xs) (i := c) (by omega)
 obtain ⟨y, hy⟩ := zQ (xs := ys) (i := c) (by omega)
 simp [List.getElem?_zipWith, hx, hy]
theorem le_dotR {m n : Nat} {xs ys : List Rat} (hx : ∀ x ∈ xs, Le m x) (hy : ∀ y ∈ ys, Le n y) : Le (1 + (m + n + 1) * xs.length) (dotR xs ys) := by
 have hz := le_zip (f := (· * ·)) (k := m + n) (fun a b h1 h2 => h1.mul h2) hx hy
 refine (Le.sumR hz).mono ?_
 have : (m + n + 1) * (List.zipWith (· * ·) xs ys).length ≤ (m + n + 1) * xs.length := Nat.mul_le_mul_left _ (by simp; omega)
 omega
theorem dot28_eq {S : Sto} {a b m n : Nat} {xs ys : List Rat} (ha : RowA S a xs) (hb : RowA S b ys) (hx : ∀ x ∈ xs, Le m x) (hy : ∀ y ∈ ys, Le n y) (h1 : ys.length = xs.length) (hl : (m + n + 1) * (xs.length + 1) ≤ 20000000) (hll : xs.length < 1000000) : F.k28_dot [.ref a, .ref b] S = ok (ratD (dotR xs ys)) S := by
 have h0 : (m + n + 1) ≤ (m + n + 1) * (xs.length + 1) := Nat.le_mul_of_pos_right _ (by omega)
 have hz := le_zip (f := (· * ·)) (k := m + n) (fun a b h1 h2 => h1.mul h2) hx hy
 refine W_eq ?_
 (unfold F.k28_dot; refine Np.W_fnF rfl ?_; unfold Den.k28_dot; simp_all [])
 simp_all [zip2D_ref ha hb]
 refine W_forK (pairs (xs.map ratD) (ys.map ratD)) (fun i δ S' => S' = S ∧ ∃ o1 o2, δ = [some (.ref a), some (.ref b), some (ratD (sumR ((List.zipWith (· * ·) xs ys).take i))), o1, o2]) (by rw [len_two ha]; simp [pairs]; omega) ⟨rfl, _, _, rfl⟩ (fun i δ S' h => by rw [h.1]; exact get_two ha hb i) ?_ ?_
 ·rintro i x δ S' hx' ⟨rfl, o1, o2, rfl⟩
  have hi : i < xs.length := by have := (List.getElem?_eq_some_iff.mp hx').1; simp [pairs] at this; omega
  obtain ⟨x, hxi⟩ := zQ hi
  obtain ⟨y, hyi⟩ := zQ (xs := ys) (i := i) (by omega)
  have e : (pairs (xs.map ratD) (ys.map ratD))[i]? = some (.tup [ratD x, ratD y]) := by simp [pairs, List.getElem?_zipWith, hxi, hyi]
  rw [e] at hx'
  cases hx'
  have m1 := hx x (zK hxi)
  have m2 := hy y (zK hyi)
  have hzi : (List.zipWith (· * ·) xs ys)[i]? = some (x * y) := by simp [List.getElem?_zipWith, hxi, hyi]
  have ls : sm (sumR ((List.zipWith (· * ·) xs ys).take i)) := by
   refine (Le.sumR fun x hx => hz x (List.mem_of_mem_take hx)).sm ?_
   have : (m + n + 1) * ((List.zipWith (· * ·) xs ys).take i).length ≤ (m + n + 1) * (xs.length + 1) := Nat.mul_le_mul_left _ (by simp; omega)
   omega
  simp_all [tupG2, times21_eq (m1.sm (by omega)) (m2.sm (by omega)), plus21_eq ls ((m1.mul m2).sm (by omega))]
  exact ⟨rfl, _, _, by rw [sumR_take hzi]⟩
 ·rintro δ S' ⟨rfl, o1, o2, rfl⟩
  simp_all []
  rw [show (pairs (xs.map ratD) (ys.map ratD)).length = xs.length by simp [pairs]; omega, List.take_of_length_le (by simp; omega)]
  exact ⟨rfl, trivial⟩
def placedR (row : List Rat) (fs : List Nat) (xs : List Rat) : List Rat := (fs.zip xs).foldl (fun r p => r.set p.1 p.2) row
theorem placedR_length (fs : List Nat) (xs row : List Rat) : (placedR row fs xs).length = row.length := by
 unfold placedR
 generalize fs.zip xs = ps
 induction ps generalizing row with
 | nil => rfl
 | cons p ps ih => rw [List.foldl_cons, ih, List.length_set]
theorem placed_w {S : Sto} {a f b : Nat} {row xs : List Rat} {fs : List Nat} {Q : D → Sto → Prop} (ha : RowA S a row) (hf : zH S f = some (fs.map natD)) (hb : RowA S b xs) (hlt : ∀ x ∈ fs, x < row.length) (hl : fs.length ≤ xs.length) (fin : ∀ S' c, SLe S S' → S.length ≤ c → RowA S' c (placedR row fs xs) → Q (.ref c) S') : W (F.placed [.ref a, .ref f, .ref b] S) Q := by
 (unfold F.placed; refine Np.W_fnF rfl ?_; unfold Den.placed; simp_all [])
 refine W_new (lofD_ref ha) fun S1 c l1 n1 r1 => ?_
 simp_all [zip2D_ref (l1.lst hf) (l1.lst hb)]
 have hne : c ≠ f ∧ c ≠ b := ⟨fun e => by have := lstAt_lt hf; omega, fun e => by have := lstAt_lt hb; omega⟩
 refine W_forK (pairs (fs.map natD) (xs.map ratD)) (fun i δ S' => SLe S S' ∧ RowA S' c (placedR row (fs.take i) (xs.take i)) ∧ ∃ o4 o5, δ = [some (.ref a), some (.ref f), some (.ref b), some (.ref c), o4, o5]) (by rw [len_two (l1.lst hf)]; simp [pairs]; omega)
  ⟨l1, r1, _, _, rfl⟩ (fun i δ S' h => get_two (h.1.lst hf) (h.1.lst hb) i) ?_ ?_
 ·rintro i x δ S2 hx ⟨l2, r2, o4, o5, rfl⟩
  have hi : i < fs.length := by have := (List.getElem?_eq_some_iff.mp hx).1; simp [pairs] at this; omega
  obtain ⟨k, hk⟩ := zQ hi
  obtain ⟨y, hy⟩ := zQ (xs := xs) (i := i) (by omega)
  have e : (pairs (fs.map natD) (xs.map ratD))[i]? = some (.tup [natD k, ratD y]) := by simp [pairs, List.getElem?_zipWith, hk, hy]
  rw [e] at hx
  cases hx
  simp_all [tupG2, setXG, setXK]
  refine W_setX r2 (by rw [List.length_map, placedR_length]; exact hlt k (zK hk)) fun S3 _ k3 _ r3 => ?_
  refine ⟨k3 _ l2 n1, ?_, _, _, rfl⟩
  show zH S3 c = _
  rw [r3, ← List.map_set]
  congr 2
  unfold placedR
  rw [List.take_add_one, List.take_add_one, hk, hy]
  simp only [Option.toList_some]
  rw [List.zip_append (by simp; omega), List.foldl_append]
  rfl
 ·rintro δ S2 ⟨l2, r2, o4, o5, rfl⟩
  simp_all []
  rw [show (pairs (fs.map natD) (xs.map ratD)).length = fs.length by simp [pairs]; omega, List.take_length] at r2
  have e : placedR row fs (xs.take fs.length) = placedR row fs xs := by
   unfold placedR
   congr 1
   rw [List.zip_eq_zip_take_min (l₁ := fs) (l₂ := xs), Nat.min_eq_left hl, List.take_length]
  rw [e] at r2
  exact fin S2 c l2 n1 r2
theorem placedR_out : ∀ {fs : List Nat} {xs row : List Rat} {c : Nat}, c ∉ fs → (placedR row fs xs).getD c 0 = row.getD c 0
 | [], xs, row, c, _ => by simp [placedR]
 | f :: fs, [], row, c, _ => by simp [placedR]
 | f :: fs, x :: xs, row, c, h => by
  show (placedR (row.set f x) fs xs).getD c 0 = _
  rw [placedR_out fun z => h (.tail _ z)]
  have : f ≠ c := fun z => h (z ▸ .head _)
  simp [List.getElem?_set, this]
theorem placedR_at : ∀ {fs : List Nat} {xs row : List Rat} {c j : Nat}, fs.Nodup → fs.length ≤ xs.length → c < row.length → fs[j]? = some c → (placedR row fs xs).getD c 0 = xs.getD j 0
 | [], xs, row, c, j, _, _, _, h => by simp at h
 | f :: fs, [], row, c, j, _, hl, _, _ => by simp at hl
 | f :: fs, x :: xs, row, c, 0, hn, hl, hc, h => by
  simp at h
  subst h
  show (placedR (row.set f x) fs xs).getD f 0 = _
  rw [placedR_out (List.nodup_cons.mp hn).1]
  simp [List.getElem?_set, hc]
 | f :: fs, x :: xs, row, c, j + 1, hn, hl, hc, h => by
  show (placedR (row.set f x) fs xs).getD c 0 = _
  rw [placedR_at (j := j) (List.nodup_cons.mp hn).2 (by simpa using hl) (by rw [List.length_set]; exact hc) (by simpa using h)]
  simp
def wayR (U : List (List Rat)) (fs : List Nat) (w f : Nat) : List Rat := placedR (unitRow w f) fs (U.map fun r => 0 - r.getD f 0)
theorem wayR_length (U : List (List Rat)) (fs : List Nat) (w f : Nat) : (wayR U fs w f).length = w := by unfold wayR; rw [placedR_length]; simp [unitRow]
theorem unitRow_get {w f i : Nat} (hi : i < w) : (unitRow w f).getD i 0 = if i = f then 1 else 0 := by simp [unitRow, hi]
theorem inc_nodup {fs : List Nat} (h : fs.Pairwise (· < ·)) : fs.Nodup := h.imp fun h => by omega
section
variable {U : List (List Rat)} {fs : List Nat} {w : Nat}
theorem wayR_get (hU : RedI U fs w) {f : Nat} (hf : f ∉ fs) {i : Nat} (hi : i < w) : (wayR U fs w f).getD i 0 = (if i = f then 1 else 0) - byFirsts U fs f i := by
 have hle := hU.le
 by_cases hm : i ∈ fs
 ·obtain ⟨j, hj⟩ := List.getElem?_of_mem hm
  have hjl := (List.getElem?_eq_some_iff.mp hj).1
  obtain ⟨r, hr⟩ := zQ (xs := U) (i := j) (by omega)
  unfold wayR
  rw [placedR_at (inc_nodup hU.inc) (by simpa using hle) (by simp [unitRow]; exact hi) hj, byF_at hU.inc hj, if_neg (fun z : i = f => hf (z ▸ hm)), ent_get hr]
  simp [hr]
 ·unfold wayR
  rw [placedR_out hm, unitRow_get hi, byF_zero hm]
  grind
def sharesR (w : Nat) (fs : List Nat) (xs : List Rat) : List Rat := placedR (List.replicate w 0) fs xs
theorem sharesR_length (w : Nat) (fs : List Nat) (xs : List Rat) : (sharesR w fs xs).length = w := by unfold sharesR; rw [placedR_length]; simp
theorem sharesR_sum (hU : RedI U fs w) {xs : List Rat} (hl : fs.length ≤ xs.length) (hz : ∀ k, fs.length ≤ k → xs.getD k 0 = 0) (r : Nat) : Sg w (fun c => ent U r c * (sharesR w fs xs).getD c 0) = xs.getD r 0 := by
 rw [sum_firsts hU fun i hi => by unfold sharesR; rw [placedR_out hi]; by_cases h : i < w <;> simp [h]]
 cases e : fs[r]? with
 | none => exact (hz r (by simpa using e)).symm
 | some x =>
  have hx := hU.lt x (zK e)
  show (sharesR w fs xs).getD x 0 = _
  unfold sharesR
  exact placedR_at (inc_nodup hU.inc) hl (by simpa using hx) e
end
section
variable {T : List (List Rat)} {w m b : Nat}
def papR (T : List (List Rat)) (m w : Nat) : List (List Rat) := doneR (unitR m) (redR T w).ds
theorem papR_length (T : List (List Rat)) (m w : Nat) : (papR T m w).length = m := by unfold papR; rw [doneR_length, yE]
theorem papR_wide (hl : T.length = m) (hw : Wide T w) : Wide (papR T m w) m := by
 obtain ⟨b, hb, hB⟩ := ex_tab T
 exact doneR_wide (yE m) (unitR_wide m) fun d hd => by rw [← hl]; exact (redS hw hb hB w).ok d hd
theorem papR_prod (hl : T.length = m) (hw : Wide T w) {i c : Nat} (hi : i < m) (hc : c < w) : Sg m (fun k => ent (papR T m w) i k * ent T k c) = ent (redR T w).tb i c := by
 obtain ⟨b, hb, hB⟩ := ex_tab T
 have RS := redS hw hb hB w
 have h1 : prodR (papR T m w) T w = (redR T w).tb := by
  unfold papR
  rw [prod_deeds hw (by rw [hl]; exact unitR_wide m) fun d hd => by rw [yE, ← hl]; exact RS.ok d hd]
  have := unit_prod hw
  rw [hl] at this
  rw [this, RS.tb]
 rw [← h1, prod_ent (by rw [hl]; exact papR_wide hl hw) hw (by rw [papR_length]; exact hi) hc, hl]
theorem papR_inj (hl : T.length = m) (hw : Wide T w) {y : Nat → Rat} (h : ∀ i, i < m → Sg m (fun k => ent (papR T m w) i k * y k) = 0) : ∀ i, i < m → y i = 0 := by
 obtain ⟨b, hb, hB⟩ := ex_tab T
 have RS := redS hw hb hB w
 have h1 : Rl (papR T m w) m y := fun i => by
  by_cases hi : i < m
  ·exact h i hi
  ·rw [zM (g := fun _ => 0) fun k _ => by rw [ent_none (by rw [papR_length]; omega)]; grind, Sg_zero]
 unfold papR at h1
 rw [rl_iff (unitR_wide m) fun d hd => by rw [yE, ← hl]; exact RS.ok d hd] at h1
 intro i hi
 have := h1 i
 rw [zM (g := fun k => if k = i then y k else 0) fun k hk => ?_, Sg_delta hi] at this
 ·exact this
 ·rw [unit_ent hi hk]
  split <;> grind
theorem papR_solve (hl : T.length = m) (hw : Wide T w) {s wt : Nat → Rat} (h : ∀ i, i < m → Sg w (fun c => ent (redR T w).tb i c * s c) = Sg m fun k => ent (papR T m w) i k * wt k) : ∀ i, i < m → Sg w (fun c => ent T i c * s c) = wt i := by
 have := papR_inj hl hw (y := fun k => Sg w (fun c => ent T k c * s c) - wt k) fun i hi => ?_
 ·intro i hi
  have := this i hi
  generalize Sg w (fun c => ent T i c * s c) = z at this ⊢
  grind
 ·rw [zM (g := fun k => (Sg w fun c => ent (papR T m w) i k * ent T k c * s c) - ent (papR T m w) i k * wt k) fun k _ => ?_, Sg_sub, Sg_swap, ← h i hi, zM (g := fun c => ent (redR T w).tb i c * s c) fun c hc => by rw [← papR_prod hl hw hi hc, Sg_mul]]
  ·generalize (Sg w fun c => ent (redR T w).tb i c * s c) = z
   grind
  ·rw [zM (f := fun c => ent (papR T m w) i k * ent T k c * s c) (g := fun c => ent T k c * s c * ent (papR T m w) i k) fun c _ => by grind, Sg_mul]
   grind
theorem papR_none (hl : T.length = m) (hw : Wide T w) {s : Nat → Rat} {i : Nat} (hi : i < m) : Sg m (fun k => ent (papR T m w) i k * Sg w fun c => ent T k c * s c) = Sg w fun c => ent (redR T w).tb i c * s c := by
 rw [zM (g := fun k => Sg w fun c => ent (papR T m w) i k * ent T k c * s c) fun k _ => ?_, Sg_swap]
 ·exact zM fun c hc => by rw [← papR_prod hl hw hi hc, Sg_mul]
 ·rw [zM (f := fun c => ent (papR T m w) i k * ent T k c * s c) (g := fun c => ent T k c * s c * ent (papR T m w) i k) fun c _ => by grind, Sg_mul]
  grind
end
end Nm
end
section
namespace Nm
open Np PySem
theorem W_compTD {src : Src} {g : DG} {t : DT} {e : DE} {base : DS} {k : Nat} {S0 : Sto} (vals : D → List (Option D)) {xs : List D} {zs : List (Option (List Rat))} {P : D → Prop} (hg : Tg g k vals base P) (hs : ∀ i S', SLe S0 S' → src.get S' i = some xs[i]?) (hP : ∀ x ∈ xs, P x) (hz : zs.length = xs.length)
  (step : ∀ (i : Nat) x z S', xs[i]? = some x → zs[i]? = some z → SLe S0 S' → W (t (base ++ vals x) S') fun b S2 => SLe S' S2 ∧ b = z.isSome ∧ ∀ r, z = some r → W (e (base ++ vals x) S2) fun d S3 => ∃ c, d = .ref c ∧ S2.length ≤ c ∧ SLe S2 S3 ∧ RowA S3 c r) :
  ∀ n i os S', SLe S0 S' → os.length = k → i ≤ xs.length → xs.length ≤ i + n → W (compID src g t e n i (base ++ os) S') fun ds S2 => SLe S' S2 ∧ ∃ cs : List Nat, ds = cs.map D.ref ∧ cs.length = ((zs.drop i).filterMap id).length ∧ (∀ (j b : Nat) r, cs[j]? = some b → ((zs.drop i).filterMap id)[j]? = some r → RowA S2 b r) ∧ (∀ b ∈ cs, S'.length ≤ b) ∧ cs.Pairwise (· < ·) ∧ ∀ b ∈ cs, b < S2.length
 | 0, i, os, S', hS, ho, hi, hn => by
  unfold compID
  rw [hs i S' hS, List.getElem?_eq_none (by omega), W_ok, List.drop_eq_nil_of_le (by omega)]
  exact ⟨SLe.rfl, [], rfl, rfl, fun j b r h => by simp at h, fun _ h => (by cases h), .nil, fun _ h => (by cases h)⟩
 | n + 1, i, os, S', hS, ho, hi, hn => by
  unfold compID
  rw [hs i S' hS]
  by_cases h : i < xs.length
  ·have hx : xs[i] ∈ xs := List.getElem_mem h
   have hzi : i < zs.length := by omega
   rw [List.getElem?_eq_getElem h]
   show W (bnd (g xs[i] (base ++ os) S') (compIK t e (compID src g t e n (i + 1)))) _
   obtain ⟨e1, e2⟩ := hg xs[i] os S' ho (hP _ hx)
   rw [e1, bnd_ok]
   unfold compIK
   rw [W_bnd]
   refine (step i _ zs[i] S' (List.getElem?_eq_getElem h) (List.getElem?_eq_getElem hzi) hS).mono ?_
   rintro b S2 ⟨l2, hb, he⟩
   rw [List.drop_eq_getElem_cons hzi]
   cases hz' : zs[i] with
   | some r =>
    rw [hz'] at hb he
    obtain rfl : b = true := hb
    show W (bnd (e (base ++ vals xs[i]) S2) (compK2 (compID src g t e n (i + 1)) (base ++ vals xs[i]))) _
    rw [W_bnd]
    refine (he r rfl).mono ?_
    rintro d S3 ⟨c, rfl, hc, l3, rc⟩
    unfold compK2
    rw [W_bnd]
    refine (W_compTD vals hg hs hP hz step n (i + 1) (vals xs[i]) S3 (hS.trans (l2.trans l3)) e2 h (by omega)).mono ?_
    rintro ds S4 ⟨l4, cs, rfl, hl, hr, hlo, hinc, htop⟩
    unfold consK
    rw [W_ok]
    have hl2 := l2.len
    have hc3 : c < S3.length := lstAt_lt rc
    refine ⟨l2.trans (l3.trans l4), c :: cs, rfl, by simp [hl], fun j b r' h1 h2 => ?_, fun b hb => ?_, List.pairwise_cons.mpr ⟨fun b hb => ?_, hinc⟩, fun b hb => ?_⟩
    ·cases j with
     | zero =>
      simp at h1 h2
      subst h1 h2
      exact l4.lst rc
     | succ j => exact hr j b r' (by simpa using h1) (by simpa using h2)
    ·rcases List.mem_cons.mp hb with rfl | hb
     ·omega
     ·have := hlo b hb; have := l3.len; omega
    ·have := hlo b hb; omega
    ·rcases List.mem_cons.mp hb with rfl | hb
     ·have := l4.len; omega
     ·exact htop b hb
   | none =>
    rw [hz'] at hb
    obtain rfl : b = false := hb
    show W (compID src g t e n (i + 1) (base ++ vals xs[i]) S2) _
    refine (W_compTD vals hg hs hP hz step n (i + 1) (vals xs[i]) S2 (hS.trans l2) e2 h (by omega)).mono ?_
    rintro ds S4 ⟨l4, cs, rfl, hl, hr, hlo, hinc, htop⟩
    have hl2 := l2.len
    exact ⟨l2.trans l4, cs, rfl, by simpa using hl, fun j b r' h1 h2 => hr j b r' h1 (by simpa using h2), fun b hb => by have := hlo b hb; omega, hinc, htop⟩
  ·rw [List.getElem?_eq_none (by omega)]
   show W (some (.ok [] S')) _
   rw [W_ok, List.drop_eq_nil_of_le (by omega)]
   exact ⟨SLe.rfl, [], rfl, rfl, fun j b r h => by simp at h, fun _ h => (by cases h), .nil, fun _ h => (by cases h)⟩
theorem W_compTI {it : DI} {g : DG} {t : DT} {e : DE} {base : DS} {k : Nat} {S : Sto} {Q : D → Sto → Prop} (vals : D → List (Option D)) (xs : List D) (zs : List (Option (List Rat))) (P : D → Prop) (hg : Tg g k vals base P) (hP : ∀ x ∈ xs, P x) (hz : zs.length = xs.length)
  (hit : W (it base S) fun src S' => xs.length ≤ src.len S' ∧ src.len S' ≤ 1000000 ∧ SLe S S' ∧ ∀ i S'', SLe S' S'' → src.get S'' i = some xs[i]?)
  (step : ∀ (i : Nat) x z S', xs[i]? = some x → zs[i]? = some z → SLe S S' → W (t (base ++ vals x) S') fun b S2 => SLe S' S2 ∧ b = z.isSome ∧ ∀ r, z = some r → W (e (base ++ vals x) S2) fun d S3 => ∃ c, d = .ref c ∧ S2.length ≤ c ∧ SLe S2 S3 ∧ RowA S3 c r)
  (fin : ∀ S' c cs, SLe S S' → FT S.length S' c cs (zs.filterMap id) → Q (.ref c) S') : W (compI it k g t e base S) Q := by
 obtain ⟨src, S0, e0, h1, h2, h3, h4⟩ := hit.out
 unfold compI
 rw [e0, bnd_ok]
 unfold compIL
 rw [if_pos h2, W_bnd, W_noer]
 refine (W_compTD vals hg h4 hP hz (fun i x z S' hx hz' hS => step i x z S' hx hz' (h3.trans hS)) _ 0 (List.replicate k none) S0 SLe.rfl (by simp) (Nat.zero_le _) (by omega)).mono ?_
 rintro ds S2 ⟨l2, cs, rfl, hl, hr, hlo, hinc, htop⟩
 have q1 := h3.len
 have q2 := l2.len
 exact W.intro rfl (fin _ _ cs ((h3.trans l2).push _) ⟨⟨lstAt_push S2 _, by simpa using hl, fun j b r h1 h2 => (SLe.app _).lst (hr j b r h1 (by simpa using h2))⟩, fun b hb => by have := hlo b hb; omega, hinc.imp fun h => by omega, fun b hb => by have := htop b hb; omega, by omega⟩)
theorem memT_nats' (k : Nat) : ∀ fs : List Nat, memT (.int (k : Int)) (fs.map fun (i : Nat) => Np.T.int (i : Int)) = decide (k ∈ fs)
 | [] => by simp [memT]
 | f :: fs => by
  simp only [List.map_cons, memT, memT_nats' k fs, eqT]
  by_cases h : k = f
  ·subst h; simp
  ·have : ¬ ((k : Int) = (f : Int)) := by omega
   by_cases h2 : k ∈ fs <;> simp [h, h2, this]
theorem notinD_nats {S : Sto} {a k : Nat} {fs : List Nat} (h : zH S a = some (fs.map natD)) : notinD (.int (k : Int)) (.ref a) S = ok (.bl (!decide (k ∈ fs))) S := by
 have e : rdl (rd 8 S) (fs.map natD) = some (fs.map fun (i : Nat) => Np.T.int (i : Int)) := rdl_map natD (fun i => Np.T.int (i : Int)) (fun i => rd_int 8 S i) fs
 have h8 : rd 8 S (.int (k : Int)) = some (.int (k : Int)) := rd_int 8 S k
 unfold notinD inA
 simp only [h, h8, e, memT_nats']
 simp
theorem way_w {S : Sto} {c f w k b : Nat} {cs fs : List Nat} {U : List (List Rat)} (hc : TabR S c cs U) (hf : zH S f = some (fs.map natD)) (hU : RedI U fs w) (hw : Wide U w) (hb : LeT b U) (hbs : b ≤ 20000000) (hk : k < w) (hw' : w < 1000) (hm : U.length < 1000) :
  W (F.way [.ref c, .ref f, .int (w : Int), .int (k : Int)] S) fun d S' => ∃ a, d = .ref a ∧ S.length ≤ a ∧ SLe S S' ∧ RowA S' a (wayR U fs w k) := by
 (unfold F.way; refine Np.W_fnF rfl ?_; unfold Den.way; simp_all [])
 refine W_new (unit_row_eq (show w < 1000000 by omega)) fun S1 a1 l1 n1 r1 => ?_
 refine W_compZ (base := [_, _, _, _]) _ (cs.map D.ref) ((U.map fun r => 0 - r.getD k 0).map ratD) _ (tg_one _) (fun _ _ => trivial) (by simp [hc.2.1]) ?_ ?_ fun S2 a2 l2 n2 r2 => ?_
 ·simp only [Np.itA, Np.itE, Np.yF, Np.aConsK, Np.aNil, Np.consK, Np.vr, Np.cst, List.getElem?_cons_zero, List.getElem?_cons_succ, Np.bnd_ok]
  rw [itL_ref (l1.lst hc.1), W_ok]
  exact one_src (l1.lst hc.1) (by simp [hc.2.1]; omega)
 ·intro i x z S' hx hz l
  obtain ⟨q, hq, rfl⟩ := get_map hx
  obtain ⟨y, hy, rfl⟩ := get_map hz
  rw [List.getElem?_map] at hy
  cases e : U[i]? with
  | none => rw [e] at hy; cases hy
  | some r =>
   rw [e] at hy
   cases hy
   have hr := (l1.trans l).lst (hc.2.2 i q r hq e)
   have hx : Le b (r.getD k 0) := hb r (zK e) _ (getD_mem (by rw [hw r (zK e)]; exact hk))
   rw [← ent_get e] at hx
   show W _ fun d S'' => d = ratD (0 - r.getD k 0) ∧ SLe S' S''
   rw [← ent_get (k := k) e]
   simp_all [rat0, ixD_ref hr (ent_ix hw e hk), minus_eq sm0 (hx.sm (by omega))]
   exact ⟨trivial, SLe.rfl⟩
 have hlt : ∀ x ∈ fs, x < (unitRow w k).length := fun x hx => by simp [unitRow]; exact hU.lt x hx
 refine placed_w (l2.lst r1) ((l1.trans l2).lst hf) r2 hlt (by simpa using hU.le) fun S3 a3 l3 n3 r3 => ⟨a3, rfl, by have := l1.len; have := l2.len; omega, l1.trans (l2.trans l3), r3⟩
def reachR (T : List (List Rat)) (m w : Nat) (wants : List Rat) : List Rat := (papR T m w).map fun p => dotR p wants
def waysR (T : List (List Rat)) (w : Nat) : List (List Rat) := ((List.range w).map fun f => if f ∈ (redR T w).fs then none else some (wayR (redR T w).tb (redR T w).fs w f)).filterMap id
theorem answer_w {S : Sto} {t a m w b q : Nat} {ts : List Nat} {T : List (List Rat)} {wants : List Rat} {Q : D → Sto → Prop} (ht : TabR S t ts T) (ha : RowA S a wants) (hl : T.length = m) (hwl : wants.length = m) (hw : Wide T w) (hb : 0 < b) (hT : LeT b T) (hq : ∀ x ∈ wants, Le q x) (hm : m < 90) (hw9 : w < 90) (hg : gr b w ≤ 20000000) (hB : (gr b w + q + 1) * (m + 1) ≤ 20000000)
  (hB2 : gr b w + (1 + (gr b w + q + 1) * m) ≤ 20000000)
  (fnone : ∀ S' c k, SLe S S' → S.length ≤ c → k < m → (redR T w).fs.length ≤ k → (reachR T m w wants).getD k 0 ≠ 0 → RowA S' c ((zR (papR T m w) k).map (· * (1 / (reachR T m w wants).getD k 0))) → Q (.tup [.str "none", .ref c]) S')
  (fis : ∀ S' c d ds, SLe S S' → S.length ≤ c → (∀ k, (redR T w).fs.length ≤ k → (reachR T m w wants).getD k 0 = 0) → RowA S' c (sharesR w (redR T w).fs (reachR T m w wants)) → FT S.length S' d ds (waysR T w) → Q (.tup [.str "is", .ref c, .ref d]) S') : W (F.answer [.ref t, .ref a, .int (w : Int)] S) Q := by
 have RS := redS hw hb hT w
 obtain ⟨pl1, pl2⟩ := papers_le hl hw hb hT
 have hpw := papR_wide hl hw
 have hpl := papR_length T m w
 have hrl : (reachR T m w wants).length = m := by unfold reachR; rw [List.length_map, hpl]
 (unfold F.answer; refine Np.W_fnF rfl ?_; unfold Den.answer; simp_all [])
 refine reduced_w ht hw hT hb hg (by omega) (by omega) fun S1 da c cs f l1 rda fc rf n1 n2 _ _ _ => ?_
 simp_all [tix2, tix0, lenD_ref (l1.lst ht.1), List.length_map, ht.2.1, hl]
 refine unit_w (show m < 1000000 by omega) fun S2 u us l2 fu => ?_
 refine done_w fu.tab (l2.lst rda) (fun d hd => by rw [yE, ← hl]; exact RS.ok d hd) (unitR_wide m) (by omega) (by rw [yE]; omega) (by have := RS.len; have : w * (T.length + 2) ≤ 90 * 92 := Nat.mul_le_mul (by omega) (by omega); omega) (fun i _ => pl1 i) RS.dle hg fun S3 p ps l3 fp => ?_
 have L13 := l2.trans l3
 have L03 := l1.trans L13
 refine W_compZ (base := [_, _, _, _, _, _, _, _, _, _]) _ (ps.map D.ref) ((reachR T m w wants).map ratD) _ (tg_one _) (fun _ _ => trivial) (by rw [List.length_map, List.length_map, hrl, fp.tab.2.1]; exact hpl.symm) ?_ ?_ fun S4 r l4 n4 rr => ?_
 ·simp only [Np.itA, Np.itE, Np.yF, Np.aConsK, Np.aNil, Np.consK, Np.vr, Np.cst, List.getElem?_cons_zero, List.getElem?_cons_succ, Np.bnd_ok]
  rw [itL_ref fp.tab.1, W_ok]
  exact one_src fp.tab.1 (by rw [List.length_map, fp.tab.2.1]; show (papR T m w).length ≤ _; omega)
 ·intro i x z S' hx hz l
  obtain ⟨pb, hpb, rfl⟩ := get_map hx
  obtain ⟨y, hy, rfl⟩ := get_map hz
  unfold reachR at hy
  rw [List.getElem?_map] at hy
  cases e : (papR T m w)[i]? with
  | none => rw [e] at hy; cases hy
  | some pr =>
   rw [e] at hy
   cases hy
   simp_all []
   exact (dot_w (m := gr b w) (n := q) (l.lst (fp.tab.2.2 i pb pr hpb e)) ((L03.trans l).lst ha) (pl2 pr (zK e)) hq (by rw [hpw pr (zK e)]; omega) (by rw [hpw pr (zK e)]; exact hB)).mono fun d S'' ⟨h1, h2⟩ => ⟨h2, h1⟩
 have L14 := L13.trans l4
 have L04 := l1.trans L14
 have hrle : ∀ k, Le (1 + (gr b w + q + 1) * m) ((reachR T m w wants).getD k 0) := fun k => by
  by_cases hk : k < m
  ·have : (reachR T m w wants).getD k 0 ∈ reachR T m w wants := getD_mem (by omega)
   obtain ⟨pr, hpr, e⟩ := List.mem_map.mp this
   rw [← e]
   have := le_dotR (pl2 pr hpr) hq
   rw [hpw pr hpr] at this
   exact this
  ·rw [List.getD_eq_getElem?_getD, List.getElem?_eq_none (by omega)]
   exact Le.zero (by omega)
 simp_all [lenD_ref (L14.lst rf), List.length_map, lenD_ref (L04.lst ht.1), ht.2.1, hl, rng2D_nat (show (redR T w).fs.length < 1000000 by have := RS.red.le; have := doneR_length T (redR T w).ds; rw [← RS.tb] at this; omega) (show m < 1000000 by omega)]
 have hfl : (redR T w).fs.length ≤ m := by have := RS.red.le; have := doneR_length T (redR T w).ds; rw [← RS.tb] at this; omega
 obtain ⟨r0, hr0⟩ : ∃ r0, r0 = (redR T w).fs.length := ⟨_, rfl⟩
 rw [← hr0] at hfl fnone fis ⊢
 refine W_forK ((List.range' r0 (m - r0)).map fun i => D.int (i : Nat)) (fun i δ S' => S' = S4 ∧ (∀ k, r0 ≤ k → k < r0 + i → (reachR T m w wants).getD k 0 = 0) ∧ ∃ o7 : Option D, δ = [some (.ref t), some (.ref a), some (.int (w : Int)), some (.tup [.ref da, .ref c, .ref f]), some (.ref f), some (.ref p), some (.ref r), o7, none, none]) (Nat.le_refl _)
  ⟨rfl, fun k h1 h2 => by omega, _, rfl⟩ (fun i δ S' _ => rfl) ?_ ?_
 ·rintro i x δ S' hx ⟨rfl, hz, o7, rfl⟩
  have hi : i < m - r0 := by have := (List.getElem?_eq_some_iff.mp hx).1; simpa using this
  have ex : x = .int ((r0 + i : Nat) : Int) := by
   rw [List.getElem?_map, List.getElem?_range' hi] at hx
   simpa using hx.symm
  subst ex
  obtain ⟨y, hy⟩ := zQ (xs := reachR T m w wants) (i := r0 + i) (by omega)
  have hyd : (reachR T m w wants).getD (r0 + i) 0 = y := by simp [hy]
  have hyl := hrle (r0 + i)
  rw [hyd] at hyl
  simp_all [ixD_ref rr (map_get ratD hy), rat0]
  by_cases h0 : y = 0
  ·simp_all [neD_rat, h0, loopQ]
   refine ⟨trivial, fun k h1 h2 => ?_, _, rfl⟩
   by_cases e : k = r0 + i
   ·rw [e, hyd, h0]
   ·exact hz k h1 (by omega)
  ·obtain ⟨pr, hpr⟩ := zQ (xs := papR T m w) (i := r0 + i) (by omega)
   obtain ⟨pb, hpb, rpb⟩ := fp.tab.row hpr
   have e1 : D.tup [.int 1, .int 1] = ratD 1 := rfl
   have sy : sm y := hyl.sm (by omega)
   have s1 : sm (1 : Rat) := (Le.one (n := 1) (by decide)).sm (by decide)
   have ly : Le (1 + (gr b w + q + 1) * m) (1 / y) := by
    rw [show (1 : Rat) / y = y⁻¹ by rw [Rat.div_def, Rat.one_mul]]
    exact Le.inv hyl (by omega)
   simp_all [neD_rat, h0, ixD_ref (l4.lst fp.tab.1) (map_get D.ref hpb), ixD_ref rr (map_get ratD hy), e1, over_eq s1 sy h0]
   refine W_new (scaled_eq (l4.lst rpb) (by rw [hpw pr (zK hpr)]; omega) (sm_of (pl2 pr (zK hpr)) (by omega)) (ly.sm (by omega))) fun S5 c5 l5 n5 r5 => ?_
   simp_all [loopQ]
   refine fnone S5 c5 (r0 + i) (L04.trans l5) (by have := L04.len; omega) (by omega) (by omega) (by rw [hyd]; exact h0) ?_
   rw [hyd, yB hpr]
   exact r5
 ·rintro δ S' ⟨rfl, hz, o7, rfl⟩
  rw [List.length_map, List.length_range'] at hz
  have hz' : ∀ k, r0 ≤ k → (reachR T m w wants).getD k 0 = 0 := fun k hk => by
   by_cases hkm : k < m
   ·exact hz k hk (by omega)
   ·rw [List.getD_eq_getElem?_getD, List.getElem?_eq_none (by omega)]; rfl
  simp_all []
  refine W_new (lstD_eq (by simp) _) fun S5 a5 l5 n5 r5 => ?_
  refine W_new (mulD_rep r5 (by omega)) fun S6 a6 l6 n6 r6 => ?_
  have L46 := l5.trans l6
  refine placed_w (row := List.replicate w 0) (RowA.rep r6) ((L14.trans L46).lst rf) (L46.lst rr) (fun x hx => by simpa using RS.red.lt x hx) (by omega) fun S7 c7 l7 n7 r7 => ?_
  have L47 := L46.trans l7
  have L17 := L14.trans L47
  have hUw : Wide (redR T w).tb w := by rw [RS.tb]; exact doneR_wide rfl hw RS.ok
  have hUl : (redR T w).tb.length = m := by rw [RS.tb, doneR_length, hl]
  refine W_compTI (base := [_, _, _, _, _, _, _, _, _, _]) _ ((List.range w).map natD) ((List.range w).map fun f => if f ∈ (redR T w).fs then none else some (wayR (redR T w).tb (redR T w).fs w f)) _ (tg_one _) (fun _ _ => trivial) (by simp) ?_ ?_ fun S8 d8 ds8 l8 f8 => ?_
  ·rw [it_rng1 (n := w) rfl (by omega), intsD_zero, W_ok]
   exact ⟨Nat.le_refl _, by show List.length _ ≤ _; simp; omega, SLe.rfl, fun i S'' _ => rfl⟩
  ·intro i x z S' hx hz l
   obtain ⟨rfl, hi⟩ := range_map_get hx
   obtain ⟨rfl, _⟩ := range_map_get hz
   simp_all [notinD_nats ((L17.trans l).lst rf)]
   by_cases hif : i ∈ (redR T w).fs
   ·rw [if_pos hif]
    exact ⟨SLe.rfl, by simp [hif], fun r h => by cases h⟩
   ·rw [if_neg hif]
    refine ⟨SLe.rfl, by simp [hif], fun r h => ?_⟩
    cases h
    simp_all [tix1]
    exact way_w (fc.tab.le (L17.trans l)) ((L17.trans l).lst rf) RS.red hUw RS.le hg hi (by omega) (by omega)
  ·rw [show tupD [D.str "is", D.ref c7, D.ref d8] S8 = ok (D.tup [D.str "is", D.ref c7, D.ref d8]) S8 from rfl, W_ok]
   have hn7 : S.length ≤ c7 := by have := L04.len; have := L46.len; omega
   refine fis S8 c7 d8 ds8 (L04.trans (L47.trans l8)) hn7 hz' (l8.lst r7) ⟨f8.tab, fun b hb => ?_, f8.inc, f8.ne, ?_⟩
   ·have := f8.lo b hb; have := (L04.trans L47).len; omega
   ·have := f8.nc; have := (L04.trans L47).len; omega
end Nm
end
section
namespace Nm
open Np PySem
theorem W_compGD {src : Src} {g : DG} {t : DT} {e : DE} {base : DS} {k : Nat} {S0 : Sto} (vals : D → List (Option D)) {xs : List D} {zs : List (Bool × D)} {P : D → Prop} (hg : Tg g k vals base P) (hs : ∀ i S', SLe S0 S' → src.get S' i = some xs[i]?) (hP : ∀ x ∈ xs, P x) (hz : zs.length = xs.length)
  (step : ∀ (i : Nat) x z S', xs[i]? = some x → zs[i]? = some z → SLe S0 S' → W (t (base ++ vals x) S') fun b S2 => SLe S' S2 ∧ b = z.1 ∧ (b = true → W (e (base ++ vals x) S2) fun d S3 => d = z.2 ∧ SLe S2 S3)) :
  ∀ n i os S', SLe S0 S' → os.length = k → i ≤ xs.length → xs.length ≤ i + n → W (compID src g t e n i (base ++ os) S') fun ds S2 => SLe S' S2 ∧ ds = ((zs.drop i).filter (·.1)).map (·.2)
 | 0, i, os, S', hS, ho, hi, hn => by
  unfold compID
  rw [hs i S' hS, List.getElem?_eq_none (by omega), W_ok, List.drop_eq_nil_of_le (by omega)]
  exact ⟨SLe.rfl, rfl⟩
 | n + 1, i, os, S', hS, ho, hi, hn => by
  unfold compID
  rw [hs i S' hS]
  by_cases h : i < xs.length
  ·have hx : xs[i] ∈ xs := List.getElem_mem h
   have hzi : i < zs.length := by omega
   rw [List.getElem?_eq_getElem h]
   show W (bnd (g xs[i] (base ++ os) S') (compIK t e (compID src g t e n (i + 1)))) _
   obtain ⟨e1, e2⟩ := hg xs[i] os S' ho (hP _ hx)
   rw [e1, bnd_ok]
   unfold compIK
   rw [W_bnd]
   refine (step i _ zs[i] S' (List.getElem?_eq_getElem h) (List.getElem?_eq_getElem hzi) hS).mono ?_
   rintro b S2 ⟨l2, hb, he⟩
   rw [List.drop_eq_getElem_cons hzi, List.filter_cons, ← hb]
   cases b with
   | true =>
    show W (bnd (e (base ++ vals xs[i]) S2) (compK2 (compID src g t e n (i + 1)) (base ++ vals xs[i]))) _
    rw [W_bnd]
    refine (he rfl).mono ?_
    rintro d S3 ⟨hd, l3⟩
    unfold compK2
    rw [W_bnd]
    refine (W_compGD vals hg hs hP hz step n (i + 1) (vals xs[i]) S3 (hS.trans (l2.trans l3)) e2 h (by omega)).mono ?_
    rintro ds S4 ⟨l4, hds⟩
    unfold consK
    rw [W_ok]
    exact ⟨l2.trans (l3.trans l4), by rw [hds, hd]; rfl⟩
   | false =>
    show W (compID src g t e n (i + 1) (base ++ vals xs[i]) S2) _
    refine (W_compGD vals hg hs hP hz step n (i + 1) (vals xs[i]) S2 (hS.trans l2) e2 h (by omega)).mono ?_
    rintro ds S4 ⟨l4, hds⟩
    exact ⟨l2.trans l4, hds⟩
  ·rw [List.getElem?_eq_none (by omega)]
   show W (some (.ok [] S')) _
   rw [W_ok, List.drop_eq_nil_of_le (by omega)]
   exact ⟨SLe.rfl, rfl⟩
theorem W_compG {it : DI} {g : DG} {t : DT} {e : DE} {base : DS} {k : Nat} {S : Sto} {Q : D → Sto → Prop} (vals : D → List (Option D)) (xs : List D) (zs : List (Bool × D)) (P : D → Prop) (hg : Tg g k vals base P) (hP : ∀ x ∈ xs, P x) (hz : zs.length = xs.length)
  (hit : W (it base S) fun src S' => xs.length ≤ src.len S' ∧ src.len S' ≤ 1000000 ∧ SLe S S' ∧ ∀ i S'', SLe S' S'' → src.get S'' i = some xs[i]?)
  (step : ∀ (i : Nat) x z S', xs[i]? = some x → zs[i]? = some z → SLe S S' → W (t (base ++ vals x) S') fun b S2 => SLe S' S2 ∧ b = z.1 ∧ (b = true → W (e (base ++ vals x) S2) fun d S3 => d = z.2 ∧ SLe S2 S3))
  (fin : ∀ S' b, SLe S S' → S.length ≤ b → zH S' b = some ((zs.filter (·.1)).map (·.2)) → Q (.ref b) S') : W (compI it k g t e base S) Q := by
 obtain ⟨src, S0, e0, h1, h2, h3, h4⟩ := hit.out
 unfold compI
 rw [e0, bnd_ok]
 unfold compIL
 rw [if_pos h2, W_bnd, W_noer]
 refine (W_compGD vals hg h4 hP hz (fun i x z S' hx hz' hS => step i x z S' hx hz' (h3.trans hS)) _ 0 (List.replicate k none) S0 SLe.rfl (by simp) (Nat.zero_le _) (by omega)).mono ?_
 rintro ds S2 ⟨l2, rfl⟩
 exact W.intro rfl (fin _ _ ((h3.trans l2).push _) (h3.trans l2).len (lstAt_push S2 _))
theorem allB_all28 (m : Nat) : allB (List.replicate m (.bl true)) = some true := by
 induction m with
 | zero => rfl
 | succ m ih => rw [List.replicate_succ]; unfold allB; simp [ih]
theorem answers28_w {S : Sto} {t a s m w b q : Nat} {ts : List Nat} {T : List (List Rat)} {wants sh : List Rat} (ht : TabR S t ts T) (ha : RowA S a wants) (hs : RowA S s sh) (hl : T.length = m) (hwl : wants.length = m) (hw : Wide T w) (hsl : sh.length = w) (hT : LeT b T) (hq : ∀ x ∈ sh, Le q x) (hB : (b + q + 1) * (w + 1) ≤ 20000000) (hm : m < 1000) (hw9 : w < 1000)
  (h : ∀ i, i < m → Sg w (fun c => ent T i c * sh.getD c 0) = wants.getD i 0) : W (F.k28_answers [.ref t, .ref a, .ref s] S) fun d S' => d = .bl true ∧ SLe S S' := by
 (unfold F.k28_answers; refine Np.W_fnF rfl ?_; unfold Den.k28_answers; simp_all [])
 refine W_compZ (base := [_, _, _]) _ (pairs (ts.map D.ref) (wants.map ratD)) (List.replicate m (.bl true)) _ (tg_two [_, _, _]) (fun x hx => mem_pairs hx) (by simp [pairs, ht.2.1, hl, hwl]) ?_ ?_ fun S1 c l1 n1 r1 => ?_
 ·simp only [Np.itA, Np.itE, Np.yF, Np.aConsK, Np.aNil, Np.consK, Np.vr, Np.cst, List.getElem?_cons_zero, List.getElem?_cons_succ, Np.bnd_ok]
  rw [zip2D_ref ht.1 ha, W_ok]
  refine ⟨by rw [len_two ht.1]; simp [pairs]; omega, by rw [len_two ht.1]; simp [ht.2.1]; omega, SLe.rfl, fun i S'' l => get_two (l.lst ht.1) (l.lst ha) i⟩
 ·intro i x z S' hx hz l
  have hi : i < m := by have := (List.getElem?_eq_some_iff.mp hz).1; simpa using this
  obtain rfl : D.bl true = z := by simpa [List.getElem?_replicate, hi] using hz
  obtain ⟨r, hr⟩ := zQ (xs := T) (i := i) (by omega)
  obtain ⟨rb, hrb, rrb⟩ := ht.row hr
  obtain ⟨y, hy⟩ := zQ (xs := wants) (i := i) (by omega)
  have e : (pairs (ts.map D.ref) (wants.map ratD))[i]? = some (.tup [.ref rb, ratD y]) := by simp [pairs, List.getElem?_zipWith, hrb, hy]
  rw [e] at hx
  cases hx
  have hrl : r.length = w := hw r (zK hr)
  have ed : dotR r sh = y := by
   rw [dotR_Sg hrl hsl, ← show wants.getD i 0 = y by simp [hy], ← h i hi]
   exact zM fun c _ => by rw [ent_get hr]
  simp_all [pr1, pr2, dot28_eq (m := b) (n := q) (l.lst rrb) (l.lst hs) (hT r (zK hr)) hq (by omega) (by rw [hrl]; exact hB) (by omega), ed, eqD_rat]
  exact ⟨trivial, SLe.rfl⟩
 ·simp_all [allD_ref r1 (allB_all28 m)]
  exact ⟨trivial, l1⟩
theorem neD_of28 {x y : D} {S : Sto} {b : Bool} (h : eqD x y S = ok (.bl b) S) : neD x y S = ok (.bl (!b)) S := by
 unfold neD
 unfold eqD at h
 revert h
 cases rd 9 S x <;> cases rd 9 S y <;> intro h <;> first | cases h; rfl | cases h
theorem neD_strs (x : Str) (hx : x.cps.all (· < 0x110000) = true) (S : Sto) : neD (.str x) (.str x) S = ok (.bl false) S := by
 rw [neD_of28 (eqD_str hx hx S)]
 simp
theorem none28_w {S : Sto} {t a c m w b q n : Nat} {ts : List Nat} {T : List (List Rat)} {wants ss : List Rat} (ht : TabR S t ts T) (ha : RowA S a wants) (hc : RowA S c ss) (hl : T.length = m) (hwl : wants.length = m) (hw : Wide T w) (hsl : ss.length = m) (hT : LeT b T) (hs : ∀ x ∈ ss, Le n x) (hq : ∀ x ∈ wants, Le q x) (hB : (b + n + 1) * (m + 1) ≤ 20000000) (hB2 : (n + q + 1) * (m + 1) ≤ 20000000) (hm : m < 1000) (hw9 : w < 1000)
  (h1 : ∀ c, c < w → Sg m (fun j => ent T j c * ss.getD j 0) = 0) (h2 : Sg m (fun j => ss.getD j 0 * wants.getD j 0) = 1) : W (F.k28_none [.ref t, .ref a, .int (w : Int), .tup [.str "none", .ref c]] S) fun d S' => d = .bl true := by
 (unfold F.k28_none; refine Np.W_fnF rfl ?_; unfold Den.k28_none; simp_all [])
 have e1 := neD_strs "none" (by decide +kernel)
 have er := is_row21_eq hc
 rw [hsl] at er
 have el : ∀ S, lenD [.tup [.str "none", .ref c]] S = ok (.int 2) S := fun S => rfl
 have c2 : ((2 : Nat) : Int) = 2 := rfl
 simp_all [el, c2, tix0, tix1, e1, lenD_ref ht.1, List.length_map, ht.2.1, hl, er]
 refine (mix21_w (m := b) (n := n) (k := w) ht hc hw (by omega) hT hs (by omega) (by rw [hl]; exact hB)).mono ?_
 rintro d S1 ⟨c1, rfl, n1, l1, r1⟩
 have em : mixR T ss w = List.replicate w 0 := row_ext (mixR_length hw) (by simp) fun i hi => by
  rw [mix_ent hw hi (by omega), hl, h1 i hi]
  simp [hi]
 rw [em] at r1
 refine W_new (lstD_eq (by simp) _) fun S2 a2 l2 n2 r2 => ?_
 refine W_new (mulD_rep r2 (by omega)) fun S3 a3 l3 n3 r3 => ?_
 have L3 := l1.trans (l2.trans l3)
 have ed : dotR ss wants = 1 := by rw [dotR_Sg hsl hwl]; exact h2
 simp_all [tix1, eqD_row ((l2.trans l3).lst r1) (RowA.rep r3), dot28_eq (m := n) (n := q) (L3.lst hc) (L3.lst ha) hs hq (by omega) (by rw [hsl]; exact hB2) (by omega), ed, rat1, eqD_rat]
def freeL (fs : List Nat) (w : Nat) : List Nat := (List.range w).filter fun f => !decide (f ∈ fs)
theorem filt_eq {α : Type} (fs : List Nat) (g : Nat → α) : ∀ L : List Nat, (L.map fun f => if f ∈ fs then none else some (g f)).filterMap id = (L.filter fun f => !decide (f ∈ fs)).map g
 | [] => rfl
 | f :: L => by
  rw [List.map_cons, List.filterMap_cons, List.filter_cons, filt_eq fs g L]
  by_cases h : f ∈ fs <;> simp [h]
theorem waysR_eq (T : List (List Rat)) (w : Nat) : waysR T w = (freeL (redR T w).fs w).map fun f => wayR (redR T w).tb (redR T w).fs w f := filt_eq _ _ _
theorem freeL_mem {fs : List Nat} {w f : Nat} (h : f ∈ freeL fs w) : f < w ∧ f ∉ fs := by
 have := List.mem_filter.mp h
 exact ⟨List.mem_range.mp this.1, by simpa using this.2⟩
theorem freeL_inc (fs : List Nat) (w : Nat) : (freeL fs w).Pairwise (· < ·) := List.pairwise_lt_range.filter _
theorem freeL_le (fs : List Nat) (w : Nat) : (freeL fs w).length ≤ w := by
 have := List.length_filter_le (fun f => !decide (f ∈ fs)) (List.range w)
 rw [List.length_range] at this
 exact this
section
variable {T : List (List Rat)} {w m b : Nat}
theorem way_zero (hw : Wide T w) (hb : 0 < b) (hT : LeT b T) {f : Nat} (hf : f < w) (hn : f ∉ (redR T w).fs) (i : Nat) : Sg w (fun c => ent T i c * (wayR (redR T w).tb (redR T w).fs w f).getD c 0) = 0 := by
 have RS := redS hw hb hT w
 have h1 := rl_free RS.red hf
 rw [rl_red hw] at h1
 exact (zM fun c hc => by rw [wayR_get RS.red hn hc]).trans (h1 i)
theorem way_le (hw : Wide T w) (hb : 0 < b) (hT : LeT b T) {f : Nat} (hf : f < w) : ∀ x ∈ wayR (redR T w).tb (redR T w).fs w f, Le (gr b w + 1) x := by
 have RS := redS hw hb hT w
 intro x hx
 obtain ⟨c, hc⟩ := List.getElem?_of_mem hx
 have hcl := (List.getElem?_eq_some_iff.mp hc).1
 rw [wayR_length] at hcl
 have e : (wayR (redR T w).tb (redR T w).fs w f).getD c 0 = x := by simp [hc]
 rw [← e]
 unfold wayR
 by_cases hm : c ∈ (redR T w).fs
 ·obtain ⟨j, hj⟩ := List.getElem?_of_mem hm
  have hjl := (List.getElem?_eq_some_iff.mp hj).1
  have hle := RS.red.le
  obtain ⟨r, hr⟩ := zQ (xs := (redR T w).tb) (i := j) (by omega)
  rw [placedR_at (inc_nodup RS.red.inc) (by simpa using hle) (by simp [unitRow]; exact hcl) hj]
  have e2 : ((redR T w).tb.map fun r => 0 - r.getD f 0).getD j 0 = - r.getD f 0 := by simp [hr]; grind
  rw [e2]
  have hUw : Wide (redR T w).tb w := by rw [RS.tb]; exact doneR_wide rfl hw RS.ok
  exact ((RS.le r (zK hr) _ (getD_mem (by rw [hUw r (zK hr)]; exact hf))).neg).mono (by omega)
 ·rw [placedR_out hm, unitRow_get hcl]
  split
  ·exact Le.one (by omega)
  ·exact Le.zero (by omega)
end
theorem slT3' (x y z : D) (S : Sto) : slD (.tup [x, y, z]) (some 1) none S = ok (.tup [y, z]) S := rfl
theorem is28_w {S : Sto} {t a c d m w b q n : Nat} {ts ds : List Nat} {T : List (List Rat)} {wants sh : List Rat} (ht : TabR S t ts T) (ha : RowA S a wants) (hc : RowA S c sh) (hd : TabR S d ds (waysR T w)) (hl : T.length = m) (hwl : wants.length = m) (hw : Wide T w) (hsl : sh.length = w) (hb : 0 < b) (hT : LeT b T) (hs : ∀ x ∈ sh, Le n x) (hg : gr b w ≤ 20000000) (hB : (b + n + 1) * (w + 1) ≤ 20000000) (hB2 : (b + (gr b w + 1) + 1) * (w + 1) ≤ 20000000) (hm : m < 90) (hw9 : w < 90)
  (h1 : ∀ i, i < m → Sg w (fun c => ent T i c * sh.getD c 0) = wants.getD i 0) (h2 : ∀ f, f < w → f ∉ (redR T w).fs → sh.getD f 0 = 0) : W (F.k28_is [.ref t, .ref a, .int (w : Int), .tup [.str "is", .ref c, .ref d]] S) fun d S' => d = .bl true ∧ SLe S S' := by
 have RS := redS hw hb hT w
 (unfold F.k28_is; refine Np.W_fnF rfl ?_; unfold Den.k28_is; simp_all [])
 have c3 : ((3 : Nat) : Int) = 3 := rfl
 have er := is_row21_eq hc
 rw [hsl] at er
 have el : ∀ S, lenD [.tup [.str "is", .ref c, .ref d]] S = ok (.int 3) S := fun S => rfl
 have hwy : Wide (waysR T w) w := fun r hr => by
  rw [waysR_eq] at hr
  obtain ⟨f, _, rfl⟩ := List.mem_map.mp hr
  exact wayR_length _ _ _ _
 have hwyl : (waysR T w).length = (freeL (redR T w).fs w).length := by rw [waysR_eq, List.length_map]
 have hfl := freeL_le (redR T w).fs w
 simp_all [el, c3, tix1, er, tix2, lenD_ref hd.1, List.length_map, hd.2.1]
 refine (is_table21_w hd hwy (by omega)).mono ?_
 rintro e S1 ⟨rfl, l1⟩
 simp_all [slT3', tupG2]
 refine (answers28_w (b := b) (q := n) (ht.le l1) (l1.lst ha) (l1.lst hc) hl hwl hw hsl hT hs hB (by omega) (by omega) h1).mono ?_
 rintro e S2 ⟨rfl, l2⟩
 have L2 := l1.trans l2
 simp_all []
 refine W_compZ (base := [_, _, _, _, _, _, _, _, _]) _ (ds.map D.ref) (List.replicate ds.length (.bl true)) _ (tg_one _) (fun _ _ => trivial) (by simp) ?_ ?_ fun S3 a3 l3 n3 r3 => ?_
 ·simp only [Np.itA, Np.itE, Np.yF, Np.aConsK, Np.aNil, Np.consK, Np.vr, Np.cst, List.getElem?_cons_zero, List.getElem?_cons_succ, Np.bnd_ok]
  rw [itL_ref (L2.lst hd.1), W_ok]
  exact one_src (L2.lst hd.1) (by rw [List.length_map, hd.2.1]; omega)
 ·intro i x z S' hx hz l
  obtain ⟨wb, hwb, rfl⟩ := get_map hx
  have hi : i < ds.length := (List.getElem?_eq_some_iff.mp hwb).1
  obtain rfl : D.bl true = z := by simpa [List.getElem?_replicate, hi] using hz
  obtain ⟨v, hv⟩ := zQ (xs := waysR T w) (i := i) (by rw [← hd.2.1]; exact hi)
  have L := L2.trans l
  have hv' : ∃ f, f ∈ freeL (redR T w).fs w ∧ v = wayR (redR T w).tb (redR T w).fs w f := by
   have := zK hv
   rw [waysR_eq] at this
   obtain ⟨f, hf, e⟩ := List.mem_map.mp this
   exact ⟨f, hf, e.symm⟩
  obtain ⟨f, hf, rfl⟩ := hv'
  obtain ⟨hfw, hfn⟩ := freeL_mem hf
  simp_all []
  refine W_new (lstD_eq (by simp) _) fun S4 a4 l4 n4 r4 => ?_
  simp_all [lenD_ref ((L.trans l4).lst ht.1), List.length_map, ht.2.1, hl]
  refine W_new (mulD_rep r4 (by omega)) fun S5 a5 l5 n5 r5 => ?_
  have L5 := L.trans (l4.trans l5)
  refine (answers28_w (b := b) (q := gr b w + 1) (ht.le L5) (RowA.rep r5) (L5.lst (hd.2.2 i wb _ hwb hv)) hl (by simp) hw (wayR_length _ _ _ _) hT (way_le hw hb hT hfw) hB2 (by omega) (by omega) fun i hi => ?_).mono ?_
  ·rw [way_zero hw hb hT hfw hfn]
   simp [hi]
  ·rintro e S6 ⟨rfl, l6⟩
   exact ⟨rfl, l4.trans (l5.trans l6)⟩
 simp_all [allD_ref r3 (allB_all28 _)]
 have L3 := L2.trans l3
 refine reduced_w (ht.le L3) hw hT hb hg (by omega) (by omega) fun S4 da u us f l4 rda fu rf _ _ _ _ _ => ?_
 simp_all [tix2]
 have L4 := L3.trans l4
 refine W_compG (base := [_, _, _, _, _, _, _, _, _]) _ ((List.range w).map natD) ((List.range w).map fun f => (!decide (f ∈ (redR T w).fs), natD f)) _ (tg_one _) (fun _ _ => trivial) (by simp) ?_ ?_ fun S5 a5 l5 n5 r5 => ?_
 ·rw [it_rng1 (n := w) rfl (by omega), intsD_zero, W_ok]
  exact ⟨Nat.le_refl _, by show List.length _ ≤ _; simp; omega, SLe.rfl, fun i S'' _ => rfl⟩
 ·intro i x z S' hx hz l
  obtain ⟨rfl, hi⟩ := range_map_get hx
  obtain ⟨rfl, _⟩ := range_map_get hz
  simp_all [notinD_nats (l.lst rf)]
  exact ⟨SLe.rfl, trivial, fun _ => ⟨trivial, SLe.rfl⟩⟩
 have r5' : zH S5 a5 = some ((freeL (redR T w).fs w).map natD) := by
  rw [r5, List.filter_map, List.map_map]
  rfl
 have L5 := L4.trans l5
 simp_all [lenD_ref (L5.lst hd.1), List.length_map, hd.2.1, hwyl, lenD_ref r5', rng1D_nat (show (freeL (redR T w).fs w).length < 1000000 by omega), intsD_zero]
 refine W_forK ((List.range (freeL (redR T w).fs w).length).map fun i => D.int (i : Nat)) (fun k δ S' => SLe S5 S' ∧ ∃ o8 : Option D, δ = [some (.ref t), some (.ref a), some (.int (w : Int)), some (.tup [.str "is", .ref c, .ref d]), some (.ref c), some (.ref d), some (.ref f), some (.ref a5), o8]) (Nat.le_refl _) ⟨SLe.rfl, _, rfl⟩ (fun i δ S' _ => rfl) ?_ ?_
 ·rintro k x δ S6 hx ⟨l6, o8, rfl⟩
  obtain ⟨rfl, hk⟩ := range_map_get hx
  obtain ⟨fk, hfk⟩ := zQ hk
  obtain ⟨hfkw, hfkn⟩ := freeL_mem (zK hfk)
  have L6 := L5.trans l6
  simp_all []
  refine W_compZ (base := [_, _, _, _, _, _, _, _, _]) _ (ds.map D.ref) (((waysR T w).map fun v => v.getD fk 0).map ratD) _ (tg_one _) (fun _ _ => trivial) (by simp [hd.2.1]) ?_ ?_ fun S7 a7 l7 n7 r7 => ?_
  ·simp only [Np.itA, Np.itE, Np.yF, Np.aConsK, Np.aNil, Np.consK, Np.vr, Np.cst, List.getElem?_cons_zero, List.getElem?_cons_succ, Np.bnd_ok]
   rw [itL_ref (L6.lst hd.1), W_ok]
   exact one_src (L6.lst hd.1) (by rw [List.length_map, hd.2.1]; omega)
  ·intro i x z S' hx hz l
   obtain ⟨wb, hwb, rfl⟩ := get_map hx
   obtain ⟨y, hy, rfl⟩ := get_map hz
   obtain ⟨v, hv⟩ := zQ (xs := waysR T w) (i := i) (by rw [← hd.2.1]; exact (List.getElem?_eq_some_iff.mp hwb).1)
   rw [List.getElem?_map, hv] at hy
   cases hy
   have hvl := hwy v (zK hv)
   obtain ⟨y, hy⟩ := zQ (xs := v) (i := fk) (by omega)
   simp_all [ixD_ref ((l6.trans l).lst r5') (map_get natD hfk), ixD_ref ((L6.trans l).lst (hd.2.2 i wb v hwb hv)) (map_get ratD hy)]
   exact ⟨by simp [hy], SLe.rfl⟩
  refine W_compZ (base := [_, _, _, _, _, _, _, _, _]) _ ((List.range (freeL (redR T w).fs w).length).map natD) (((List.range (freeL (redR T w).fs w).length).map fun j => if j = k then (1 : Rat) else 0).map ratD) _ (tg_one _) (fun _ _ => trivial) (by simp) ?_ ?_ fun S8 a8 l8 n8 r8 => ?_
  ·simp only [Np.itA, Np.itE, Np.yF, Np.aConsK, Np.aNil, Np.consK, Np.vr, Np.cst, List.getElem?_cons_zero, List.getElem?_cons_succ, Np.bnd_ok]
   simp_all [lenD_ref ((L6.trans l7).lst hd.1), List.length_map, hd.2.1, hwyl, rng1D_nat (show (freeL (redR T w).fs w).length < 1000000 by omega), intsD_zero]
   exact ⟨by show _ ≤ List.length _; simp, by show List.length _ ≤ _; simp; omega, SLe.rfl, fun i S'' _ => rfl⟩
  ·intro j x z S' hx hz l
   obtain ⟨rfl, hj⟩ := range_map_get hx
   obtain ⟨y, hy, rfl⟩ := get_map hz
   obtain ⟨rfl, _⟩ := range_map_get hy
   by_cases e : j = k
   ·have e' : (j : Int) = (k : Int) := by omega
    simp_all [eqD_int, e', show intD [.bl true] S' = ok (.int 1) S' from rfl, e, rat1]
    exact ⟨trivial, SLe.rfl⟩
   ·have e' : ¬ (j : Int) = (k : Int) := by omega
    simp_all [eqD_int, e', show intD [.bl false] S' = ok (.int 0) S' from rfl, e, rat0]
    exact ⟨trivial, SLe.rfl⟩
  have key : ((waysR T w).map fun v => v.getD fk 0) = (List.range (freeL (redR T w).fs w).length).map fun j => if j = k then (1 : Rat) else 0 := by
   apply List.ext_getElem?
   intro j
   rw [waysR_eq, List.map_map, List.getElem?_map, List.getElem?_map]
   by_cases hj : j < (freeL (redR T w).fs w).length
   ·obtain ⟨fj, hfj⟩ := zQ hj
    obtain ⟨hfjw, hfjn⟩ := freeL_mem (zK hfj)
    rw [hfj, List.getElem?_range hj]
    show some ((wayR (redR T w).tb (redR T w).fs w fj).getD fk 0) = some _
    rw [wayR_get RS.red hfjn hfkw, byF_zero hfkn]
    by_cases e : j = k
    ·subst e
     rw [hfj] at hfk
     cases hfk
     show some ((if fk = fk then (1 : Rat) else 0) - 0) = some (if j = j then 1 else 0)
     rw [if_pos rfl, if_pos rfl]
     congr 1
     grind
    ·have : fk ≠ fj := fun z => e (inc_inj (freeL_inc _ _) hfj (z ▸ hfk))
     show some ((if fk = fj then (1 : Rat) else 0) - 0) = some (if j = k then 1 else 0)
     rw [if_neg this, if_neg e]
     congr 1
     grind
   ·rw [List.getElem?_eq_none (by omega), List.getElem?_eq_none (by rw [List.length_range]; omega)]
    rfl
  have L8 := L6.trans (l7.trans l8)
  obtain ⟨y, hy⟩ := zQ (xs := sh) (i := fk) (by omega)
  have hy0 : y = 0 := by have := h2 fk hfkw hfkn; simpa [hy] using this
  simp_all [neD_row (l8.lst r7) r8, key, ixD_ref ((l6.trans (l7.trans l8)).lst r5') (map_get natD hfk), ixD_ref (L8.lst hc) (map_get ratD hy), rat0, neD_rat, hy0, loopQ]
  exact ⟨l6.trans (l7.trans l8), _, rfl⟩
 ·rintro δ S6 ⟨l6, o8, rfl⟩
  simp_all []
  exact ⟨trivial, L5.trans l6⟩
theorem W_if_join {A : DSt} {δ : DS} {c : Bool} {S : Sto} {K : Fl → Sto → Prop} (P : DS → Sto → Prop) (h1 : c = true → W (A δ S) fun fl S' => ∃ δ', fl = .nx δ' ∧ P δ' S') (h2 : c = false → P δ S) (k : ∀ δ' S', P δ' S' → K (.nx δ') S') : W (ifK A nxS δ c S) K := by
 cases c with
 | true =>
  show W (A δ S) K
  refine (h1 rfl).mono ?_
  rintro fl S' ⟨δ', rfl, hp⟩
  exact k δ' S' hp
 | false =>
  show W (nxS δ S) K
  unfold nxS
  rw [W_ok]
  exact k δ S (h2 rfl)
theorem W_seqS {a b : DSt} {δ : DS} {S : Sto} {Q : Fl → Sto → Prop} (h : W (a δ S) fun fl S' => W (seqK b fl S') Q) : W (seqS a b δ S) Q := by unfold seqS; rw [W_bnd]; exact h
theorem W_ifS_join {t : DT} {A : DSt} {δ : DS} {S : Sto} {K : Fl → Sto → Prop} (P : DS → Sto → Prop) (h : W (t δ S) fun c S1 => (c = true → W (A δ S1) fun fl S' => ∃ δ', fl = .nx δ' ∧ P δ' S') ∧ (c = false → P δ S1)) (k : ∀ δ' S', P δ' S' → K (.nx δ') S') : W (ifS t A nxS δ S) K := by
 unfold ifS
 rw [W_bnd]
 refine h.mono ?_
 rintro c S1 ⟨h1, h2⟩
 exact W_if_join P h1 h2 k
theorem eqD_SRT {S : Sto} {x : Str} (hx : x.cps.all (· < 0x110000) = true) {r q t u : Nat} {ts us : List Nat} {A : List (List Rat)} {xs : List Rat} (hr : RowA S r xs) (hq : RowA S q xs) (ht : TabR S t ts A) (hu : TabR S u us A) : eqD (.tup [.str x, .ref r, .ref t]) (.tup [.str x, .ref q, .ref u]) S = ok (.bl true) S := by
 have e0 : rd 8 S (.str x) = some (.str x) := by
  show (if x.cps.all (· < 0x110000) = true then some (Np.T.str x) else none) = _
  rw [if_pos hx]
 have e1 : ∀ {r t : Nat} {ts : List Nat}, RowA S r xs → TabR S t ts A → rd 9 S (.tup [.str x, .ref r, .ref t]) = some (.tup [.str x, .lst (xs.map ratT), .lst (A.map fun r => Np.T.lst (r.map ratT))]) := by
  intro r t ts hr ht
  show (rdl (rd 8 S) [.str x, .ref r, .ref t]).map Np.T.tup = _
  simp only [rdl, e0, rd_tab 5 ht, rd_row 6 hr]
  rfl
 unfold eqD
 rw [e1 hr ht, e1 hq hu]
 show ok (D.bl (eqT _ _)) S = _
 simp [eqTs, eqT, eqTs_tab, eqTs_rat]
section
variable {T : List (List Rat)} {w m b : Nat}
theorem reach_get (hl : T.length = m) (hw : Wide T w) {wants : List Rat} (hwl : wants.length = m) {k : Nat} (hk : k < m) : (reachR T m w wants).getD k 0 = Sg m fun j => ent (papR T m w) k j * wants.getD j 0 := by
 obtain ⟨pr, hpr⟩ := zQ (xs := papR T m w) (i := k) (by rw [papR_length]; exact hk)
 have e : (reachR T m w wants).getD k 0 = dotR pr wants := by unfold reachR; simp [hpr]
 rw [e, dotR_Sg (papR_wide hl hw pr (zK hpr)) hwl]
 exact zM fun j _ => by rw [ent_get hpr]
theorem shares_le {b n : Nat} {fs : List Nat} {xs : List Rat} (hn : 0 < n) (hx : ∀ k, Le n (xs.getD k 0)) (hi : fs.Pairwise (· < ·)) (hl : fs.length ≤ xs.length) (hlt : ∀ x ∈ fs, x < w) : ∀ x ∈ sharesR w fs xs, Le n x := fun x hxm => by
 obtain ⟨c, hc⟩ := List.getElem?_of_mem hxm
 have hcl := (List.getElem?_eq_some_iff.mp hc).1
 rw [sharesR_length] at hcl
 have e : (sharesR w fs xs).getD c 0 = x := by simp [hc]
 rw [← e]
 unfold sharesR
 by_cases hm : c ∈ fs
 ·obtain ⟨j, hj⟩ := List.getElem?_of_mem hm
  rw [placedR_at (inc_nodup hi) hl (by simpa using hcl) hj]
  exact hx j
 ·rw [placedR_out hm]
  simp [hcl]
  exact Le.zero hn
end
theorem mix_way {T V : List (List Rat)} {ss : List Rat} {w : Nat} (hV : Wide V w) (hl : V.length = ss.length) {i : Nat} (h : ∀ v ∈ V, Sg w (fun c => ent T i c * v.getD c 0) = 0) : Sg w (fun c => ent T i c * (mixR V ss w).getD c 0) = 0 := by
 rw [zM (g := fun c => Sg V.length fun j => ent T i c * ent V j c * ss.getD j 0) fun c hc => ?_, Sg_swap, zM (g := fun _ => 0) fun j hj => ?_, Sg_zero]
 ·obtain ⟨v, hv⟩ := zQ (xs := V) hj
  have := h v (zK hv)
  rw [Sg_mul, zM (g := fun c => ent T i c * v.getD c 0) fun c _ => by rw [ent_get hv], this]
  grind
 ·rw [mix_ent hV hc hl, zM (f := fun j => ent T i c * ent V j c * ss.getD j 0) (g := fun j => ent V j c * ss.getD j 0 * ent T i c) fun j _ => by grind, Sg_mul]
  grind
theorem k28_holds (ns : List Int) (hs : Scr ns) : W (F.k28_law [.scr (ns.map D.int)] []) fun d _ => d = .bl true := by
 (unfold F.k28_law; refine Np.W_fnF rfl ?_; unfold Den.k28_law; simp_all [])
 have hlen := hs.1
 obtain ⟨c0, _, e0⟩ := cell_at_scr ns 0 []
 obtain ⟨c1, _, e1⟩ := cell_at_scr ns 1 []
 obtain ⟨c2, _, e2⟩ := cell_at_scr ns 2 []
 have e0 : F.k11_cell_at [.scr (ns.map D.int), .int 0] [] = ok (.int c0) [] := e0
 have e1 : F.k11_cell_at [.scr (ns.map D.int), .int 1] [] = ok (.int c1) [] := e1
 have e2 : F.k11_cell_at [.scr (ns.map D.int), .int 2] [] = ok (.int c2) [] := e2
 obtain ⟨m, hm, hm6⟩ := natOf c0 (k := 6) (by decide)
 obtain ⟨w, hw, hw6⟩ := natOf c1 (k := 6) (by decide)
 obtain ⟨y, hy, hy8⟩ := natOf c2 (k := 8) (by decide)
 simp_all [e0, e1, e2, modD_int (show (6 : Int) ≠ 0 by decide), modD_int (show (8 : Int) ≠ 0 by decide), hm, hw, hy]
 refine cellsO_w hs (base := [_, _, _, _, _, _, _, _, _, _, _, _, _, _]) 3 _ (m := m) (by omega) rfl (fun i S' Q h => by simp_all [show (3 : Int) + (i : Int) = ((3 + i : Nat) : Int) by omega]; exact h) fun ms S1 a1 l1 n1 hms r1 => ?_
 simp_all [modD_int (show (2 : Int) ≠ 0 by decide)]
 refine (table12_w r1 (by omega) (n := w) (by omega)).mono ?_
 rintro d S2 ⟨t, ts, T, rfl, l2, f2, hTl, hwd, hT0⟩
 rw [hms] at hTl hT0
 have htw : tw m ≤ 190 := by
  have : ∀ k, k ≤ 5 → tw k ≤ 190 := by decide
  exact this m (by omega)
 have hT : LeT 190 T := hT0.le htw (by omega)
 obtain ⟨c2', _, e2'⟩ := cell_at_scr ns 2 S2
 have e2' : F.k11_cell_at [.scr (ns.map D.int), .int 2] S2 = ok (.int c2') S2 := e2'
 obtain ⟨v, hv⟩ := great21_eq (c2' + 1) S2
 simp_all [e2', hv]
 refine (row12_w v (k := m) (by omega) S2).mono ?_
 rintro d S3 ⟨a3, ws3, rfl, n3, l3, r3, hwl3, hws3⟩
 have hgr : gr 190 w ≤ 194901 := Nat.le_trans (gr_mono 190 (show w ≤ 5 by omega)) (by decide)
 refine W_if_join (fun δ S' => ∃ (a : Nat) (wants : List Rat) (o7 : Option D), δ = [some (.scr (ns.map D.int)), some (.int (m : Int)), some (.int (w : Int)), some (.int (y : Int)), some (.ref t), some (.int v), some (.ref a), o7, none, none, none, none, none, none] ∧ SLe S2 S' ∧ S2.length ≤ a ∧ RowA S' a wants ∧ wants.length = m ∧ (∀ x ∈ wants, Le 1106 x) ∧ (1 < y → ∃ s : Nat → Rat, ∀ i, i < m → wants.getD i 0 = Sg w fun c => ent T i c * s c)) (fun hc => ?_) (fun hc => ?_) ?_
 ·simp_all []
  refine (row12_w v (k := w) (by omega) S3).mono ?_
  rintro d S4 ⟨a4, ss, rfl, n4, l4, r4, hsl, hss⟩
  have hss' : ∀ x ∈ ss, Le 30 x := fun x hx => (hss x hx).le (by decide) (by decide)
  have L24 := l3.trans l4
  refine W_compZ (base := [_, _, _, _, _, _, _, _, _, _, _, _, _, _]) _ (ts.map D.ref) ((T.map fun r => dotR r ss).map ratD) _ (tg_one _) (fun _ _ => trivial) (by simp [f2.tab.2.1]) ?_ ?_ fun S5 a5 l5 n5 r5 => ?_
  ·simp only [Np.itA, Np.itE, Np.yF, Np.aConsK, Np.aNil, Np.consK, Np.vr, Np.cst, List.getElem?_cons_zero, List.getElem?_cons_succ, Np.bnd_ok]
   rw [itL_ref (L24.lst f2.tab.1), W_ok]
   exact one_src (L24.lst f2.tab.1) (by rw [List.length_map, f2.tab.2.1]; omega)
  ·intro i x z S' hx hz l
   obtain ⟨rb, hrb, rfl⟩ := get_map hx
   obtain ⟨q, hq, rfl⟩ := get_map hz
   rw [List.getElem?_map] at hq
   cases e : T[i]? with
   | none => rw [e] at hq; cases hq
   | some r =>
    rw [e] at hq
    cases hq
    have hrl := hwd r (zK e)
    have : (190 + 30 + 1) * (r.length + 1) ≤ 221 * 6 := Nat.mul_le_mul_left _ (by omega)
    simp_all [dot28_eq (m := 190) (n := 30) ((L24.trans l).lst (f2.tab.2.2 i rb r hrb e)) (l.lst r4) (hT r (zK e)) hss' (by omega) (by omega) (by omega)]
    exact ⟨trivial, SLe.rfl⟩
  refine ⟨_, rfl, a5, _, _, rfl, L24.trans l5, by have := L24.len; omega, r5, by simp [hTl], fun x hx => ?_, fun _ => ⟨fun c => ss.getD c 0, fun i hi => ?_⟩⟩
  ·obtain ⟨r, hr, rfl⟩ := List.mem_map.mp hx
   have hrl := hwd r hr
   refine (le_dotR (hT r hr) hss').mono ?_
   have : (190 + 30 + 1) * r.length ≤ 221 * 5 := Nat.mul_le_mul_left _ (by omega)
   omega
  ·obtain ⟨r, hr⟩ := zQ (xs := T) (i := i) (by omega)
   have : (T.map fun r => dotR r ss).getD i 0 = dotR r ss := by simp [hr]
   rw [this, dotR_Sg (hwd r (zK hr)) hsl]
   exact zM fun c _ => by rw [ent_get hr]
 ·exact ⟨a3, ws3, _, rfl, l3, n3, r3, hwl3, fun x hx => (hws3 x hx).le (by decide) (by decide), fun h => by simp at hc; omega⟩
 rintro δ S4 ⟨a4, w4, o7, rfl, l4, n4, r4, hwl4, hwb4, hsol4⟩
 rw [seqK_nx]
 refine W_seqS (W_ifS_join (fun δ S' => ∃ (wants : List Rat), δ = [some (.scr (ns.map D.int)), some (.int (m : Int)), some (.int (w : Int)), some (.int (y : Int)), some (.ref t), some (.int v), some (.ref a4), o7, none, none, none, none, none, none] ∧ SLe S2 S' ∧ RowA S' a4 wants ∧ wants.length = m ∧ (∀ x ∈ wants, Le 1200 x) ∧ (1 < y → y < 7 → ∃ s : Nat → Rat, ∀ i, i < m → wants.getD i 0 = Sg w fun c => ent T i c * s c)) ?_ ?_)
 ·have hle : ∀ x ∈ w4, Le 1200 x := fun x hx => (hwb4 x hx).mono (by decide)
  by_cases h7 : y = 7
  ·by_cases hm0 : 0 < m
   ·have hm0' : (0 : Int) < (m : Int) := by omega
    obtain ⟨j, hj, hjm⟩ := natOf v (k := (m : Int)) hm0'
    obtain ⟨x, hx⟩ := zQ (xs := w4) (i := j) (by omega)
    have s1 : sm (1 : Rat) := (Le.one (n := 1) (by decide)).sm (by decide)
    have lx := hwb4 x (zK hx)
    simp_all [h7, show ((7 : Nat) : Int) = 7 from rfl, hm0']
    refine ⟨fun _ => ?_, fun h => (by cases h)⟩
    simp_all [modD_int (show (m : Int) ≠ 0 by omega), hj, ixD_ref r4 (map_get ratD hx), rat1, plus21_eq (lx.sm (by decide)) s1, setXG, setXK]
    refine W_setX r4 (by simp; omega) fun S5 _ k5 _ r5 => ?_
    refine ⟨_, rfl, w4.set j (x + 1), rfl, k5 _ l4 n4, by show zH S5 a4 = _; rw [r5, ← List.map_set], by simp [hwl4], fun z hz => ?_, fun _ h => by omega⟩
    rcases List.mem_or_eq_of_mem_set hz with h | h
    ·exact hle z h
    ·rw [h]
     exact (lx.add (Le.one (n := 1) (by decide))).mono (by decide)
   ·have hm0' : ¬ (0 : Int) < (m : Int) := by omega
    simp_all [h7, show ((7 : Nat) : Int) = 7 from rfl, hm0']
    exact ⟨fun h => (by cases h), fun _ => ⟨w4, trivial, l4, r4, hwl4, hle, fun _ h => by omega⟩⟩
  ·have h7' : ¬ (y : Int) = 7 := by omega
   simp_all [h7']
   exact ⟨fun h => (by cases h), fun _ => ⟨w4, trivial, l4, r4, hwl4, hle, fun h _ => hsol4 h⟩⟩
 rintro δ S5 ⟨wants, rfl, l5, r5, hwl, hwb, hsol⟩
 rw [seqK_nx]
 have t5 := f2.tab.le l5
 have RS := redS hwd (b := 190) (by decide) hT w
 have hfsl : (redR T w).fs.length ≤ m := by have := RS.red.le; have := doneR_length T (redR T w).ds; rw [← RS.tb] at this; omega
 have pl := papers_le hTl hwd (b := 190) (by decide) hT
 have hG : (gr 190 w + 1200 + 1) * (m + 1) ≤ 20000000 := Nat.le_trans (Nat.mul_le_mul (show _ ≤ 196102 by omega) (show m + 1 ≤ 6 by omega)) (by decide)
 have hG2 : (gr 190 w + 1200 + 1) * m ≤ 980510 := Nat.le_trans (Nat.mul_le_mul (show _ ≤ 196102 by omega) (show m ≤ 5 by omega)) (by decide)
 have hrl : (reachR T m w wants).length = m := by unfold reachR; rw [List.length_map, papR_length]
 have hrle : ∀ k, Le 980511 ((reachR T m w wants).getD k 0) := fun k => by
  by_cases hk : k < m
  ·have : (reachR T m w wants).getD k 0 ∈ reachR T m w wants := getD_mem (by omega)
   obtain ⟨pr, hpr, e⟩ := List.mem_map.mp this
   rw [← e]
   have h := le_dotR (pl.2 pr hpr) hwb
   rw [papR_wide hTl hwd pr hpr] at h
   exact h.mono (by omega)
  ·rw [List.getD_eq_getElem?_getD, List.getElem?_eq_none (by omega)]
   exact Le.zero (by decide)
 have ei : ∀ ds S, isiD .tup (.tup ds) S = ok (.bl true) S := fun _ _ => rfl
 simp_all []
 refine copy_tab (base := [_, _, _, _, _, _, _, _, _, _, _, _, _, _]) t5 (by omega) (by simp only [Np.itA, Np.itE, Np.yF, Np.aConsK, Np.aNil, Np.consK, Np.vr, Np.cst, List.getElem?_cons_zero, List.getElem?_cons_succ, Np.bnd_ok]; exact itL_ref t5.1) (fun b S' => rfl) fun S6 h6 hs6 l6 f6 => ?_
 refine W_new (lofD_ref (l6.lst r5)) fun S7 b7 l7 n7 r7 => ?_
 refine W_new (lstD_eq (by simp) _) fun S8 a8 l8 n8 r8 => ?_
 have L58 := l6.trans (l7.trans l8)
 have ix0 : ixD (.ref a8) (.int 0) S8 = ok (.ref h6) S8 := ixD_ref (i := 0) r8 rfl
 have ix1 : ixD (.ref a8) (.int 1) S8 = ok (.ref b7) S8 := ixD_ref (i := 1) r8 rfl
 simp_all [ix0, ix1]
 refine answer_w (b := 190) (q := 1200) (f6.tab.le (l7.trans l8)) (l8.lst r7) hTl hwl hwd (by decide) hT hwb (by omega) (by omega) (by omega) hG (by omega) (fun S9 c k l9 n9 hkm hfk hne r9 => ?_) (fun S9 c d ds l9 n9 hz r9 f9 => ?_)
 ·have el : ∀ S, lenD [.tup [.str "none", .ref c]] S = ok (.int 2) S := fun S => rfl
  have c2 : ((2 : Nat) : Int) = 2 := rfl
  simp_all [ei, el, c2, show decide ((2 : Int) < 2) = false from rfl]
  refine W_new (lstD_eq (by simp) _) fun S10 a10 l10 n10 r10 => ?_
  have L9 := L58.trans l9
  have L510 := L9.trans l10
  have ne1 : neD (.ref a8) (.ref a10) S10 = ok (.bl false) S10 := by
   rw [neD_of28 (eqD_TR ((l9.trans l10).lst r8) r10 (f6.tab.le (l7.trans (l8.trans (l9.trans l10)))) (t5.le L510) ((l8.trans (l9.trans l10)).lst r7) (L510.lst r5))]
   simp
  have ne2 : ∀ S, neD (.str "none") (.str "is") S = ok (.bl true) S := fun S => by
   rw [neD_of28 (eqD_str (by decide +kernel) (by decide +kernel) S)]
   rfl
  have hy17 : ¬ (1 < y ∧ y < 7) := fun ⟨ha, hb⟩ => hne (by
   obtain ⟨s, hsolv⟩ := hsol ha hb
   rw [reach_get hTl hwd hwl hkm, zM (g := fun j => ent (papR T m w) k j * Sg w fun c => ent T j c * s c) fun j hj => by rw [hsolv j hj], papR_none hTl hwd hkm, zM (g := fun _ => 0) fun c hc => by rw [RS.red.low k c hfk hc, Rat.zero_mul], Sg_zero])
  have hnone : W (F.k28_none [.ref t, .ref a4, .int (w : Int), .tup [.str "none", .ref c]] S10) fun d S' => d = .bl true := by
   obtain ⟨ρ, hρ⟩ : ∃ ρ, ρ = 1 / (reachR T m w wants).getD k 0 := ⟨_, rfl⟩
   rw [← hρ] at r9
   have hpk : (zR (papR T m w) k).length = m := by
    obtain ⟨pr, hpr⟩ := zQ (xs := papR T m w) (i := k) (by rw [papR_length]; exact hkm)
    rw [yB hpr]; exact papR_wide hTl hwd pr (zK hpr)
   have hsj : ∀ j, j < m → ((zR (papR T m w) k).map (· * ρ)).getD j 0 = ent (papR T m w) k j * ρ := fun j hj => by
    rw [ent_row]
    obtain ⟨z, hz⟩ := zQ (xs := zR (papR T m w) k) (i := j) (by omega)
    simp [hz]
   have hsm : ∀ x ∈ (zR (papR T m w) k).map (· * ρ), Le 1175412 x := fun x hx => by
    obtain ⟨p, hp, rfl⟩ := List.mem_map.mp hx
    have h1 : Le (gr 190 w) p := by
     obtain ⟨pr, hpr⟩ := zQ (xs := papR T m w) (i := k) (by rw [papR_length]; exact hkm)
     rw [yB hpr] at hp
     exact pl.2 pr (zK hpr) p hp
    have h2 : Le 980511 ρ := by
     rw [hρ, show (1 : Rat) / (reachR T m w wants).getD k 0 = ((reachR T m w wants).getD k 0)⁻¹ by rw [Rat.div_def, Rat.one_mul]]
     exact Le.inv (hrle k) (by decide)
    exact (h1.mul h2).mono (by omega)
   have hb6 : ∀ N, N * (m + 1) ≤ N * 6 := fun N => Nat.mul_le_mul_left _ (by omega)
   refine none28_w (b := 190) (q := 1200) (n := 1175412) (t5.le L510) (L510.lst r5) (l10.lst r9) hTl hwl hwd (by simp [hpk]) hT hsm hwb (by have := hb6 (190 + 1175412 + 1); omega) (by have := hb6 (1175412 + 1200 + 1); omega) (by omega) (by omega) (fun c hc => ?_) ?_
   ·rw [zM (g := fun j => ent (papR T m w) k j * ent T j c * ρ) fun j hj => by rw [hsj j hj]; grind, Sg_mul, papR_prod hTl hwd hkm hc, RS.red.low k c hfk hc]
    grind
   ·rw [zM (g := fun j => ent (papR T m w) k j * wants.getD j 0 * ρ) fun j hj => by rw [hsj j hj]; grind, Sg_mul, ← reach_get hTl hwd hwl hkm, hρ]
    rw [Rat.div_def, Rat.one_mul, Rat.mul_inv_cancel _ hne]
  by_cases hy1 : 1 < y
  ·have h1 : (1 : Int) < (y : Int) := by omega
   have h2 : ¬ (y : Int) < 7 := by omega
   simp_all [ne1, tix0, ne2, h1, h2]
   exact hnone.mono fun d S' h => h
  ·have h1 : ¬ (1 : Int) < (y : Int) := by omega
   simp_all [ne1, tix0, ne2, h1]
   exact hnone.mono fun d S' h => h
 ·have el : ∀ S, lenD [.tup [.str "is", .ref c, .ref d]] S = ok (.int 3) S := fun S => rfl
  have c3 : ((3 : Nat) : Int) = 3 := rfl
  simp_all [ei, el, c3, show decide ((3 : Int) < 2) = false from rfl]
  refine W_new (lstD_eq (by simp) _) fun S10 a10 l10 n10 r10 => ?_
  have L9 := L58.trans l9
  have L510 := L9.trans l10
  have ne1 : neD (.ref a8) (.ref a10) S10 = ok (.bl false) S10 := by
   rw [neD_of28 (eqD_TR ((l9.trans l10).lst r8) r10 (f6.tab.le (l7.trans (l8.trans (l9.trans l10)))) (t5.le L510) ((l8.trans (l9.trans l10)).lst r7) (L510.lst r5))]
   simp
  have ne2 := neD_strs "is" (by decide +kernel)
  obtain ⟨sh, hsh⟩ : ∃ sh, sh = sharesR w (redR T w).fs (reachR T m w wants) := ⟨_, rfl⟩
  rw [← hsh] at r9
  have hshl : sh.length = w := by rw [hsh]; exact sharesR_length _ _ _
  have hshL : ∀ x ∈ sh, Le 980511 x := by rw [hsh]; exact shares_le (b := 0) (by decide) hrle RS.red.inc (by omega) RS.red.lt
  have hz' : ∀ k, (redR T w).fs.length ≤ k → (reachR T m w wants).getD k 0 = 0 := hz
  have hsolve : ∀ i, i < m → Sg w (fun c => ent T i c * sh.getD c 0) = wants.getD i 0 := papR_solve hTl hwd (s := fun c => sh.getD c 0) (wt := fun k => wants.getD k 0) fun i hi => by
   rw [hsh, sharesR_sum RS.red (by omega) hz' i, reach_get hTl hwd hwl hi]
  have hb6 : ∀ N, N * (w + 1) ≤ N * 6 := fun N => Nat.mul_le_mul_left _ (by omega)
  simp_all [ne1, tix0, ne2]
  refine (is28_w (b := 190) (n := 980511) (q := 0) (t5.le L510) (L510.lst r5) (l10.lst r9) (f9.tab.le l10) hTl hwl hwd hshl (by decide) hT hshL (by omega) (by have := hb6 (190 + 980511 + 1); omega) (by have h1 : (190 + (gr 190 w + 1) + 1) * (w + 1) ≤ 195093 * 6 := Nat.mul_le_mul (by omega) (by omega); omega) (by omega) (by omega) hsolve fun f hf hn => by rw [hsh]; unfold sharesR; rw [placedR_out hn]; simp [hf]).mono ?_
  rintro e S11 ⟨rfl, l11⟩
  have L511 := L510.trans l11
  simp_all []
  refine W_new (slD_scr _ _ _ _) fun S12 a12 l12 n12 r12 => ?_
  have L512 := L511.trans l12
  rw [show (some (3 : Int)) = some ((3 : Nat) : Int) from rfl, show (some (11 : Int)) = some ((11 : Nat) : Int) from rfl, cut_gen (by decide), ← List.map_drop, ← List.map_take] at r12
  simp_all [itL_ref r12]
  have hWw : Wide (waysR T w) w := fun r hr => by
   rw [waysR_eq] at hr
   obtain ⟨f, _, rfl⟩ := List.mem_map.mp hr
   exact wayR_length _ _ _ _
  have hWl : (waysR T w).length ≤ w := by rw [waysR_eq, List.length_map]; exact freeL_le _ _
  have hWL : LeT (gr 190 w + 1) (waysR T w) := fun r hr => by
   rw [waysR_eq] at hr
   obtain ⟨f, hf, rfl⟩ := List.mem_map.mp hr
   exact way_le hwd (by decide) hT (freeL_mem hf).1
  have hW0 : ∀ i, ∀ v ∈ waysR T w, Sg w (fun c => ent T i c * v.getD c 0) = 0 := fun i v hv => by
   rw [waysR_eq] at hv
   obtain ⟨f, hf, rfl⟩ := List.mem_map.mp hv
   exact way_zero hwd (b := 190) (by decide) hT (freeL_mem hf).1 (freeL_mem hf).2 i
  refine W_forK (((ns.drop 3).take 8).map D.int) (fun i δ S' => SLe S12 S' ∧ ∃ o10 o11 o12 : Option D, δ = [some (.scr (ns.map D.int)), some (.int (m : Int)), some (.int (w : Int)), some (.int (y : Int)), some (.ref t), some (.int v), some (.ref a4), o7, some (.ref a8), some (.tup [.str "is", .ref c, .ref d]), o10, o11, o12, none]) (by rw [len_one r12]; exact Nat.le_refl _) ⟨SLe.rfl, _, _, _, rfl⟩ (fun i δ S' h => get_one (h.1.lst r12) i) ?_ ?_
  ·rintro i x δ S13 hx ⟨l13, o10, o11, o12, rfl⟩
   obtain ⟨z, _, rfl⟩ := get_map hx
   obtain ⟨v', hv'⟩ := great21_eq z S13
   have L13 := l10.trans (l11.trans (l12.trans l13))
   have f13 := f9.tab.le L13
   simp_all [tix2, hv', lenD_ref f13.1, List.length_map, f13.2.1]
   refine (row12_w v' (k := (waysR T w).length) (by omega) S13).mono ?_
   rintro e S14 ⟨a14, ss, rfl, n14, l14, r14, hssl, hss⟩
   have hss' : ∀ x ∈ ss, Le 30 x := fun x hx => (hss x hx).le (by decide) (by decide)
   refine (mix21_w (m := gr 190 w + 1) (n := 30) (k := w) (f13.le l14) r14 hWw (by omega) hWL hss' (by omega) ?_).mono ?_
   ·have h1 : (gr 190 w + 1 + 30 + 1) * ((waysR T w).length + 1) ≤ 194933 * 6 := Nat.mul_le_mul (by omega) (by omega)
    omega
   rintro e S15 ⟨a15, rfl, n15, l15, r15⟩
   have hml : (mixR (waysR T w) ss w).length = w := mixR_length hWw
   have L15 := L13.trans (l14.trans l15)
   have hmL : ∀ x ∈ mixR (waysR T w) ss w, Le 974666 x := fun x hx => by
    have hn0 : 0 < w := by
     rcases Nat.eq_zero_or_pos w with h | h
     ·rw [List.length_eq_zero_iff.mp (hml.trans h)] at hx
      cases hx
     ·exact h
    refine (le_mix hn0 hWL hss' x hx).mono ?_
    have h1 : (gr 190 w + 1 + 30 + 1) * (waysR T w).length ≤ 194933 * 5 := Nat.mul_le_mul (by omega) (by omega)
    omega
   refine W_compZ (base := [_, _, _, _, _, _, _, _, _, _, _, _, _, _]) _ (pairs (sh.map ratD) ((mixR (waysR T w) ss w).map ratD)) ((List.zipWith (· + ·) sh (mixR (waysR T w) ss w)).map ratD) _ (tg_two [_, _, _, _, _, _, _, _, _, _, _, _, _, _]) (fun x hx => mem_pairs hx) (by simp [pairs]) ?_ ?_ fun S16 a16 l16 n16 r16 => ?_
   ·simp only [Np.itA, Np.itE, Np.yF, Np.aConsK, Np.aNil, Np.consK, Np.vr, Np.cst, List.getElem?_cons_zero, List.getElem?_cons_succ, Np.bnd_ok]
    simp_all [tix1, zip2D_ref (L15.lst r9) r15]
    refine ⟨by rw [len_two (L15.lst r9)]; simp [pairs]; omega, by rw [len_two (L15.lst r9)]; simp; omega, SLe.rfl, fun i S'' l => get_two (l.lst (L15.lst r9)) (l.lst r15) i⟩
   ·intro j x u S' hx hu l
    have hj : j < sh.length := by have := (List.getElem?_eq_some_iff.mp hx).1; simp [pairs] at this; omega
    obtain ⟨p, hp⟩ := zQ hj
    obtain ⟨q, hq⟩ := zQ (xs := mixR (waysR T w) ss w) (i := j) (by omega)
    have e1 : (pairs (sh.map ratD) ((mixR (waysR T w) ss w).map ratD))[j]? = some (.tup [ratD p, ratD q]) := by simp [pairs, List.getElem?_zipWith, hp, hq]
    rw [e1] at hx
    cases hx
    have e2 : u = ratD (p + q) := by simpa [List.getElem?_zipWith, hp, hq] using hu.symm
    subst e2
    simp_all [pr1, pr2, plus21_eq ((hshL p (zK hp)).sm (by decide)) ((hmL q (zK hq)).sm (by decide))]
    exact ⟨trivial, SLe.rfl⟩
   have L16 := L15.trans l16
   have L516 := L9.trans L16
   have hoL : ∀ x ∈ List.zipWith (· + ·) sh (mixR (waysR T w) ss w), Le 1955178 x := le_zip (f := (· + ·)) (k := 1955178) (fun a b h1 h2 => (h1.add h2).mono (by decide)) hshL hmL
   have hol : (List.zipWith (· + ·) sh (mixR (waysR T w) ss w)).length = w := by simp [hshl, hml]
   refine (answers28_w (b := 190) (q := 1955178) (t5.le L516) (L516.lst r5) r16 hTl hwl hwd hol hT hoL (by have := hb6 (190 + 1955178 + 1); omega) (by omega) (by omega) fun i hi => ?_).mono ?_
   ·rw [← hsolve i hi, zM (g := fun c => ent T i c * sh.getD c 0 + ent T i c * (mixR (waysR T w) ss w).getD c 0) fun c hc => ?_, Sg_add, mix_way hWw (by omega) (hW0 i)]
    ·grind
    ·obtain ⟨p, hp⟩ := zQ (xs := sh) (i := c) (by omega)
     obtain ⟨q, hq⟩ := zQ (xs := mixR (waysR T w) ss w) (i := c) (by omega)
     simp [List.getElem?_zipWith, hp, hq]
     grind
   ·rintro e S17 ⟨rfl, l17⟩
    simp_all [loopQ]
    exact ⟨l13.trans (l14.trans (l15.trans (l16.trans l17))), _, _, _, rfl⟩
  ·rintro δ S13 ⟨l13, o10, o11, o12, rfl⟩
   have L13 := l10.trans (l11.trans (l12.trans l13))
   have L513 := L9.trans L13
   simp_all []
   refine answer_w (b := 190) (q := 1200) (t5.le L513) (L513.lst r5) hTl hwl hwd (by decide) hT hwb (by omega) (by omega) (by omega) hG (by omega) (fun S14 c' k l14 n14 hkm hfk hne r14 => absurd (hz k hfk) hne) (fun S14 c' d' ds' l14 n14 hz2 r14 f14 => ?_)
   rw [← hsh] at r14
   simp_all [eqD_SRT (x := "is") (by decide +kernel) r14 ((L13.trans l14).lst r9) f14.tab (f9.tab.le (L13.trans l14))]
end Nm
end
section
namespace Tm
open PySem PySem.Spec PyProof.Rows L2 Np
def top (i : Nat) : Stmt := PySem.Challenge.pw_nearplane_k28_whole_answers.main.body.getD i (.Pass ⟨0, 0, 0, 0⟩)
abbrev s_is_whole : Stmt := top 7
theorem sc_is_whole : zN ["thing"] ["thing"] (zC s_is_whole) := ⟨rfl, rfl, rfl, by decide +kernel, rfl, by decide +kernel, by decide +kernel⟩
abbrev s_greatest_common : Stmt := top 9
theorem sc_greatest_common : zN ["one", "other", "larger", "smaller", "rest"] ["one", "other"] (zC s_greatest_common) := ⟨rfl, rfl, rfl, by decide +kernel, rfl, by decide +kernel, by decide +kernel⟩
abbrev s_is_ratio : Stmt := top 8
theorem sc_is_ratio : zN ["thing"] ["thing"] (zC s_is_ratio) := ⟨rfl, rfl, rfl, by decide +kernel, rfl, by decide +kernel, by decide +kernel⟩
abbrev s_ratio : Stmt := top 10
theorem sc_ratio : zN ["top", "bottom", "common"] ["top", "bottom"] (zC s_ratio) := ⟨rfl, rfl, rfl, by decide +kernel, rfl, by decide +kernel, by decide +kernel⟩
abbrev s_plus : Stmt := top 11
theorem sc_plus : zN ["one", "other"] ["one", "other"] (zC s_plus) := ⟨rfl, rfl, rfl, by decide +kernel, rfl, by decide +kernel, by decide +kernel⟩
abbrev s_minus : Stmt := top 12
theorem sc_minus : zN ["one", "other"] ["one", "other"] (zC s_minus) := ⟨rfl, rfl, rfl, by decide +kernel, rfl, by decide +kernel, by decide +kernel⟩
abbrev s_times : Stmt := top 13
theorem sc_times : zN ["one", "other"] ["one", "other"] (zC s_times) := ⟨rfl, rfl, rfl, by decide +kernel, rfl, by decide +kernel, by decide +kernel⟩
abbrev s_over : Stmt := top 14
theorem sc_over : zN ["one", "other"] ["one", "other"] (zC s_over) := ⟨rfl, rfl, rfl, by decide +kernel, rfl, by decide +kernel, by decide +kernel⟩
abbrev s_added : Stmt := top 16
theorem sc_added : zN ["one", "other"] ["one", "other"] (zC s_added) := ⟨rfl, rfl, rfl, by decide +kernel, rfl, by decide +kernel, by decide +kernel⟩
abbrev s_scaled : Stmt := top 17
theorem sc_scaled : zN ["row", "by"] ["row", "by"] (zC s_scaled) := ⟨rfl, rfl, rfl, by decide +kernel, rfl, by decide +kernel, by decide +kernel⟩
abbrev s_multiplied : Stmt := top 18
theorem sc_multiplied : zN ["one", "other"] ["one", "other"] (zC s_multiplied) := ⟨rfl, rfl, rfl, by decide +kernel, rfl, by decide +kernel, by decide +kernel⟩
abbrev s_dot : Stmt := top 19
theorem sc_dot : zN ["one", "other", "weights", "products", "told", "product"] ["one", "other", "weights"] (zC s_dot) := ⟨rfl, rfl, rfl, by decide +kernel, rfl, by decide +kernel, by decide +kernel⟩
abbrev s_is_row_number : Stmt := top 25
theorem sc_is_row_number : zN ["thing", "many"] ["thing", "many"] (zC s_is_row_number) := ⟨rfl, rfl, rfl, by decide +kernel, rfl, by decide +kernel, by decide +kernel⟩
abbrev s_are_unlike_rows : Stmt := top 26
theorem sc_are_unlike_rows : zN ["one", "other", "many"] ["one", "other", "many"] (zC s_are_unlike_rows) := ⟨rfl, rfl, rfl, by decide +kernel, rfl, by decide +kernel, by decide +kernel⟩
abbrev s_is_deed : Stmt := top 24
theorem sc_is_deed : zN ["thing", "many", "word"] ["thing", "many"] (zC s_is_deed) := ⟨rfl, rfl, rfl, by decide +kernel, rfl, by decide +kernel, by decide +kernel⟩
abbrev s_are_deeds : Stmt := top 23
theorem sc_are_deeds : zN ["thing", "many"] ["thing", "many"] (zC s_are_deeds) := ⟨rfl, rfl, rfl, by decide +kernel, rfl, by decide +kernel, by decide +kernel⟩
abbrev s_done_once : Stmt := top 22
theorem sc_done_once : zN ["table", "deed", "told", "i"] ["table", "deed"] (zC s_done_once) := ⟨rfl, rfl, rfl, by decide +kernel, rfl, by decide +kernel, by decide +kernel⟩
abbrev s_done : Stmt := top 21
theorem sc_done : zN ["table", "deeds", "told", "deed"] ["table", "deeds"] (zC s_done) := ⟨rfl, rfl, rfl, by decide +kernel, rfl, by decide +kernel, by decide +kernel⟩
abbrev s_unit_row : Stmt := top 29
theorem sc_unit_row : zN ["long", "place"] ["long", "place"] (zC s_unit_row) := ⟨rfl, rfl, rfl, by decide +kernel, rfl, by decide +kernel, by decide +kernel⟩
abbrev s_unit : Stmt := top 28
theorem sc_unit : zN ["many"] ["many"] (zC s_unit) := ⟨rfl, rfl, rfl, by decide +kernel, rfl, by decide +kernel, by decide +kernel⟩
abbrev s_row_with_thing : Stmt := top 32
theorem sc_row_with_thing : zN ["table", "start", "column", "i"] ["table", "start", "column"] (zC s_row_with_thing) := ⟨rfl, rfl, rfl, by decide +kernel, rfl, by decide +kernel, by decide +kernel⟩
abbrev s_clearing_deeds : Stmt := top 33
theorem sc_clearing_deeds : zN ["table", "place", "found", "column", "deeds", "first", "i", "row"] ["table", "place", "found", "column"] (zC s_clearing_deeds) := ⟨rfl, rfl, rfl, by decide +kernel, rfl, by decide +kernel, by decide +kernel⟩
abbrev s_reduced : Stmt := top 31
theorem sc_reduced : zN ["table", "wide", "told", "deeds", "firsts", "column", "place", "found", "steps"] ["table", "wide"] (zC s_reduced) := ⟨rfl, rfl, rfl, by decide +kernel, rfl, by decide +kernel, by decide +kernel⟩
abbrev s_placed : Stmt := top 36
theorem sc_placed : zN ["row", "columns", "things", "told", "column", "thing"] ["row", "columns", "things"] (zC s_placed) := ⟨rfl, rfl, rfl, by decide +kernel, rfl, by decide +kernel, by decide +kernel⟩
abbrev s_way : Stmt := top 35
theorem sc_way : zN ["table", "firsts", "wide", "free"] ["table", "firsts", "wide", "free"] (zC s_way) := ⟨rfl, rfl, rfl, by decide +kernel, rfl, by decide +kernel, by decide +kernel⟩
abbrev s_answer : Stmt := top 34
theorem sc_answer : zN ["table", "wants", "wide", "led", "firsts", "papers", "reached", "k", "shares", "ways"] ["table", "wants", "wide"] (zC s_answer) := ⟨rfl, rfl, rfl, by decide +kernel, rfl, by decide +kernel, by decide +kernel⟩
abbrev s__law_cell_at : Stmt := top 38
theorem sc__law_cell_at : zN ["_law_script", "_law_k"] ["_law_script", "_law_k"] (zC s__law_cell_at) := ⟨rfl, rfl, rfl, by decide +kernel, rfl, by decide +kernel, by decide +kernel⟩
abbrev s__law_great : Stmt := top 39
theorem sc__law_great : zN ["_law_cell", "_law_bound"] ["_law_cell"] (zC s__law_great) := ⟨rfl, rfl, rfl, by decide +kernel, rfl, by decide +kernel, by decide +kernel⟩
abbrev s__law_low : Stmt := top 40
theorem sc__law_low : zN ["_law_top", "_law_bottom", "_law_one", "_law_other"] ["_law_top", "_law_bottom"] (zC s__law_low) := ⟨rfl, rfl, rfl, by decide +kernel, rfl, by decide +kernel, by decide +kernel⟩
abbrev s__law_ratio : Stmt := top 41
theorem sc__law_ratio : zN ["_law_number", "_law_way", "_law_top"] ["_law_number"] (zC s__law_ratio) := ⟨rfl, rfl, rfl, by decide +kernel, rfl, by decide +kernel, by decide +kernel⟩
abbrev s__law_row : Stmt := top 42
theorem sc__law_row : zN ["_law_number", "_law_long", "_law_row_here", "_law_k", "_law_one"] ["_law_number", "_law_long"] (zC s__law_row) := ⟨rfl, rfl, rfl, by decide +kernel, rfl, by decide +kernel, by decide +kernel⟩
abbrev s__law_plus : Stmt := top 43
theorem sc__law_plus : zN ["_law_one", "_law_other"] ["_law_one", "_law_other"] (zC s__law_plus) := ⟨rfl, rfl, rfl, by decide +kernel, rfl, by decide +kernel, by decide +kernel⟩
abbrev s__law_times : Stmt := top 44
theorem sc__law_times : zN ["_law_one", "_law_other"] ["_law_one", "_law_other"] (zC s__law_times) := ⟨rfl, rfl, rfl, by decide +kernel, rfl, by decide +kernel, by decide +kernel⟩
abbrev s__law_mix : Stmt := top 45
theorem sc__law_mix : zN ["_law_rows", "_law_shares", "_law_long", "_law_found", "_law_row_here", "_law_share"] ["_law_rows", "_law_shares", "_law_long"] (zC s__law_mix) := ⟨rfl, rfl, rfl, by decide +kernel, rfl, by decide +kernel, by decide +kernel⟩
abbrev s__law_whole : Stmt := top 46
theorem sc__law_whole : zN ["_law_thing"] ["_law_thing"] (zC s__law_whole) := ⟨rfl, rfl, rfl, by decide +kernel, rfl, by decide +kernel, by decide +kernel⟩
abbrev s__law_is_row : Stmt := top 47
theorem sc__law_is_row : zN ["_law_found", "_law_long", "_law_one"] ["_law_found", "_law_long"] (zC s__law_is_row) := ⟨rfl, rfl, rfl, by decide +kernel, rfl, by decide +kernel, by decide +kernel⟩
abbrev s__law_is_table : Stmt := top 48
theorem sc__law_is_table : zN ["_law_found", "_law_many", "_law_wide"] ["_law_found", "_law_many", "_law_wide"] (zC s__law_is_table) := ⟨rfl, rfl, rfl, by decide +kernel, rfl, by decide +kernel, by decide +kernel⟩
abbrev s__law_table : Stmt := top 49
theorem sc__law_table : zN ["_law_cells", "_law_wide", "_law_mixing", "_law_table_here", "_law_k", "_law_number", "_law_row_here", "_law_shares"] ["_law_cells", "_law_wide", "_law_mixing"] (zC s__law_table) := ⟨rfl, rfl, rfl, by decide +kernel, rfl, by decide +kernel, by decide +kernel⟩
abbrev s__law_dot : Stmt := top 50
theorem sc__law_dot : zN ["_law_one", "_law_other", "_law_found", "_law_mine", "_law_its"] ["_law_one", "_law_other"] (zC s__law_dot) := ⟨rfl, rfl, rfl, by decide +kernel, rfl, by decide +kernel, by decide +kernel⟩
abbrev s__law_answers : Stmt := top 51
theorem sc__law_answers : zN ["_law_table_here", "_law_wants", "_law_shares"] ["_law_table_here", "_law_wants", "_law_shares"] (zC s__law_answers) := ⟨rfl, rfl, rfl, by decide +kernel, rfl, by decide +kernel, by decide +kernel⟩
abbrev s__law_none : Stmt := top 52
theorem sc__law_none : zN ["_law_table_here", "_law_wants", "_law_wide", "_law_found"] ["_law_table_here", "_law_wants", "_law_wide", "_law_found"] (zC s__law_none) := ⟨rfl, rfl, rfl, by decide +kernel, rfl, by decide +kernel, by decide +kernel⟩
abbrev s__law_is : Stmt := top 53
theorem sc__law_is : zN ["_law_table_here", "_law_wants", "_law_wide", "_law_found", "_law_shares", "_law_ways", "_law_firsts", "_law_free", "_law_k"] ["_law_table_here", "_law_wants", "_law_wide", "_law_found"] (zC s__law_is) := ⟨rfl, rfl, rfl, by decide +kernel, rfl, by decide +kernel, by decide +kernel⟩
abbrev s_law : Stmt := top 54
theorem sc_law : zN ["_law_script", "_law_many", "_law_wide", "_law_way", "_law_table_here", "_law_number", "_law_wants", "_law_shares", "_law_handed", "_law_found", "_law_cell", "_law_mix_here", "_law_other", "_law_again"] ["_law_script"] (zC s_law) := ⟨rfl, rfl, rfl, by decide +kernel, rfl, by decide +kernel, by decide +kernel⟩
section
variable {P : Program} {w : World} {K : PySem.W.Frag} {mg : Str → Option Value} {base : Heap}
theorem ok_is_whole (ht : P.given.tree = none) {f : Addr} {fd : FuncData} (fF : FunG K "is_whole" "is_whole" s_is_whole f fd) (m_bool : mg "bool" = none) (m_int : mg "int" = none) (m_isinstance : mg "isinstance" = none) :
  FnOk P w K mg base CX0 1 f fd ["thing"] (spF ⟨K, mg⟩ F.k02_whole) :=
 fn_N 1 1 Den.k02_whole rfl fF sc_is_whole rfl rfl fun cdv A outer s H hr =>
  (zJ (zP (pd_andV (pd_isi .int (by decide +kernel) rfl m_isinstance rfl m_int (zA 0)) (pd_oneV (pd_notV (pd_isi .bool (by decide +kernel) rfl m_isinstance rfl m_bool (zA 0)))))))
theorem ok_greatest_common (ht : P.given.tree = none) {f : Addr} {fd : FuncData} (fF : FunG K "greatest_common" "greatest_common" s_greatest_common f fd) :
  FnOk P w K mg base CX0 1 f fd ["one", "other"] (spF ⟨K, mg⟩ F.greatest_common) :=
 fn_N 5 2 Den.greatest_common rfl fF sc_greatest_common rfl rfl fun cdv A outer s H hr =>
  (zD (zS 2 sc_greatest_common.nd (zA 0)) (zD (zS 3 sc_greatest_common.nd (zA 1)) (zD (pd_while PassesOwn.never (zY (op_neX hr) od_ne (zA 3) zF (zZ _)) (zD (zS 4 sc_greatest_common.nd (pd_op op_modN od_mod (zA 2) (zA 3))) (zD (zS 2 sc_greatest_common.nd (zA 3)) (zJ (zS 3 sc_greatest_common.nd (zA 4)))))) (zJ (zP (zA 2))))))
theorem ok_is_ratio (ht : P.given.tree = none) {f : Addr} {fd : FuncData} (fF : FunG K "is_ratio" "is_ratio" s_is_ratio f fd) {f_is_whole : Addr} {d_is_whole : FuncData} (O_is_whole : FnOk P w K mg base CX0 1 f_is_whole d_is_whole ["thing"] (spF ⟨K, mg⟩ F.k02_whole)) (b_is_whole : zV K d_is_whole ["thing"] []) (k_is_whole : PySem.W.keepIn K (.ref f_is_whole) = true) (m_is_whole : mg "is_whole" = some (.ref f_is_whole)) {f_greatest_common : Addr} {d_greatest_common : FuncData} (O_greatest_common : FnOk P w K mg base CX0 1 f_greatest_common d_greatest_common ["one", "other"] (spF ⟨K, mg⟩ F.greatest_common)) (b_greatest_common : zV K d_greatest_common ["one", "other"] []) (k_greatest_common : PySem.W.keepIn K (.ref f_greatest_common) = true) (m_greatest_common : mg "greatest_common" = some (.ref f_greatest_common)) (m_abs : mg "abs" = none) (m_isinstance : mg "isinstance" = none) (m_len : mg "len" = none) (m_tuple : mg "tuple" = none) :
  FnOk P w K mg base CX0 2 f fd ["thing"] (spF ⟨K, mg⟩ F.is_ratio) :=
 fn_N 1 1 Den.is_ratio rfl fF sc_is_ratio rfl rfl fun cdv A outer s H hr =>
  (zD (pd_if (pd_wt (pd_or (pd_not (pt_valD (pd_isi .tup (by decide +kernel) rfl m_isinstance rfl m_tuple (zA 0)))) (pd_or1 (zY (op_neX hr) od_ne (yA call_lenX cd_len rfl m_len (by decide +kernel) (zB (zA 0) zE)) zF (zZ _))))) (zJ (zP pd_bl)) pds_nil) (zD (pd_if (pd_wt (pd_or (pd_not (pt_valD (pd_fn (O_is_whole.mono (by decide)) hr rfl m_is_whole k_is_whole b_is_whole zT (zB (pd_ix ix_X zU (zA 0) zF (fun _ _ => rfl)) zE)))) (pd_or1 (pd_not (pt_valD (pd_fn (O_is_whole.mono (by decide)) hr rfl m_is_whole k_is_whole b_is_whole zT (zB (pd_ix ix_X zU (zA 0) zF (fun _ _ => rfl)) zE))))))) (zJ (zP pd_bl)) pds_nil) (zJ (zP (pd_andV (pd_cmp op_ge od_ge (pd_ix ix_X zU (zA 0) zF (fun _ _ => rfl)) zF (zZ _)) (pd_oneV (pd_cmp (op_eqX hr) od_eq (pd_fn (O_greatest_common.mono (by decide)) hr rfl m_greatest_common k_greatest_common b_greatest_common zT (zB (yA call_abs cd_abs rfl m_abs (by decide +kernel) (zB (pd_ix ix_X zU (zA 0) zF (fun _ _ => rfl)) zE)) (zB (pd_ix ix_X zU (zA 0) zF (fun _ _ => rfl)) zE))) zF (zZ _))))))))
theorem ok_ratio (ht : P.given.tree = none) {f : Addr} {fd : FuncData} (fF : FunG K "ratio" "ratio" s_ratio f fd) {f_greatest_common : Addr} {d_greatest_common : FuncData} (O_greatest_common : FnOk P w K mg base CX0 1 f_greatest_common d_greatest_common ["one", "other"] (spF ⟨K, mg⟩ F.greatest_common)) (b_greatest_common : zV K d_greatest_common ["one", "other"] []) (k_greatest_common : PySem.W.keepIn K (.ref f_greatest_common) = true) (m_greatest_common : mg "greatest_common" = some (.ref f_greatest_common)) (m_abs : mg "abs" = none) :
  FnOk P w K mg base CX0 2 f fd ["top", "bottom"] (spF ⟨K, mg⟩ F.ratio) :=
 fn_N 3 2 Den.ratio rfl fF sc_ratio rfl rfl fun cdv A outer s H hr =>
  (zD (pd_if (zY (op_eqX hr) od_eq (zA 1) zF (zZ _)) (zJ pd_never) pds_nil) (zD (zS 2 sc_ratio.nd (pd_fn (O_greatest_common.mono (by decide)) hr rfl m_greatest_common k_greatest_common b_greatest_common zT (zB (yA call_abs cd_abs rfl m_abs (by decide +kernel) (zB (zA 0) zE)) (zB (yA call_abs cd_abs rfl m_abs (by decide +kernel) (zB (zA 1) zE)) zE)))) (zD (pd_if (zY op_lt od_lt (zA 1) zF (zZ _)) (zJ (zS 2 sc_ratio.nd (pd_un un_neg ud_neg (zA 2)))) pds_nil) (zJ (zP (pd_tup (zB (pd_op (op_fdivX hr ht rfl sc_ratio.gen sc_ratio.co) od_fdiv (zA 0) (zA 2)) (zB (pd_op (op_fdivX hr ht rfl sc_ratio.gen sc_ratio.co) od_fdiv (zA 1) (zA 2)) zE))))))))
theorem ok_plus (ht : P.given.tree = none) {f : Addr} {fd : FuncData} (fF : FunG K "plus" "plus" s_plus f fd) {f_ratio : Addr} {d_ratio : FuncData} (O_ratio : FnOk P w K mg base CX0 2 f_ratio d_ratio ["top", "bottom"] (spF ⟨K, mg⟩ F.ratio)) (b_ratio : zV K d_ratio ["top", "bottom"] []) (k_ratio : PySem.W.keepIn K (.ref f_ratio) = true) (m_ratio : mg "ratio" = some (.ref f_ratio)) :
  FnOk P w K mg base CX0 3 f fd ["one", "other"] (spF ⟨K, mg⟩ F.plus) :=
 fn_N 2 2 Den.plus rfl fF sc_plus rfl rfl fun cdv A outer s H hr =>
  (zJ (zP (pd_fn (O_ratio.mono (by decide)) hr rfl m_ratio k_ratio b_ratio zT (zB (pd_op op_addX od_add (pd_op op_mulX od_mul (pd_ix ix_X zU (zA 0) zF (fun _ _ => rfl)) (pd_ix ix_X zU (zA 1) zF (fun _ _ => rfl))) (pd_op op_mulX od_mul (pd_ix ix_X zU (zA 1) zF (fun _ _ => rfl)) (pd_ix ix_X zU (zA 0) zF (fun _ _ => rfl)))) (zB (pd_op op_mulX od_mul (pd_ix ix_X zU (zA 0) zF (fun _ _ => rfl)) (pd_ix ix_X zU (zA 1) zF (fun _ _ => rfl))) zE)))))
theorem ok_minus (ht : P.given.tree = none) {f : Addr} {fd : FuncData} (fF : FunG K "minus" "minus" s_minus f fd) {f_ratio : Addr} {d_ratio : FuncData} (O_ratio : FnOk P w K mg base CX0 2 f_ratio d_ratio ["top", "bottom"] (spF ⟨K, mg⟩ F.ratio)) (b_ratio : zV K d_ratio ["top", "bottom"] []) (k_ratio : PySem.W.keepIn K (.ref f_ratio) = true) (m_ratio : mg "ratio" = some (.ref f_ratio)) :
  FnOk P w K mg base CX0 3 f fd ["one", "other"] (spF ⟨K, mg⟩ F.minus) :=
 fn_N 2 2 Den.minus rfl fF sc_minus rfl rfl fun cdv A outer s H hr =>
  (zJ (zP (pd_fn (O_ratio.mono (by decide)) hr rfl m_ratio k_ratio b_ratio zT (zB (pd_op op_sub od_sub (pd_op op_mulX od_mul (pd_ix ix_X zU (zA 0) zF (fun _ _ => rfl)) (pd_ix ix_X zU (zA 1) zF (fun _ _ => rfl))) (pd_op op_mulX od_mul (pd_ix ix_X zU (zA 1) zF (fun _ _ => rfl)) (pd_ix ix_X zU (zA 0) zF (fun _ _ => rfl)))) (zB (pd_op op_mulX od_mul (pd_ix ix_X zU (zA 0) zF (fun _ _ => rfl)) (pd_ix ix_X zU (zA 1) zF (fun _ _ => rfl))) zE)))))
theorem ok_times (ht : P.given.tree = none) {f : Addr} {fd : FuncData} (fF : FunG K "times" "times" s_times f fd) {f_ratio : Addr} {d_ratio : FuncData} (O_ratio : FnOk P w K mg base CX0 2 f_ratio d_ratio ["top", "bottom"] (spF ⟨K, mg⟩ F.ratio)) (b_ratio : zV K d_ratio ["top", "bottom"] []) (k_ratio : PySem.W.keepIn K (.ref f_ratio) = true) (m_ratio : mg "ratio" = some (.ref f_ratio)) :
  FnOk P w K mg base CX0 3 f fd ["one", "other"] (spF ⟨K, mg⟩ F.times) :=
 fn_N 2 2 Den.times rfl fF sc_times rfl rfl fun cdv A outer s H hr =>
  (zJ (zP (pd_fn (O_ratio.mono (by decide)) hr rfl m_ratio k_ratio b_ratio zT (zB (pd_op op_mulX od_mul (pd_ix ix_X zU (zA 0) zF (fun _ _ => rfl)) (pd_ix ix_X zU (zA 1) zF (fun _ _ => rfl))) (zB (pd_op op_mulX od_mul (pd_ix ix_X zU (zA 0) zF (fun _ _ => rfl)) (pd_ix ix_X zU (zA 1) zF (fun _ _ => rfl))) zE)))))
theorem ok_over (ht : P.given.tree = none) {f : Addr} {fd : FuncData} (fF : FunG K "over" "over" s_over f fd) {f_ratio : Addr} {d_ratio : FuncData} (O_ratio : FnOk P w K mg base CX0 2 f_ratio d_ratio ["top", "bottom"] (spF ⟨K, mg⟩ F.ratio)) (b_ratio : zV K d_ratio ["top", "bottom"] []) (k_ratio : PySem.W.keepIn K (.ref f_ratio) = true) (m_ratio : mg "ratio" = some (.ref f_ratio)) :
  FnOk P w K mg base CX0 3 f fd ["one", "other"] (spF ⟨K, mg⟩ F.over) :=
 fn_N 2 2 Den.over rfl fF sc_over rfl rfl fun cdv A outer s H hr =>
  (zJ (zP (pd_fn (O_ratio.mono (by decide)) hr rfl m_ratio k_ratio b_ratio zT (zB (pd_op op_mulX od_mul (pd_ix ix_X zU (zA 0) zF (fun _ _ => rfl)) (pd_ix ix_X zU (zA 1) zF (fun _ _ => rfl))) (zB (pd_op op_mulX od_mul (pd_ix ix_X zU (zA 0) zF (fun _ _ => rfl)) (pd_ix ix_X zU (zA 1) zF (fun _ _ => rfl))) zE)))))
theorem ok_added (ht : P.given.tree = none) {f : Addr} {fd : FuncData} (fF : FunG K "added" "added" s_added f fd) {f_plus : Addr} {d_plus : FuncData} (O_plus : FnOk P w K mg base CX0 3 f_plus d_plus ["one", "other"] (spF ⟨K, mg⟩ F.plus)) (b_plus : zV K d_plus ["one", "other"] []) (k_plus : PySem.W.keepIn K (.ref f_plus) = true) (m_plus : mg "plus" = some (.ref f_plus)) (m_zip : mg "zip" = none) :
  FnOk P w K mg base CX0 4 f fd ["one", "other"] (spF ⟨K, mg⟩ F.added) :=
 fn_N 2 2 Den.added rfl fF sc_added rfl rfl fun cdv A outer s H hr =>
  (zJ (zP (pd_comp (N' := ["one", "other", "first", "second"]) 2 (CompOk.mk (N := ["one", "other"]) (fsc := zC s_added) (N' := ["one", "other", "first", "second"]) rfl (by decide +kernel) (by decide +kernel) (by decide +kernel) (by decide +kernel) (by decide) (by decide +kernel)) rfl (pdi_zip rfl m_zip (zA 0) (zA 1)) (fun _ _ _ _ _ => (pdg_tup rfl (zX (zL 2 (show List.Nodup (["one", "other", "first", "second"] : List Str) by decide +kernel)) (zX (zL 3 (show List.Nodup (["one", "other", "first", "second"] : List Str) by decide +kernel)) pdgs_nil)))) (fun _ _ _ _ _ => (pd_fn (O_plus.mono (by decide)) hr rfl m_plus k_plus b_plus zT (zB (zA 2) (zB (zA 3) zE)))))))
theorem ok_scaled (ht : P.given.tree = none) {f : Addr} {fd : FuncData} (fF : FunG K "scaled" "scaled" s_scaled f fd) {f_times : Addr} {d_times : FuncData} (O_times : FnOk P w K mg base CX0 3 f_times d_times ["one", "other"] (spF ⟨K, mg⟩ F.times)) (b_times : zV K d_times ["one", "other"] []) (k_times : PySem.W.keepIn K (.ref f_times) = true) (m_times : mg "times" = some (.ref f_times)) :
  FnOk P w K mg base CX0 4 f fd ["row", "by"] (spF ⟨K, mg⟩ F.scaled) :=
 fn_N 2 2 Den.scaled rfl fF sc_scaled rfl rfl fun cdv A outer s H hr =>
  (zJ (zP (pd_comp (N' := ["row", "by", "thing"]) 1 (CompOk.mk (N := ["row", "by"]) (fsc := zC s_scaled) (N' := ["row", "by", "thing"]) rfl (by decide +kernel) (by decide +kernel) (by decide +kernel) (by decide +kernel) (by decide) (by decide +kernel)) rfl (pdi_list (zA 0)) (fun _ _ _ _ _ => (zL 2 (show List.Nodup (["row", "by", "thing"] : List Str) by decide +kernel))) (fun _ _ _ _ _ => (pd_fn (O_times.mono (by decide)) hr rfl m_times k_times b_times zT (zB (zA 2) (zB (zA 1) zE)))))))
theorem ok_multiplied (ht : P.given.tree = none) {f : Addr} {fd : FuncData} (fF : FunG K "multiplied" "multiplied" s_multiplied f fd) {f_times : Addr} {d_times : FuncData} (O_times : FnOk P w K mg base CX0 3 f_times d_times ["one", "other"] (spF ⟨K, mg⟩ F.times)) (b_times : zV K d_times ["one", "other"] []) (k_times : PySem.W.keepIn K (.ref f_times) = true) (m_times : mg "times" = some (.ref f_times)) (m_zip : mg "zip" = none) :
  FnOk P w K mg base CX0 4 f fd ["one", "other"] (spF ⟨K, mg⟩ F.multiplied) :=
 fn_N 2 2 Den.multiplied rfl fF sc_multiplied rfl rfl fun cdv A outer s H hr =>
  (zJ (zP (pd_comp (N' := ["one", "other", "first", "second"]) 2 (CompOk.mk (N := ["one", "other"]) (fsc := zC s_multiplied) (N' := ["one", "other", "first", "second"]) rfl (by decide +kernel) (by decide +kernel) (by decide +kernel) (by decide +kernel) (by decide) (by decide +kernel)) rfl (pdi_zip rfl m_zip (zA 0) (zA 1)) (fun _ _ _ _ _ => (pdg_tup rfl (zX (zL 2 (show List.Nodup (["one", "other", "first", "second"] : List Str) by decide +kernel)) (zX (zL 3 (show List.Nodup (["one", "other", "first", "second"] : List Str) by decide +kernel)) pdgs_nil)))) (fun _ _ _ _ _ => (pd_fn (O_times.mono (by decide)) hr rfl m_times k_times b_times zT (zB (zA 2) (zB (zA 3) zE)))))))
theorem ok_dot (ht : P.given.tree = none) {f : Addr} {fd : FuncData} (fF : FunG K "dot" "dot" s_dot f fd) {f_multiplied : Addr} {d_multiplied : FuncData} (O_multiplied : FnOk P w K mg base CX0 4 f_multiplied d_multiplied ["one", "other"] (spF ⟨K, mg⟩ F.multiplied)) (b_multiplied : zV K d_multiplied ["one", "other"] []) (k_multiplied : PySem.W.keepIn K (.ref f_multiplied) = true) (m_multiplied : mg "multiplied" = some (.ref f_multiplied)) {f_plus : Addr} {d_plus : FuncData} (O_plus : FnOk P w K mg base CX0 3 f_plus d_plus ["one", "other"] (spF ⟨K, mg⟩ F.plus)) (b_plus : zV K d_plus ["one", "other"] []) (k_plus : PySem.W.keepIn K (.ref f_plus) = true) (m_plus : mg "plus" = some (.ref f_plus)) (hC_NOUGHT : CstAt K mg "NOUGHT" (.tup [(.int 0), (.int 1)])) :
  FnOk P w K mg base CX0 5 f fd ["one", "other", "weights"] (spF ⟨K, mg⟩ F.dot) :=
 fn_N 6 3 Den.dot rfl fF sc_dot rfl rfl fun cdv A outer s H hr =>
  (zD (zS 3 sc_dot.nd (pd_fn (O_multiplied.mono (by decide)) hr rfl m_multiplied k_multiplied b_multiplied zT (zB (zA 0) (zB (zA 1) zE)))) (zD (pd_if (zY op_notN od_isNN (zA 2) pd_non (zZ _)) (zJ (zS 3 sc_dot.nd (pd_fn (O_multiplied.mono (by decide)) hr rfl m_multiplied k_multiplied b_multiplied zT (zB (zA 3) (zB (zA 2) zE))))) pds_nil) (zD (zS 4 sc_dot.nd (pd_C rfl hC_NOUGHT)) (zD (pd_for PassesOwn.never rfl (pdi_list (zA 3)) (zL 5 sc_dot.nd) (zJ (zS 4 sc_dot.nd (pd_fn (O_plus.mono (by decide)) hr rfl m_plus k_plus b_plus zT (zB (zA 4) (zB (zA 5) zE)))))) (zJ (zP (zA 4)))))))
theorem ok_is_row_number (ht : P.given.tree = none) {f : Addr} {fd : FuncData} (fF : FunG K "is_row_number" "is_row_number" s_is_row_number f fd) {f_is_whole : Addr} {d_is_whole : FuncData} (O_is_whole : FnOk P w K mg base CX0 1 f_is_whole d_is_whole ["thing"] (spF ⟨K, mg⟩ F.k02_whole)) (b_is_whole : zV K d_is_whole ["thing"] []) (k_is_whole : PySem.W.keepIn K (.ref f_is_whole) = true) (m_is_whole : mg "is_whole" = some (.ref f_is_whole)) :
  FnOk P w K mg base CX0 2 f fd ["thing", "many"] (spF ⟨K, mg⟩ F.is_row_number) :=
 fn_N 2 2 Den.is_row_number rfl fF sc_is_row_number rfl rfl fun cdv A outer s H hr =>
  (zJ (zP (pd_andV (pd_fn (O_is_whole.mono (by decide)) hr rfl m_is_whole k_is_whole b_is_whole zT (zB (zA 0) zE)) (pd_oneV (pd_chain op_le od_le op_lt od_lt zF (zA 0) (zA 1))))))
theorem ok_are_unlike_rows (ht : P.given.tree = none) {f : Addr} {fd : FuncData} (fF : FunG K "are_unlike_rows" "are_unlike_rows" s_are_unlike_rows f fd) {f_is_row_number : Addr} {d_is_row_number : FuncData} (O_is_row_number : FnOk P w K mg base CX0 2 f_is_row_number d_is_row_number ["thing", "many"] (spF ⟨K, mg⟩ F.is_row_number)) (b_is_row_number : zV K d_is_row_number ["thing", "many"] []) (k_is_row_number : PySem.W.keepIn K (.ref f_is_row_number) = true) (m_is_row_number : mg "is_row_number" = some (.ref f_is_row_number)) :
  FnOk P w K mg base CX0 3 f fd ["one", "other", "many"] (spF ⟨K, mg⟩ F.are_unlike_rows) :=
 fn_N 3 3 Den.are_unlike_rows rfl fF sc_are_unlike_rows rfl rfl fun cdv A outer s H hr =>
  (zJ (zP (pd_andV (pd_fn (O_is_row_number.mono (by decide)) hr rfl m_is_row_number k_is_row_number b_is_row_number zT (zB (zA 0) (zB (zA 2) zE))) (pd_andV (pd_fn (O_is_row_number.mono (by decide)) hr rfl m_is_row_number k_is_row_number b_is_row_number zT (zB (zA 1) (zB (zA 2) zE))) (pd_oneV (pd_cmp (op_neX hr) od_ne (zA 0) (zA 1) (zZ _)))))))
theorem ok_is_deed (ht : P.given.tree = none) {f : Addr} {fd : FuncData} (fF : FunG K "is_deed" "is_deed" s_is_deed f fd) {f_are_unlike_rows : Addr} {d_are_unlike_rows : FuncData} (O_are_unlike_rows : FnOk P w K mg base CX0 3 f_are_unlike_rows d_are_unlike_rows ["one", "other", "many"] (spF ⟨K, mg⟩ F.are_unlike_rows)) (b_are_unlike_rows : zV K d_are_unlike_rows ["one", "other", "many"] []) (k_are_unlike_rows : PySem.W.keepIn K (.ref f_are_unlike_rows) = true) (m_are_unlike_rows : mg "are_unlike_rows" = some (.ref f_are_unlike_rows)) {f_is_row_number : Addr} {d_is_row_number : FuncData} (O_is_row_number : FnOk P w K mg base CX0 2 f_is_row_number d_is_row_number ["thing", "many"] (spF ⟨K, mg⟩ F.is_row_number)) (b_is_row_number : zV K d_is_row_number ["thing", "many"] []) (k_is_row_number : PySem.W.keepIn K (.ref f_is_row_number) = true) (m_is_row_number : mg "is_row_number" = some (.ref f_is_row_number)) {f_is_ratio : Addr} {d_is_ratio : FuncData} (O_is_ratio : FnOk P w K mg base CX0 2 f_is_ratio d_is_ratio ["thing"] (spF ⟨K, mg⟩ F.is_ratio)) (b_is_ratio : zV K d_is_ratio ["thing"] []) (k_is_ratio : PySem.W.keepIn K (.ref f_is_ratio) = true) (m_is_ratio : mg "is_ratio" = some (.ref f_is_ratio)) (m_isinstance : mg "isinstance" = none) (m_len : mg "len" = none) (m_str : mg "str" = none) (m_tuple : mg "tuple" = none) (hC_NOUGHT : CstAt K mg "NOUGHT" (.tup [(.int 0), (.int 1)])) :
  FnOk P w K mg base CX0 4 f fd ["thing", "many"] (spF ⟨K, mg⟩ F.is_deed) :=
 fn_N 3 2 Den.is_deed rfl fF sc_is_deed rfl rfl fun cdv A outer s H hr =>
  (zD (pd_if (pd_wt (pd_or (pd_not (pt_valD (pd_isi .tup (by decide +kernel) rfl m_isinstance rfl m_tuple (zA 0)))) (pd_or1 (zY (op_eqX hr) od_eq (yA call_lenX cd_len rfl m_len (by decide +kernel) (zB (zA 0) zE)) zF (zZ _))))) (zJ (zP pd_bl)) pds_nil) (zD (zS 2 sc_is_deed.nd (pd_ix ix_X zU (zA 0) zF (fun _ _ => rfl))) (zD (pd_if (pd_not (pt_valD (pd_isi .str (by decide +kernel) rfl m_isinstance rfl m_str (zA 2)))) (zJ (zP pd_bl)) pds_nil) (zD (pd_if (zY (op_eqX hr) od_eq (zA 2) pd_str (zZ _)) (zJ (zP (pd_andV (pd_cmp (op_eqX hr) od_eq (yA call_lenX cd_len rfl m_len (by decide +kernel) (zB (zA 0) zE)) zF (zZ _)) (pd_oneV (pd_fn (O_are_unlike_rows.mono (by decide)) hr rfl m_are_unlike_rows k_are_unlike_rows b_are_unlike_rows zT (zB (pd_ix ix_X zU (zA 0) zF (fun _ _ => rfl)) (zB (pd_ix ix_X zU (zA 0) zF (fun _ _ => rfl)) (zB (zA 1) zE)))))))) pds_nil) (zD (pd_if (zY (op_eqX hr) od_eq (zA 2) pd_str (zZ _)) (zJ (zP (pd_andV (pd_cmp (op_eqX hr) od_eq (yA call_lenX cd_len rfl m_len (by decide +kernel) (zB (zA 0) zE)) zF (zZ _)) (pd_andV (pd_fn (O_is_row_number.mono (by decide)) hr rfl m_is_row_number k_is_row_number b_is_row_number zT (zB (pd_ix ix_X zU (zA 0) zF (fun _ _ => rfl)) (zB (zA 1) zE))) (pd_andV (pd_fn (O_is_ratio.mono (by decide)) hr rfl m_is_ratio k_is_ratio b_is_ratio zT (zB (pd_ix ix_X zU (zA 0) zF (fun _ _ => rfl)) zE)) (pd_oneV (pd_cmp (op_neX hr) od_ne (pd_ix ix_X zU (zA 0) zF (fun _ _ => rfl)) (pd_C rfl hC_NOUGHT) (zZ _)))))))) pds_nil) (zD (pd_if (zY (op_eqX hr) od_eq (zA 2) pd_str (zZ _)) (zJ (zP (pd_andV (pd_cmp (op_eqX hr) od_eq (yA call_lenX cd_len rfl m_len (by decide +kernel) (zB (zA 0) zE)) zF (zZ _)) (pd_andV (pd_fn (O_are_unlike_rows.mono (by decide)) hr rfl m_are_unlike_rows k_are_unlike_rows b_are_unlike_rows zT (zB (pd_ix ix_X zU (zA 0) zF (fun _ _ => rfl)) (zB (pd_ix ix_X zU (zA 0) zF (fun _ _ => rfl)) (zB (zA 1) zE)))) (pd_oneV (pd_fn (O_is_ratio.mono (by decide)) hr rfl m_is_ratio k_is_ratio b_is_ratio zT (zB (pd_ix ix_X zU (zA 0) zF (fun _ _ => rfl)) zE))))))) pds_nil) (zJ (zP pd_bl))))))))
theorem ok_are_deeds (ht : P.given.tree = none) {f : Addr} {fd : FuncData} (fF : FunG K "are_deeds" "are_deeds" s_are_deeds f fd) {f_is_deed : Addr} {d_is_deed : FuncData} (O_is_deed : FnOk P w K mg base CX0 4 f_is_deed d_is_deed ["thing", "many"] (spF ⟨K, mg⟩ F.is_deed)) (b_is_deed : zV K d_is_deed ["thing", "many"] []) (k_is_deed : PySem.W.keepIn K (.ref f_is_deed) = true) (m_is_deed : mg "is_deed" = some (.ref f_is_deed)) (m_all : mg "all" = none) (m_isinstance : mg "isinstance" = none) (m_list : mg "list" = none) :
  FnOk P w K mg base CX0 5 f fd ["thing", "many"] (spF ⟨K, mg⟩ F.are_deeds) :=
 fn_N 2 2 Den.are_deeds rfl fF sc_are_deeds rfl rfl fun cdv A outer s H hr =>
  (zD (pd_if (pd_not (pt_valD (pd_isi .lst (by decide +kernel) rfl m_isinstance rfl m_list (zA 0)))) (zJ (zP pd_bl)) pds_nil) (zJ (zP (yA (call_allX rfl) cd_all rfl m_all (by decide +kernel) (zB (pd_comp (N' := ["thing", "many", "one"]) 1 (CompOk.mk (N := ["thing", "many"]) (fsc := zC s_are_deeds) (N' := ["thing", "many", "one"]) rfl (by decide +kernel) (by decide +kernel) (by decide +kernel) (by decide +kernel) (by decide) (by decide +kernel)) rfl (pdi_list (zA 0)) (fun _ _ _ _ _ => (zL 2 (show List.Nodup (["thing", "many", "one"] : List Str) by decide +kernel))) (fun _ _ _ _ _ => (pd_fn (O_is_deed.mono (by decide)) hr rfl m_is_deed k_is_deed b_is_deed zT (zB (zA 2) (zB (zA 1) zE))))) zE)))))
theorem ok_done_once (ht : P.given.tree = none) {f : Addr} {fd : FuncData} (fF : FunG K "done_once" "done_once" s_done_once f fd) {f_scaled : Addr} {d_scaled : FuncData} (O_scaled : FnOk P w K mg base CX0 4 f_scaled d_scaled ["row", "by"] (spF ⟨K, mg⟩ F.scaled)) (b_scaled : zV K d_scaled ["row", "by"] []) (k_scaled : PySem.W.keepIn K (.ref f_scaled) = true) (m_scaled : mg "scaled" = some (.ref f_scaled)) {f_added : Addr} {d_added : FuncData} (O_added : FnOk P w K mg base CX0 4 f_added d_added ["one", "other"] (spF ⟨K, mg⟩ F.added)) (b_added : zV K d_added ["one", "other"] []) (k_added : PySem.W.keepIn K (.ref f_added) = true) (m_added : mg "added" = some (.ref f_added)) (m_list : mg "list" = none) :
  FnOk P w K mg base CX0 5 f fd ["table", "deed"] (spF ⟨K, mg⟩ F.done_once) :=
 fn_N 4 2 Den.done_once rfl fF sc_done_once rfl rfl fun cdv A outer s H hr =>
  (zD (zS 2 sc_done_once.nd (pd_callTy call_list_of cd_lof rfl m_list (by decide +kernel) (zB (zA 0) zE))) (zD (zS 3 sc_done_once.nd (pd_ix ix_X zU (zA 1) zF (fun _ _ => rfl))) (zD (pd_if (zY (op_eqX hr) od_eq (pd_ix ix_X zU (zA 1) zF (fun _ _ => rfl)) pd_str (zZ _)) (zD (pd_asg (pd_ix ix_X zU (zA 0) (pd_ix ix_X zU (zA 1) zF (fun _ _ => rfl)) (fun _ _ => rfl)) (pdg_sub (zA 2) (zA 3))) (zJ (pd_asg (pd_ix ix_X zU (zA 0) (zA 3) (fun _ _ => rfl)) (pdg_sub (zA 2) (pd_ix ix_X zU (zA 1) zF (fun _ _ => rfl)))))) (zJ (pd_if (zY (op_eqX hr) od_eq (pd_ix ix_X zU (zA 1) zF (fun _ _ => rfl)) pd_str (zZ _)) (zJ (pd_asg (pd_fn (O_scaled.mono (by decide)) hr rfl m_scaled k_scaled b_scaled zT (zB (pd_ix ix_X zU (zA 0) (zA 3) (fun _ _ => rfl)) (zB (pd_ix ix_X zU (zA 1) zF (fun _ _ => rfl)) zE))) (pdg_sub (zA 2) (zA 3)))) (zJ (pd_asg (pd_fn (O_added.mono (by decide)) hr rfl m_added k_added b_added zT (zB (pd_ix ix_X zU (zA 0) (zA 3) (fun _ _ => rfl)) (zB (pd_fn (O_scaled.mono (by decide)) hr rfl m_scaled k_scaled b_scaled zT (zB (pd_ix ix_X zU (zA 0) (pd_ix ix_X zU (zA 1) zF (fun _ _ => rfl)) (fun _ _ => rfl)) (zB (pd_ix ix_X zU (zA 1) zF (fun _ _ => rfl)) zE))) zE))) (pdg_sub (zA 2) (zA 3))))))) (zJ (zP (zA 2))))))
theorem ok_done (ht : P.given.tree = none) {f : Addr} {fd : FuncData} (fF : FunG K "done" "done" s_done f fd) {f_are_deeds : Addr} {d_are_deeds : FuncData} (O_are_deeds : FnOk P w K mg base CX0 5 f_are_deeds d_are_deeds ["thing", "many"] (spF ⟨K, mg⟩ F.are_deeds)) (b_are_deeds : zV K d_are_deeds ["thing", "many"] []) (k_are_deeds : PySem.W.keepIn K (.ref f_are_deeds) = true) (m_are_deeds : mg "are_deeds" = some (.ref f_are_deeds)) {f_done_once : Addr} {d_done_once : FuncData} (O_done_once : FnOk P w K mg base CX0 5 f_done_once d_done_once ["table", "deed"] (spF ⟨K, mg⟩ F.done_once)) (b_done_once : zV K d_done_once ["table", "deed"] []) (k_done_once : PySem.W.keepIn K (.ref f_done_once) = true) (m_done_once : mg "done_once" = some (.ref f_done_once)) (m_len : mg "len" = none) (m_list : mg "list" = none) :
  FnOk P w K mg base CX0 6 f fd ["table", "deeds"] (spF ⟨K, mg⟩ F.done) :=
 fn_N 4 2 Den.done rfl fF sc_done rfl rfl fun cdv A outer s H hr =>
  (zD (pd_if (pd_not (pt_valD (pd_fn (O_are_deeds.mono (by decide)) hr rfl m_are_deeds k_are_deeds b_are_deeds zT (zB (zA 1) (zB (yA call_lenX cd_len rfl m_len (by decide +kernel) (zB (zA 0) zE)) zE))))) (zJ pd_never) pds_nil) (zD (pd_setComp 2 (N' := ["table", "deeds", "told", "deed", "row"]) 1 (CompOk.mk (N := ["table", "deeds", "told", "deed"]) (fsc := zC s_done) (N' := ["table", "deeds", "told", "deed", "row"]) rfl (by decide +kernel) (by decide +kernel) (by decide +kernel) (by decide +kernel) (by decide) (by decide +kernel)) rfl (pdi_list (zA 0)) (fun _ _ _ _ _ => (zL 4 (show List.Nodup (["table", "deeds", "told", "deed", "row"] : List Str) by decide +kernel))) (fun _ _ _ _ _ => (pd_callTy call_list_of cd_lof rfl m_list (by decide +kernel) (zB (zA 4) zE))) sc_done.nd) (zD (pd_for PassesOwn.never rfl (pdi_list (zA 1)) (zL 3 sc_done.nd) (zJ (zS 2 sc_done.nd (pd_fn (O_done_once.mono (by decide)) hr rfl m_done_once k_done_once b_done_once zT (zB (zA 2) (zB (zA 3) zE)))))) (zJ (zP (zA 2))))))
theorem ok_unit_row (ht : P.given.tree = none) {f : Addr} {fd : FuncData} (fF : FunG K "unit_row" "unit_row" s_unit_row f fd) (m_range : mg "range" = none) (hC_NOUGHT : CstAt K mg "NOUGHT" (.tup [(.int 0), (.int 1)])) (hC_ONE : CstAt K mg "ONE" (.tup [(.int 1), (.int 1)])) :
  FnOk P w K mg base CX0 1 f fd ["long", "place"] (spF ⟨K, mg⟩ F.unit_row) :=
 fn_N 2 2 Den.unit_row rfl fF sc_unit_row rfl rfl fun cdv A outer s H hr =>
  (zJ (zP (pd_comp (N' := ["long", "place", "at"]) 1 (CompOk.mk (N := ["long", "place"]) (fsc := zC s_unit_row) (N' := ["long", "place", "at"]) rfl (by decide +kernel) (by decide +kernel) (by decide +kernel) (by decide +kernel) (by decide) (by decide +kernel)) rfl (pdi_range1 rfl m_range (zA 0)) (fun _ _ _ _ _ => (zL 2 (show List.Nodup (["long", "place", "at"] : List Str) by decide +kernel))) (fun _ _ _ _ _ => (pd_ifE (zY (op_eqX hr) od_eq (zA 2) (zA 1) (zZ _)) (pd_C rfl hC_ONE) (pd_C rfl hC_NOUGHT))))))
theorem ok_unit (ht : P.given.tree = none) {f : Addr} {fd : FuncData} (fF : FunG K "unit" "unit" s_unit f fd) {f_unit_row : Addr} {d_unit_row : FuncData} (O_unit_row : FnOk P w K mg base CX0 1 f_unit_row d_unit_row ["long", "place"] (spF ⟨K, mg⟩ F.unit_row)) (b_unit_row : zV K d_unit_row ["long", "place"] []) (k_unit_row : PySem.W.keepIn K (.ref f_unit_row) = true) (m_unit_row : mg "unit_row" = some (.ref f_unit_row)) (m_range : mg "range" = none) :
  FnOk P w K mg base CX0 2 f fd ["many"] (spF ⟨K, mg⟩ F.unit) :=
 fn_N 1 1 Den.unit rfl fF sc_unit rfl rfl fun cdv A outer s H hr =>
  (zJ (zP (pd_comp (N' := ["many", "place"]) 1 (CompOk.mk (N := ["many"]) (fsc := zC s_unit) (N' := ["many", "place"]) rfl (by decide +kernel) (by decide +kernel) (by decide +kernel) (by decide +kernel) (by decide) (by decide +kernel)) rfl (pdi_range1 rfl m_range (zA 0)) (fun _ _ _ _ _ => (zL 1 (show List.Nodup (["many", "place"] : List Str) by decide +kernel))) (fun _ _ _ _ _ => (pd_fn (O_unit_row.mono (by decide)) hr rfl m_unit_row k_unit_row b_unit_row zT (zB (zA 0) (zB (zA 1) zE)))))))
theorem ok_row_with_thing (ht : P.given.tree = none) {f : Addr} {fd : FuncData} (fF : FunG K "row_with_thing" "row_with_thing" s_row_with_thing f fd) (m_len : mg "len" = none) (m_range : mg "range" = none) (hC_NOUGHT : CstAt K mg "NOUGHT" (.tup [(.int 0), (.int 1)])) :
  FnOk P w K mg base CX0 1 f fd ["table", "start", "column"] (spF ⟨K, mg⟩ F.row_with_thing) :=
 fn_N 4 3 Den.row_with_thing rfl fF sc_row_with_thing rfl rfl fun cdv A outer s H hr =>
  (zD (pd_for PassesOwn.never rfl (pdi_range2 rfl m_range (zA 1) (yA call_lenX cd_len rfl m_len (by decide +kernel) (zB (zA 0) zE))) (zL 3 sc_row_with_thing.nd) (zJ (pd_if (zY (op_neX hr) od_ne (pd_ix ix_X zU (pd_ix ix_X zU (zA 0) (zA 3) (fun _ _ => rfl)) (zA 2) (fun _ _ => rfl)) (pd_C rfl hC_NOUGHT) (zZ _)) (zJ (zP (zA 3))) pds_nil))) (zJ (zP pd_non)))
theorem ok_clearing_deeds (ht : P.given.tree = none) {f : Addr} {fd : FuncData} (fF : FunG K "clearing_deeds" "clearing_deeds" s_clearing_deeds f fd) {f_over : Addr} {d_over : FuncData} (O_over : FnOk P w K mg base CX0 3 f_over d_over ["one", "other"] (spF ⟨K, mg⟩ F.over)) (b_over : zV K d_over ["one", "other"] []) (k_over : PySem.W.keepIn K (.ref f_over) = true) (m_over : mg "over" = some (.ref f_over)) {f_minus : Addr} {d_minus : FuncData} (O_minus : FnOk P w K mg base CX0 3 f_minus d_minus ["one", "other"] (spF ⟨K, mg⟩ F.minus)) (b_minus : zV K d_minus ["one", "other"] []) (k_minus : PySem.W.keepIn K (.ref f_minus) = true) (m_minus : mg "minus" = some (.ref f_minus)) (m_enumerate : mg "enumerate" = none) (hC_NOUGHT : CstAt K mg "NOUGHT" (.tup [(.int 0), (.int 1)])) (hC_ONE : CstAt K mg "ONE" (.tup [(.int 1), (.int 1)])) :
  FnOk P w K mg base CX0 4 f fd ["table", "place", "found", "column"] (spF ⟨K, mg⟩ F.clearing_deeds) :=
 fn_N 8 4 Den.clearing_deeds rfl fF sc_clearing_deeds rfl rfl fun cdv A outer s H hr =>
  (zD (zS 4 sc_clearing_deeds.nd (pd_lst zE)) (zD (pd_if (zY (op_neX hr) od_ne (zA 2) (zA 1) (zZ _)) (zJ (pd_expr (pd_append (zA 4) (pd_tup (zB pd_str (zB (zA 1) (zB (zA 2) zE))))))) pds_nil) (zD (zS 5 sc_clearing_deeds.nd (pd_ix ix_X zU (pd_ix ix_X zU (zA 0) (zA 2) (fun _ _ => rfl)) (zA 3) (fun _ _ => rfl))) (zD (pd_if (zY (op_neX hr) od_ne (zA 5) (pd_C rfl hC_ONE) (zZ _)) (zJ (pd_expr (pd_append (zA 4) (pd_tup (zB pd_str (zB (zA 1) (zB (pd_fn (O_over.mono (by decide)) hr rfl m_over k_over b_over zT (zB (pd_C rfl hC_ONE) (zB (zA 5) zE))) zE))))))) pds_nil) (zD (pd_for PassesOwn.never rfl (pdi_enum rfl m_enumerate (zA 0)) (pdg_tup rfl (zX (zL 6 sc_clearing_deeds.nd) (zX (zL 7 sc_clearing_deeds.nd) pdgs_nil))) (zJ (pd_if (pd_wt (pd_and (zY (op_neX hr) od_ne (zA 6) (zA 1) (zZ _)) (pd_and (zY (op_neX hr) od_ne (zA 6) (zA 2) (zZ _)) (pd_and1 (zY (op_neX hr) od_ne (pd_ix ix_X zU (zA 7) (zA 3) (fun _ _ => rfl)) (pd_C rfl hC_NOUGHT) (zZ _)))))) (zJ (pd_expr (pd_append (zA 4) (pd_tup (zB pd_str (zB (zA 6) (zB (zA 1) (zB (pd_fn (O_minus.mono (by decide)) hr rfl m_minus k_minus b_minus zT (zB (pd_C rfl hC_NOUGHT) (zB (pd_ix ix_X zU (zA 7) (zA 3) (fun _ _ => rfl)) zE))) zE)))))))) pds_nil))) (zJ (zP (zA 4))))))))
theorem ok_reduced (ht : P.given.tree = none) {f : Addr} {fd : FuncData} (fF : FunG K "reduced" "reduced" s_reduced f fd) {f_row_with_thing : Addr} {d_row_with_thing : FuncData} (O_row_with_thing : FnOk P w K mg base CX0 1 f_row_with_thing d_row_with_thing ["table", "start", "column"] (spF ⟨K, mg⟩ F.row_with_thing)) (b_row_with_thing : zV K d_row_with_thing ["table", "start", "column"] []) (k_row_with_thing : PySem.W.keepIn K (.ref f_row_with_thing) = true) (m_row_with_thing : mg "row_with_thing" = some (.ref f_row_with_thing)) {f_clearing_deeds : Addr} {d_clearing_deeds : FuncData} (O_clearing_deeds : FnOk P w K mg base CX0 4 f_clearing_deeds d_clearing_deeds ["table", "place", "found", "column"] (spF ⟨K, mg⟩ F.clearing_deeds)) (b_clearing_deeds : zV K d_clearing_deeds ["table", "place", "found", "column"] []) (k_clearing_deeds : PySem.W.keepIn K (.ref f_clearing_deeds) = true) (m_clearing_deeds : mg "clearing_deeds" = some (.ref f_clearing_deeds)) {f_done : Addr} {d_done : FuncData} (O_done : FnOk P w K mg base CX0 6 f_done d_done ["table", "deeds"] (spF ⟨K, mg⟩ F.done)) (b_done : zV K d_done ["table", "deeds"] []) (k_done : PySem.W.keepIn K (.ref f_done) = true) (m_done : mg "done" = some (.ref f_done)) (m_len : mg "len" = none) (m_list : mg "list" = none) (m_range : mg "range" = none) :
  FnOk P w K mg base CX0 7 f fd ["table", "wide"] (spF ⟨K, mg⟩ F.reduced) :=
 fn_N 9 2 Den.reduced rfl fF sc_reduced rfl rfl fun cdv A outer s H hr =>
  (zD (pd_setComp 2 (N' := ["table", "wide", "told", "deeds", "firsts", "column", "place", "found", "steps", "row"]) 1 (CompOk.mk (N := ["table", "wide", "told", "deeds", "firsts", "column", "place", "found", "steps"]) (fsc := zC s_reduced) (N' := ["table", "wide", "told", "deeds", "firsts", "column", "place", "found", "steps", "row"]) rfl (by decide +kernel) (by decide +kernel) (by decide +kernel) (by decide +kernel) (by decide) (by decide +kernel)) rfl (pdi_list (zA 0)) (fun _ _ _ _ _ => (zL 9 (show List.Nodup (["table", "wide", "told", "deeds", "firsts", "column", "place", "found", "steps", "row"] : List Str) by decide +kernel))) (fun _ _ _ _ _ => (pd_callTy call_list_of cd_lof rfl m_list (by decide +kernel) (zB (zA 9) zE))) sc_reduced.nd) (zD (zS 3 sc_reduced.nd (pd_lst zE)) (zD (zS 4 sc_reduced.nd (pd_lst zE)) (zD (pd_for PassesOwn.never rfl (pdi_range1 rfl m_range (zA 1)) (zL 5 sc_reduced.nd) (zD (zS 6 sc_reduced.nd (yA call_lenX cd_len rfl m_len (by decide +kernel) (zB (zA 4) zE))) (zD (zS 7 sc_reduced.nd (pd_fn (O_row_with_thing.mono (by decide)) hr rfl m_row_with_thing k_row_with_thing b_row_with_thing zT (zB (zA 2) (zB (zA 6) (zB (zA 5) zE))))) (zD (pd_if (zY op_isN od_isN (zA 7) pd_non (zZ _)) (zJ pd_continue) pds_nil) (zD (zS 8 sc_reduced.nd (pd_fn (O_clearing_deeds.mono (by decide)) hr rfl m_clearing_deeds k_clearing_deeds b_clearing_deeds zT (zB (zA 2) (zB (zA 6) (zB (zA 7) (zB (zA 5) zE)))))) (zD (zS 2 sc_reduced.nd (pd_fn (O_done.mono (by decide)) hr rfl m_done k_done b_done zT (zB (zA 2) (zB (zA 8) zE)))) (zD (pd_expr (pd_extend (zA 3) (zA 8))) (zJ (pd_expr (pd_append (zA 4) (zA 5))))))))))) (zJ (zP (pd_tup (zB (zA 3) (zB (zA 2) (zB (zA 4) zE))))))))))
theorem ok_placed (ht : P.given.tree = none) {f : Addr} {fd : FuncData} (fF : FunG K "placed" "placed" s_placed f fd) (m_list : mg "list" = none) (m_zip : mg "zip" = none) :
  FnOk P w K mg base CX0 1 f fd ["row", "columns", "things"] (spF ⟨K, mg⟩ F.placed) :=
 fn_N 6 3 Den.placed rfl fF sc_placed rfl rfl fun cdv A outer s H hr =>
  (zD (zS 3 sc_placed.nd (pd_callTy call_list_of cd_lof rfl m_list (by decide +kernel) (zB (zA 0) zE))) (zD (pd_for PassesOwn.never rfl (pdi_zip rfl m_zip (zA 1) (zA 2)) (pdg_tup rfl (zX (zL 4 sc_placed.nd) (zX (zL 5 sc_placed.nd) pdgs_nil))) (zJ (pd_asg (zA 5) (pdg_sub (zA 3) (zA 4))))) (zJ (zP (zA 3)))))
theorem ok_way (ht : P.given.tree = none) {f : Addr} {fd : FuncData} (fF : FunG K "way" "way" s_way f fd) {f_placed : Addr} {d_placed : FuncData} (O_placed : FnOk P w K mg base CX0 1 f_placed d_placed ["row", "columns", "things"] (spF ⟨K, mg⟩ F.placed)) (b_placed : zV K d_placed ["row", "columns", "things"] []) (k_placed : PySem.W.keepIn K (.ref f_placed) = true) (m_placed : mg "placed" = some (.ref f_placed)) {f_minus : Addr} {d_minus : FuncData} (O_minus : FnOk P w K mg base CX0 3 f_minus d_minus ["one", "other"] (spF ⟨K, mg⟩ F.minus)) (b_minus : zV K d_minus ["one", "other"] []) (k_minus : PySem.W.keepIn K (.ref f_minus) = true) (m_minus : mg "minus" = some (.ref f_minus)) {f_unit_row : Addr} {d_unit_row : FuncData} (O_unit_row : FnOk P w K mg base CX0 1 f_unit_row d_unit_row ["long", "place"] (spF ⟨K, mg⟩ F.unit_row)) (b_unit_row : zV K d_unit_row ["long", "place"] []) (k_unit_row : PySem.W.keepIn K (.ref f_unit_row) = true) (m_unit_row : mg "unit_row" = some (.ref f_unit_row)) (hC_NOUGHT : CstAt K mg "NOUGHT" (.tup [(.int 0), (.int 1)])) :
  FnOk P w K mg base CX0 4 f fd ["table", "firsts", "wide", "free"] (spF ⟨K, mg⟩ F.way) :=
 fn_N 4 4 Den.way rfl fF sc_way rfl rfl fun cdv A outer s H hr =>
  (zJ (zP (pd_fn (O_placed.mono (by decide)) hr rfl m_placed k_placed b_placed zT (zB (pd_fn (O_unit_row.mono (by decide)) hr rfl m_unit_row k_unit_row b_unit_row zT (zB (zA 2) (zB (zA 3) zE))) (zB (zA 1) (zB (pd_comp (N' := ["table", "firsts", "wide", "free", "row"]) 1 (CompOk.mk (N := ["table", "firsts", "wide", "free"]) (fsc := zC s_way) (N' := ["table", "firsts", "wide", "free", "row"]) rfl (by decide +kernel) (by decide +kernel) (by decide +kernel) (by decide +kernel) (by decide) (by decide +kernel)) rfl (pdi_list (zA 0)) (fun _ _ _ _ _ => (zL 4 (show List.Nodup (["table", "firsts", "wide", "free", "row"] : List Str) by decide +kernel))) (fun _ _ _ _ _ => (pd_fn (O_minus.mono (by decide)) hr rfl m_minus k_minus b_minus zT (zB (pd_C rfl hC_NOUGHT) (zB (pd_ix ix_X zU (zA 4) (zA 3) (fun _ _ => rfl)) zE))))) zE))))))
theorem ok_answer (ht : P.given.tree = none) {f : Addr} {fd : FuncData} (fF : FunG K "answer" "answer" s_answer f fd) {f_reduced : Addr} {d_reduced : FuncData} (O_reduced : FnOk P w K mg base CX0 7 f_reduced d_reduced ["table", "wide"] (spF ⟨K, mg⟩ F.reduced)) (b_reduced : zV K d_reduced ["table", "wide"] []) (k_reduced : PySem.W.keepIn K (.ref f_reduced) = true) (m_reduced : mg "reduced" = some (.ref f_reduced)) {f_done : Addr} {d_done : FuncData} (O_done : FnOk P w K mg base CX0 6 f_done d_done ["table", "deeds"] (spF ⟨K, mg⟩ F.done)) (b_done : zV K d_done ["table", "deeds"] []) (k_done : PySem.W.keepIn K (.ref f_done) = true) (m_done : mg "done" = some (.ref f_done)) {f_unit : Addr} {d_unit : FuncData} (O_unit : FnOk P w K mg base CX0 2 f_unit d_unit ["many"] (spF ⟨K, mg⟩ F.unit)) (b_unit : zV K d_unit ["many"] []) (k_unit : PySem.W.keepIn K (.ref f_unit) = true) (m_unit : mg "unit" = some (.ref f_unit)) {f_dot : Addr} {d_dot : FuncData} (O_dot : FnOk P w K mg base CX0 5 f_dot d_dot ["one", "other", "weights"] (spF ⟨K, mg⟩ F.dot)) (b_dot : zV K d_dot ["one", "other", "weights"] []) (k_dot : PySem.W.keepIn K (.ref f_dot) = true) (m_dot : mg "dot" = some (.ref f_dot)) (b1_dot : zV K d_dot ["one", "other", "weights"] [.none]) (kb_dot : KBinds K d_dot ["one", "other", "weights"] ["weights"] g21 gV21) {f_scaled : Addr} {d_scaled : FuncData} (O_scaled : FnOk P w K mg base CX0 4 f_scaled d_scaled ["row", "by"] (spF ⟨K, mg⟩ F.scaled)) (b_scaled : zV K d_scaled ["row", "by"] []) (k_scaled : PySem.W.keepIn K (.ref f_scaled) = true) (m_scaled : mg "scaled" = some (.ref f_scaled)) {f_over : Addr} {d_over : FuncData} (O_over : FnOk P w K mg base CX0 3 f_over d_over ["one", "other"] (spF ⟨K, mg⟩ F.over)) (b_over : zV K d_over ["one", "other"] []) (k_over : PySem.W.keepIn K (.ref f_over) = true) (m_over : mg "over" = some (.ref f_over)) {f_placed : Addr} {d_placed : FuncData} (O_placed : FnOk P w K mg base CX0 1 f_placed d_placed ["row", "columns", "things"] (spF ⟨K, mg⟩ F.placed)) (b_placed : zV K d_placed ["row", "columns", "things"] []) (k_placed : PySem.W.keepIn K (.ref f_placed) = true) (m_placed : mg "placed" = some (.ref f_placed)) {f_way : Addr} {d_way : FuncData} (O_way : FnOk P w K mg base CX0 4 f_way d_way ["table", "firsts", "wide", "free"] (spF ⟨K, mg⟩ F.way)) (b_way : zV K d_way ["table", "firsts", "wide", "free"] []) (k_way : PySem.W.keepIn K (.ref f_way) = true) (m_way : mg "way" = some (.ref f_way)) (m_len : mg "len" = none) (m_range : mg "range" = none) (hC_NOUGHT : CstAt K mg "NOUGHT" (.tup [(.int 0), (.int 1)])) (hC_ONE : CstAt K mg "ONE" (.tup [(.int 1), (.int 1)])) :
  FnOk P w K mg base CX0 8 f fd ["table", "wants", "wide"] (spF ⟨K, mg⟩ F.answer) :=
 fn_N 10 3 Den.answer rfl fF sc_answer rfl rfl fun cdv A outer s H hr =>
  (zD (zS 3 sc_answer.nd (pd_fn (O_reduced.mono (by decide)) hr rfl m_reduced k_reduced b_reduced zT (zB (zA 0) (zB (zA 2) zE)))) (zD (zS 4 sc_answer.nd (pd_ix ix_X zU (zA 3) zF (fun _ _ => rfl))) (zD (zS 5 sc_answer.nd (pd_fn (O_done.mono (by decide)) hr rfl m_done k_done b_done zT (zB (pd_fn (O_unit.mono (by decide)) hr rfl m_unit k_unit b_unit zT (zB (yA call_lenX cd_len rfl m_len (by decide +kernel) (zB (zA 0) zE)) zE)) (zB (pd_ix ix_X zU (zA 3) zF (fun _ _ => rfl)) zE)))) (zD (pd_setComp 6 (N' := ["table", "wants", "wide", "led", "firsts", "papers", "reached", "k", "shares", "ways", "paper"]) 1 (CompOk.mk (N := ["table", "wants", "wide", "led", "firsts", "papers", "reached", "k", "shares", "ways"]) (fsc := zC s_answer) (N' := ["table", "wants", "wide", "led", "firsts", "papers", "reached", "k", "shares", "ways", "paper"]) rfl (by decide +kernel) (by decide +kernel) (by decide +kernel) (by decide +kernel) (by decide) (by decide +kernel)) rfl (pdi_list (zA 5)) (fun _ _ _ _ _ => (zL 10 (show List.Nodup (["table", "wants", "wide", "led", "firsts", "papers", "reached", "k", "shares", "ways", "paper"] : List Str) by decide +kernel))) (fun _ _ _ _ _ => (pd_call (dds := [.non]) (O_dot.mono (by decide)) hr rfl m_dot k_dot b1_dot (dvs := [.non]) (.cons (show RelV V.non Value.none from rfl) .nil) (fun _ _ => ⟨_, _, rfl, rfl, rfl⟩) zT (zB (zA 10) (zB (zA 1) zE)))) sc_answer.nd) (zD (pd_for PassesOwn.never rfl (pdi_range2 rfl m_range (yA call_lenX cd_len rfl m_len (by decide +kernel) (zB (zA 4) zE)) (yA call_lenX cd_len rfl m_len (by decide +kernel) (zB (zA 0) zE))) (zL 7 sc_answer.nd) (zJ (pd_if (zY (op_neX hr) od_ne (pd_ix ix_X zU (zA 6) (zA 7) (fun _ _ => rfl)) (pd_C rfl hC_NOUGHT) (zZ _)) (zJ (zP (pd_tup (zB pd_str (zB (pd_fn (O_scaled.mono (by decide)) hr rfl m_scaled k_scaled b_scaled zT (zB (pd_ix ix_X zU (zA 5) (zA 7) (fun _ _ => rfl)) (zB (pd_fn (O_over.mono (by decide)) hr rfl m_over k_over b_over zT (zB (pd_C rfl hC_ONE) (zB (pd_ix ix_X zU (zA 6) (zA 7) (fun _ _ => rfl)) zE))) zE))) zE))))) pds_nil))) (zD (zS 8 sc_answer.nd (pd_fn (O_placed.mono (by decide)) hr rfl m_placed k_placed b_placed zT (zB (pd_op op_mulX od_mul (pd_lst (zB (pd_C rfl hC_NOUGHT) zE)) (zA 2)) (zB (zA 4) (zB (zA 6) zE))))) (zD (pd_setCompI 9 (N' := ["table", "wants", "wide", "led", "firsts", "papers", "reached", "k", "shares", "ways", "column"]) 1 (CompOk.mk (N := ["table", "wants", "wide", "led", "firsts", "papers", "reached", "k", "shares", "ways"]) (fsc := zC s_answer) (N' := ["table", "wants", "wide", "led", "firsts", "papers", "reached", "k", "shares", "ways", "column"]) rfl (by decide +kernel) (by decide +kernel) (by decide +kernel) (by decide +kernel) (by decide) (by decide +kernel)) rfl (pdi_range1 rfl m_range (zA 2)) (fun _ _ _ _ _ => (zL 10 (show List.Nodup (["table", "wants", "wide", "led", "firsts", "papers", "reached", "k", "shares", "ways", "column"] : List Str) by decide +kernel))) (fun _ _ _ _ _ => (zY (op_notinX hr) od_notin (zA 10) (zA 4) rfl)) (fun _ _ _ _ _ => (pd_fn (O_way.mono (by decide)) hr rfl m_way k_way b_way zT (zB (pd_ix ix_X zU (zA 3) zF (fun _ _ => rfl)) (zB (zA 4) (zB (zA 2) (zB (zA 10) zE)))))) sc_answer.nd) (zJ (zP (pd_tup (zB pd_str (zB (zA 8) (zB (zA 9) zE)))))))))))))
theorem ok__law_cell_at (ht : P.given.tree = none) {f : Addr} {fd : FuncData} (fF : FunG K "_law_cell_at" "_law_cell_at" s__law_cell_at f fd) (m_len : mg "len" = none) :
  FnOk P w K mg base CX0 1 f fd ["_law_script", "_law_k"] (spF ⟨K, mg⟩ F.k11_cell_at) :=
 fn_N 2 2 Den.k11_cell_at rfl fF sc__law_cell_at rfl rfl fun cdv A outer s H hr =>
  (zD (pd_if (zY op_lt od_lt (zA 1) (yA call_lenX cd_len rfl m_len (by decide +kernel) (zB (zA 0) zE)) (zZ _)) (zJ (zP (pd_ix ix_X zU (zA 0) (zA 1) (fun _ _ => rfl)))) pds_nil) (zJ (zP zF)))
theorem ok__law_great (ht : P.given.tree = none) {f : Addr} {fd : FuncData} (fF : FunG K "_law_great" "_law_great" s__law_great f fd) :
  FnOk P w K mg base CX0 1 f fd ["_law_cell"] (spF ⟨K, mg⟩ F.k21_great) :=
 fn_N 2 1 Den.k21_great rfl fF sc__law_great rfl rfl fun cdv A outer s H hr =>
  (zD (zS 1 sc__law_great.nd (pd_op op_mulX od_mul (pd_op op_pow od_pow zF zF) (pd_op op_pow od_pow zF zF))) (zJ (zP (pd_op op_modN od_mod (pd_op op_mulX od_mul (pd_op op_addX od_add (pd_op op_modN od_mod (zA 0) (pd_op op_pow od_pow zF zF)) zF) (pd_op op_pow od_pow zF zF)) (zA 1)))))
theorem ok__law_low (ht : P.given.tree = none) {f : Addr} {fd : FuncData} (fF : FunG K "_law_low" "_law_low" s__law_low f fd) (m_abs : mg "abs" = none) :
  FnOk P w K mg base CX0 1 f fd ["_law_top", "_law_bottom"] (spF ⟨K, mg⟩ F.k21_low) :=
 fn_N 4 2 Den.k21_low rfl fF sc__law_low rfl rfl fun cdv A outer s H hr =>
  (zD (zS 2 sc__law_low.nd (yA call_abs cd_abs rfl m_abs (by decide +kernel) (zB (zA 0) zE))) (zD (zS 3 sc__law_low.nd (zA 1)) (zD (pd_while PassesOwn.never (zY op_gt od_gt (zA 3) zF (zZ _)) (zJ (pd_par 2 3 rfl sc__law_low.nd (zA 3) (pd_op op_modN od_mod (zA 2) (zA 3))))) (zJ (zP (pd_tup (zB (pd_op (op_fdivX hr ht rfl sc__law_low.gen sc__law_low.co) od_fdiv (zA 0) (zA 2)) (zB (pd_op (op_fdivX hr ht rfl sc__law_low.gen sc__law_low.co) od_fdiv (zA 1) (zA 2)) zE))))))))
theorem ok__law_ratio (ht : P.given.tree = none) {f : Addr} {fd : FuncData} (fF : FunG K "_law_ratio" "_law_ratio" s__law_ratio f fd) {f__law_low : Addr} {d__law_low : FuncData} (O__law_low : FnOk P w K mg base CX0 1 f__law_low d__law_low ["_law_top", "_law_bottom"] (spF ⟨K, mg⟩ F.k21_low)) (b__law_low : zV K d__law_low ["_law_top", "_law_bottom"] []) (k__law_low : PySem.W.keepIn K (.ref f__law_low) = true) (m__law_low : mg "_law_low" = some (.ref f__law_low)) (m_divmod : mg "divmod" = none) :
  FnOk P w K mg base CX0 2 f fd ["_law_number"] (spF ⟨K, mg⟩ F.k24_ratio) :=
 fn_N 3 1 Den.k24_ratio rfl fF sc__law_ratio rfl rfl fun cdv A outer s H hr =>
  (zD (pd_asg (yA (call_divmodX hr ht rfl sc__law_ratio.gen sc__law_ratio.co) cd_dvm rfl m_divmod (by decide +kernel) (zB (zA 0) (zB zF zE))) (pdg_tup rfl (zX (zL 0 sc__law_ratio.nd) (zX (zL 1 sc__law_ratio.nd) pdgs_nil)))) (zD (pd_asg (yA (call_divmodX hr ht rfl sc__law_ratio.gen sc__law_ratio.co) cd_dvm rfl m_divmod (by decide +kernel) (zB (zA 0) (zB zF zE))) (pdg_tup rfl (zX (zL 0 sc__law_ratio.nd) (zX (zL 2 sc__law_ratio.nd) pdgs_nil)))) (zD (pd_if (zY (op_eqX hr) od_eq (zA 1) zF (zZ _)) (zJ (zP (pd_tup (zB (pd_op (op_fdivX hr ht rfl sc__law_ratio.gen sc__law_ratio.co) od_fdiv (zA 0) zF) (zB (pd_tup (zB (pd_op op_sub od_sub (pd_op op_modN od_mod (zA 0) (pd_op op_pow od_pow zF zF)) (pd_op op_mulX od_mul zF (pd_op op_pow od_pow zF zF))) (zB zF zE))) zE))))) pds_nil) (zJ (zP (pd_tup (zB (zA 0) (zB (pd_fn (O__law_low.mono (by decide)) hr rfl m__law_low k__law_low b__law_low zT (zB (pd_op op_sub od_sub (zA 2) zF) (zB (pd_ix ix_X zU (pd_lst (zB zF (zB zF (zB zF (zB zF (zB zF (zB zF (zB zF (zB zF zE))))))))) (zA 1) (fun _ _ => rfl)) zE))) zE))))))))
theorem ok__law_row (ht : P.given.tree = none) {f : Addr} {fd : FuncData} (fF : FunG K "_law_row" "_law_row" s__law_row f fd) {f__law_ratio : Addr} {d__law_ratio : FuncData} (O__law_ratio : FnOk P w K mg base CX0 2 f__law_ratio d__law_ratio ["_law_number"] (spF ⟨K, mg⟩ F.k24_ratio)) (b__law_ratio : zV K d__law_ratio ["_law_number"] []) (k__law_ratio : PySem.W.keepIn K (.ref f__law_ratio) = true) (m__law_ratio : mg "_law_ratio" = some (.ref f__law_ratio)) (m_range : mg "range" = none) :
  FnOk P w K mg base CX0 3 f fd ["_law_number", "_law_long"] (spF ⟨K, mg⟩ F.k24_row) :=
 fn_N 5 2 Den.k24_row rfl fF sc__law_row rfl rfl fun cdv A outer s H hr =>
  (zD (zS 2 sc__law_row.nd (pd_lst zE)) (zD (pd_for PassesOwn.never rfl (pdi_range1 rfl m_range (zA 1)) (zL 3 sc__law_row.nd) (zD (pd_asg (pd_fn (O__law_ratio.mono (by decide)) hr rfl m__law_ratio k__law_ratio b__law_ratio zT (zB (zA 0) zE)) (pdg_tup rfl (zX (zL 0 sc__law_row.nd) (zX (zL 4 sc__law_row.nd) pdgs_nil)))) (zJ (pd_expr (pd_append (zA 2) (zA 4)))))) (zJ (zP (zA 2)))))
theorem ok__law_plus (ht : P.given.tree = none) {f : Addr} {fd : FuncData} (fF : FunG K "_law_plus" "_law_plus" s__law_plus f fd) {f__law_low : Addr} {d__law_low : FuncData} (O__law_low : FnOk P w K mg base CX0 1 f__law_low d__law_low ["_law_top", "_law_bottom"] (spF ⟨K, mg⟩ F.k21_low)) (b__law_low : zV K d__law_low ["_law_top", "_law_bottom"] []) (k__law_low : PySem.W.keepIn K (.ref f__law_low) = true) (m__law_low : mg "_law_low" = some (.ref f__law_low)) :
  FnOk P w K mg base CX0 2 f fd ["_law_one", "_law_other"] (spF ⟨K, mg⟩ F.k21_plus) :=
 fn_N 2 2 Den.k21_plus rfl fF sc__law_plus rfl rfl fun cdv A outer s H hr =>
  (zJ (zP (pd_fn (O__law_low.mono (by decide)) hr rfl m__law_low k__law_low b__law_low zT (zB (pd_op op_addX od_add (pd_op op_mulX od_mul (pd_ix ix_X zU (zA 0) zF (fun _ _ => rfl)) (pd_ix ix_X zU (zA 1) zF (fun _ _ => rfl))) (pd_op op_mulX od_mul (pd_ix ix_X zU (zA 1) zF (fun _ _ => rfl)) (pd_ix ix_X zU (zA 0) zF (fun _ _ => rfl)))) (zB (pd_op op_mulX od_mul (pd_ix ix_X zU (zA 0) zF (fun _ _ => rfl)) (pd_ix ix_X zU (zA 1) zF (fun _ _ => rfl))) zE)))))
theorem ok__law_times (ht : P.given.tree = none) {f : Addr} {fd : FuncData} (fF : FunG K "_law_times" "_law_times" s__law_times f fd) {f__law_low : Addr} {d__law_low : FuncData} (O__law_low : FnOk P w K mg base CX0 1 f__law_low d__law_low ["_law_top", "_law_bottom"] (spF ⟨K, mg⟩ F.k21_low)) (b__law_low : zV K d__law_low ["_law_top", "_law_bottom"] []) (k__law_low : PySem.W.keepIn K (.ref f__law_low) = true) (m__law_low : mg "_law_low" = some (.ref f__law_low)) :
  FnOk P w K mg base CX0 2 f fd ["_law_one", "_law_other"] (spF ⟨K, mg⟩ F.k21_times) :=
 fn_N 2 2 Den.k21_times rfl fF sc__law_times rfl rfl fun cdv A outer s H hr =>
  (zJ (zP (pd_fn (O__law_low.mono (by decide)) hr rfl m__law_low k__law_low b__law_low zT (zB (pd_op op_mulX od_mul (pd_ix ix_X zU (zA 0) zF (fun _ _ => rfl)) (pd_ix ix_X zU (zA 1) zF (fun _ _ => rfl))) (zB (pd_op op_mulX od_mul (pd_ix ix_X zU (zA 0) zF (fun _ _ => rfl)) (pd_ix ix_X zU (zA 1) zF (fun _ _ => rfl))) zE)))))
theorem ok__law_mix (ht : P.given.tree = none) {f : Addr} {fd : FuncData} (fF : FunG K "_law_mix" "_law_mix" s__law_mix f fd) {f__law_plus : Addr} {d__law_plus : FuncData} (O__law_plus : FnOk P w K mg base CX0 2 f__law_plus d__law_plus ["_law_one", "_law_other"] (spF ⟨K, mg⟩ F.k21_plus)) (b__law_plus : zV K d__law_plus ["_law_one", "_law_other"] []) (k__law_plus : PySem.W.keepIn K (.ref f__law_plus) = true) (m__law_plus : mg "_law_plus" = some (.ref f__law_plus)) {f__law_times : Addr} {d__law_times : FuncData} (O__law_times : FnOk P w K mg base CX0 2 f__law_times d__law_times ["_law_one", "_law_other"] (spF ⟨K, mg⟩ F.k21_times)) (b__law_times : zV K d__law_times ["_law_one", "_law_other"] []) (k__law_times : PySem.W.keepIn K (.ref f__law_times) = true) (m__law_times : mg "_law_times" = some (.ref f__law_times)) (m_zip : mg "zip" = none) :
  FnOk P w K mg base CX0 3 f fd ["_law_rows", "_law_shares", "_law_long"] (spF ⟨K, mg⟩ F.k21_mix) :=
 fn_N 6 3 Den.k21_mix rfl fF sc__law_mix rfl rfl fun cdv A outer s H hr =>
  (zD (zS 3 sc__law_mix.nd (pd_op op_mulX od_mul (pd_lst (zB (pd_tup (zB zF (zB zF zE))) zE)) (zA 2))) (zD (pd_for PassesOwn.never rfl (pdi_zip rfl m_zip (zA 0) (zA 1)) (pdg_tup rfl (zX (zL 4 sc__law_mix.nd) (zX (zL 5 sc__law_mix.nd) pdgs_nil))) (zJ (pd_setComp 3 (N' := ["_law_rows", "_law_shares", "_law_long", "_law_found", "_law_row_here", "_law_share", "_law_mine", "_law_its"]) 2 (CompOk.mk (N := ["_law_rows", "_law_shares", "_law_long", "_law_found", "_law_row_here", "_law_share"]) (fsc := zC s__law_mix) (N' := ["_law_rows", "_law_shares", "_law_long", "_law_found", "_law_row_here", "_law_share", "_law_mine", "_law_its"]) rfl (by decide +kernel) (by decide +kernel) (by decide +kernel) (by decide +kernel) (by decide) (by decide +kernel)) rfl (pdi_zip rfl m_zip (zA 3) (zA 4)) (fun _ _ _ _ _ => (pdg_tup rfl (zX (zL 6 (show List.Nodup (["_law_rows", "_law_shares", "_law_long", "_law_found", "_law_row_here", "_law_share", "_law_mine", "_law_its"] : List Str) by decide +kernel)) (zX (zL 7 (show List.Nodup (["_law_rows", "_law_shares", "_law_long", "_law_found", "_law_row_here", "_law_share", "_law_mine", "_law_its"] : List Str) by decide +kernel)) pdgs_nil)))) (fun _ _ _ _ _ => (pd_fn (O__law_plus.mono (by decide)) hr rfl m__law_plus k__law_plus b__law_plus zT (zB (zA 6) (zB (pd_fn (O__law_times.mono (by decide)) hr rfl m__law_times k__law_times b__law_times zT (zB (zA 7) (zB (zA 5) zE))) zE)))) sc__law_mix.nd))) (zJ (zP (zA 3)))))
theorem ok__law_whole (ht : P.given.tree = none) {f : Addr} {fd : FuncData} (fF : FunG K "_law_whole" "_law_whole" s__law_whole f fd) (m_bool : mg "bool" = none) (m_int : mg "int" = none) (m_isinstance : mg "isinstance" = none) :
  FnOk P w K mg base CX0 1 f fd ["_law_thing"] (spF ⟨K, mg⟩ F.k02_whole) :=
 fn_N 1 1 Den.k02_whole rfl fF sc__law_whole rfl rfl fun cdv A outer s H hr =>
  (zJ (zP (pd_andV (pd_isi .int (by decide +kernel) rfl m_isinstance rfl m_int (zA 0)) (pd_oneV (pd_notV (pd_isi .bool (by decide +kernel) rfl m_isinstance rfl m_bool (zA 0)))))))
theorem ok__law_is_row (ht : P.given.tree = none) {f : Addr} {fd : FuncData} (fF : FunG K "_law_is_row" "_law_is_row" s__law_is_row f fd) {f__law_whole : Addr} {d__law_whole : FuncData} (O__law_whole : FnOk P w K mg base CX0 1 f__law_whole d__law_whole ["_law_thing"] (spF ⟨K, mg⟩ F.k02_whole)) (b__law_whole : zV K d__law_whole ["_law_thing"] []) (k__law_whole : PySem.W.keepIn K (.ref f__law_whole) = true) (m__law_whole : mg "_law_whole" = some (.ref f__law_whole)) {f__law_low : Addr} {d__law_low : FuncData} (O__law_low : FnOk P w K mg base CX0 1 f__law_low d__law_low ["_law_top", "_law_bottom"] (spF ⟨K, mg⟩ F.k21_low)) (b__law_low : zV K d__law_low ["_law_top", "_law_bottom"] []) (k__law_low : PySem.W.keepIn K (.ref f__law_low) = true) (m__law_low : mg "_law_low" = some (.ref f__law_low)) (m_isinstance : mg "isinstance" = none) (m_len : mg "len" = none) (m_list : mg "list" = none) (m_tuple : mg "tuple" = none) :
  FnOk P w K mg base CX0 2 f fd ["_law_found", "_law_long"] (spF ⟨K, mg⟩ F.k21_is_row) :=
 fn_N 3 2 Den.k21_is_row rfl fF sc__law_is_row rfl rfl fun cdv A outer s H hr =>
  (zD (pd_if (pd_wt (pd_or (pd_not (pt_valD (pd_isi .lst (by decide +kernel) rfl m_isinstance rfl m_list (zA 0)))) (pd_or1 (zY (op_neX hr) od_ne (yA call_lenX cd_len rfl m_len (by decide +kernel) (zB (zA 0) zE)) (zA 1) (zZ _))))) (zJ (zP pd_bl)) pds_nil) (zD (pd_for PassesOwn.never rfl (pdi_list (zA 0)) (zL 2 sc__law_is_row.nd) (zD (pd_if (pd_wt (pd_or (pd_not (pt_valD (pd_isi .tup (by decide +kernel) rfl m_isinstance rfl m_tuple (zA 2)))) (pd_or (zY (op_neX hr) od_ne (yA call_lenX cd_len rfl m_len (by decide +kernel) (zB (zA 2) zE)) zF (zZ _)) (pd_or (pd_not (pt_valD (pd_fn (O__law_whole.mono (by decide)) hr rfl m__law_whole k__law_whole b__law_whole zT (zB (pd_ix ix_X zU (zA 2) zF (fun _ _ => rfl)) zE)))) (pd_or1 (pd_not (pt_valD (pd_fn (O__law_whole.mono (by decide)) hr rfl m__law_whole k__law_whole b__law_whole zT (zB (pd_ix ix_X zU (zA 2) zF (fun _ _ => rfl)) zE))))))))) (zJ (zP pd_bl)) pds_nil) (zJ (pd_if (pd_wt (pd_or (zY op_lt od_lt (pd_ix ix_X zU (zA 2) zF (fun _ _ => rfl)) zF (zZ _)) (pd_or1 (zY (op_neX hr) od_ne (pd_fn (O__law_low.mono (by decide)) hr rfl m__law_low k__law_low b__law_low zT (zB (pd_ix ix_X zU (zA 2) zF (fun _ _ => rfl)) (zB (pd_ix ix_X zU (zA 2) zF (fun _ _ => rfl)) zE))) (zA 2) (zZ _))))) (zJ (zP pd_bl)) pds_nil)))) (zJ (zP pd_bl))))
theorem ok__law_is_table (ht : P.given.tree = none) {f : Addr} {fd : FuncData} (fF : FunG K "_law_is_table" "_law_is_table" s__law_is_table f fd) {f__law_is_row : Addr} {d__law_is_row : FuncData} (O__law_is_row : FnOk P w K mg base CX0 2 f__law_is_row d__law_is_row ["_law_found", "_law_long"] (spF ⟨K, mg⟩ F.k21_is_row)) (b__law_is_row : zV K d__law_is_row ["_law_found", "_law_long"] []) (k__law_is_row : PySem.W.keepIn K (.ref f__law_is_row) = true) (m__law_is_row : mg "_law_is_row" = some (.ref f__law_is_row)) (m_all : mg "all" = none) (m_isinstance : mg "isinstance" = none) (m_len : mg "len" = none) (m_list : mg "list" = none) :
  FnOk P w K mg base CX0 3 f fd ["_law_found", "_law_many", "_law_wide"] (spF ⟨K, mg⟩ F.k21_is_table) :=
 fn_N 3 3 Den.k21_is_table rfl fF sc__law_is_table rfl rfl fun cdv A outer s H hr =>
  (zD (pd_if (pd_wt (pd_or (pd_not (pt_valD (pd_isi .lst (by decide +kernel) rfl m_isinstance rfl m_list (zA 0)))) (pd_or1 (zY (op_neX hr) od_ne (yA call_lenX cd_len rfl m_len (by decide +kernel) (zB (zA 0) zE)) (zA 1) (zZ _))))) (zJ (zP pd_bl)) pds_nil) (zJ (zP (yA (call_allX rfl) cd_all rfl m_all (by decide +kernel) (zB (pd_comp (N' := ["_law_found", "_law_many", "_law_wide", "_law_row_here"]) 1 (CompOk.mk (N := ["_law_found", "_law_many", "_law_wide"]) (fsc := zC s__law_is_table) (N' := ["_law_found", "_law_many", "_law_wide", "_law_row_here"]) rfl (by decide +kernel) (by decide +kernel) (by decide +kernel) (by decide +kernel) (by decide) (by decide +kernel)) rfl (pdi_list (zA 0)) (fun _ _ _ _ _ => (zL 3 (show List.Nodup (["_law_found", "_law_many", "_law_wide", "_law_row_here"] : List Str) by decide +kernel))) (fun _ _ _ _ _ => (pd_fn (O__law_is_row.mono (by decide)) hr rfl m__law_is_row k__law_is_row b__law_is_row zT (zB (zA 3) (zB (zA 2) zE))))) zE)))))
theorem ok__law_table (ht : P.given.tree = none) {f : Addr} {fd : FuncData} (fF : FunG K "_law_table" "_law_table" s__law_table f fd) {f__law_great : Addr} {d__law_great : FuncData} (O__law_great : FnOk P w K mg base CX0 1 f__law_great d__law_great ["_law_cell"] (spF ⟨K, mg⟩ F.k21_great)) (b__law_great : zV K d__law_great ["_law_cell"] []) (k__law_great : PySem.W.keepIn K (.ref f__law_great) = true) (m__law_great : mg "_law_great" = some (.ref f__law_great)) {f__law_row : Addr} {d__law_row : FuncData} (O__law_row : FnOk P w K mg base CX0 3 f__law_row d__law_row ["_law_number", "_law_long"] (spF ⟨K, mg⟩ F.k24_row)) (b__law_row : zV K d__law_row ["_law_number", "_law_long"] []) (k__law_row : PySem.W.keepIn K (.ref f__law_row) = true) (m__law_row : mg "_law_row" = some (.ref f__law_row)) {f__law_mix : Addr} {d__law_mix : FuncData} (O__law_mix : FnOk P w K mg base CX0 3 f__law_mix d__law_mix ["_law_rows", "_law_shares", "_law_long"] (spF ⟨K, mg⟩ F.k21_mix)) (b__law_mix : zV K d__law_mix ["_law_rows", "_law_shares", "_law_long"] []) (k__law_mix : PySem.W.keepIn K (.ref f__law_mix) = true) (m__law_mix : mg "_law_mix" = some (.ref f__law_mix)) (m_len : mg "len" = none) (m_range : mg "range" = none) :
  FnOk P w K mg base CX0 4 f fd ["_law_cells", "_law_wide", "_law_mixing"] (spF ⟨K, mg⟩ F.k24_table) :=
 fn_N 8 3 Den.k24_table rfl fF sc__law_table rfl rfl fun cdv A outer s H hr =>
  (zD (zS 3 sc__law_table.nd (pd_lst zE)) (zD (pd_for PassesOwn.never rfl (pdi_range1 rfl m_range (yA call_lenX cd_len rfl m_len (by decide +kernel) (zB (zA 0) zE))) (zL 4 sc__law_table.nd) (zD (zS 5 sc__law_table.nd (pd_fn (O__law_great.mono (by decide)) hr rfl m__law_great k__law_great b__law_great zT (zB (pd_ix ix_X zU (zA 0) (zA 4) (fun _ _ => rfl)) zE))) (zD (zS 6 sc__law_table.nd (pd_fn (O__law_row.mono (by decide)) hr rfl m__law_row k__law_row b__law_row zT (zB (pd_op (op_fdivX hr ht rfl sc__law_table.gen sc__law_table.co) od_fdiv (zA 5) zF) (zB (zA 1) zE)))) (zD (pd_if (pd_wt (pd_and (pt_valD (zA 2)) (pd_and (zY op_gt od_gt (pd_op op_modN od_mod (zA 5) zF) zF (zZ _)) (pd_and1 (zY op_gt od_gt (zA 4) zF (zZ _)))))) (zD (zS 7 sc__law_table.nd (pd_fn (O__law_row.mono (by decide)) hr rfl m__law_row k__law_row b__law_row zT (zB (pd_op (op_fdivX hr ht rfl sc__law_table.gen sc__law_table.co) od_fdiv (zA 5) zF) (zB (zA 4) zE)))) (zJ (zS 6 sc__law_table.nd (pd_fn (O__law_mix.mono (by decide)) hr rfl m__law_mix k__law_mix b__law_mix zT (zB (zA 3) (zB (zA 7) (zB (zA 1) zE))))))) pds_nil) (zJ (pd_expr (pd_append (zA 3) (zA 6)))))))) (zJ (zP (zA 3)))))
theorem ok__law_dot (ht : P.given.tree = none) {f : Addr} {fd : FuncData} (fF : FunG K "_law_dot" "_law_dot" s__law_dot f fd) {f__law_plus : Addr} {d__law_plus : FuncData} (O__law_plus : FnOk P w K mg base CX0 2 f__law_plus d__law_plus ["_law_one", "_law_other"] (spF ⟨K, mg⟩ F.k21_plus)) (b__law_plus : zV K d__law_plus ["_law_one", "_law_other"] []) (k__law_plus : PySem.W.keepIn K (.ref f__law_plus) = true) (m__law_plus : mg "_law_plus" = some (.ref f__law_plus)) {f__law_times : Addr} {d__law_times : FuncData} (O__law_times : FnOk P w K mg base CX0 2 f__law_times d__law_times ["_law_one", "_law_other"] (spF ⟨K, mg⟩ F.k21_times)) (b__law_times : zV K d__law_times ["_law_one", "_law_other"] []) (k__law_times : PySem.W.keepIn K (.ref f__law_times) = true) (m__law_times : mg "_law_times" = some (.ref f__law_times)) (m_zip : mg "zip" = none) :
  FnOk P w K mg base CX0 3 f fd ["_law_one", "_law_other"] (spF ⟨K, mg⟩ F.k28_dot) :=
 fn_N 5 2 Den.k28_dot rfl fF sc__law_dot rfl rfl fun cdv A outer s H hr =>
  (zD (zS 2 sc__law_dot.nd (pd_tup (zB zF (zB zF zE)))) (zD (pd_for PassesOwn.never rfl (pdi_zip rfl m_zip (zA 0) (zA 1)) (pdg_tup rfl (zX (zL 3 sc__law_dot.nd) (zX (zL 4 sc__law_dot.nd) pdgs_nil))) (zJ (zS 2 sc__law_dot.nd (pd_fn (O__law_plus.mono (by decide)) hr rfl m__law_plus k__law_plus b__law_plus zT (zB (zA 2) (zB (pd_fn (O__law_times.mono (by decide)) hr rfl m__law_times k__law_times b__law_times zT (zB (zA 3) (zB (zA 4) zE))) zE)))))) (zJ (zP (zA 2)))))
theorem ok__law_answers (ht : P.given.tree = none) {f : Addr} {fd : FuncData} (fF : FunG K "_law_answers" "_law_answers" s__law_answers f fd) {f__law_dot : Addr} {d__law_dot : FuncData} (O__law_dot : FnOk P w K mg base CX0 3 f__law_dot d__law_dot ["_law_one", "_law_other"] (spF ⟨K, mg⟩ F.k28_dot)) (b__law_dot : zV K d__law_dot ["_law_one", "_law_other"] []) (k__law_dot : PySem.W.keepIn K (.ref f__law_dot) = true) (m__law_dot : mg "_law_dot" = some (.ref f__law_dot)) (m_all : mg "all" = none) (m_zip : mg "zip" = none) :
  FnOk P w K mg base CX0 4 f fd ["_law_table_here", "_law_wants", "_law_shares"] (spF ⟨K, mg⟩ F.k28_answers) :=
 fn_N 3 3 Den.k28_answers rfl fF sc__law_answers rfl rfl fun cdv A outer s H hr =>
  (zJ (zP (yA (call_allX rfl) cd_all rfl m_all (by decide +kernel) (zB (pd_comp (N' := ["_law_table_here", "_law_wants", "_law_shares", "_law_row_here", "_law_want"]) 2 (CompOk.mk (N := ["_law_table_here", "_law_wants", "_law_shares"]) (fsc := zC s__law_answers) (N' := ["_law_table_here", "_law_wants", "_law_shares", "_law_row_here", "_law_want"]) rfl (by decide +kernel) (by decide +kernel) (by decide +kernel) (by decide +kernel) (by decide) (by decide +kernel)) rfl (pdi_zip rfl m_zip (zA 0) (zA 1)) (fun _ _ _ _ _ => (pdg_tup rfl (zX (zL 3 (show List.Nodup (["_law_table_here", "_law_wants", "_law_shares", "_law_row_here", "_law_want"] : List Str) by decide +kernel)) (zX (zL 4 (show List.Nodup (["_law_table_here", "_law_wants", "_law_shares", "_law_row_here", "_law_want"] : List Str) by decide +kernel)) pdgs_nil)))) (fun _ _ _ _ _ => (pd_cmp (op_eqX hr) od_eq (pd_fn (O__law_dot.mono (by decide)) hr rfl m__law_dot k__law_dot b__law_dot zT (zB (zA 3) (zB (zA 2) zE))) (zA 4) (zZ _)))) zE))))
theorem ok__law_none (ht : P.given.tree = none) {f : Addr} {fd : FuncData} (fF : FunG K "_law_none" "_law_none" s__law_none f fd) {f__law_is_row : Addr} {d__law_is_row : FuncData} (O__law_is_row : FnOk P w K mg base CX0 2 f__law_is_row d__law_is_row ["_law_found", "_law_long"] (spF ⟨K, mg⟩ F.k21_is_row)) (b__law_is_row : zV K d__law_is_row ["_law_found", "_law_long"] []) (k__law_is_row : PySem.W.keepIn K (.ref f__law_is_row) = true) (m__law_is_row : mg "_law_is_row" = some (.ref f__law_is_row)) {f__law_mix : Addr} {d__law_mix : FuncData} (O__law_mix : FnOk P w K mg base CX0 3 f__law_mix d__law_mix ["_law_rows", "_law_shares", "_law_long"] (spF ⟨K, mg⟩ F.k21_mix)) (b__law_mix : zV K d__law_mix ["_law_rows", "_law_shares", "_law_long"] []) (k__law_mix : PySem.W.keepIn K (.ref f__law_mix) = true) (m__law_mix : mg "_law_mix" = some (.ref f__law_mix)) {f__law_dot : Addr} {d__law_dot : FuncData} (O__law_dot : FnOk P w K mg base CX0 3 f__law_dot d__law_dot ["_law_one", "_law_other"] (spF ⟨K, mg⟩ F.k28_dot)) (b__law_dot : zV K d__law_dot ["_law_one", "_law_other"] []) (k__law_dot : PySem.W.keepIn K (.ref f__law_dot) = true) (m__law_dot : mg "_law_dot" = some (.ref f__law_dot)) (m_len : mg "len" = none) :
  FnOk P w K mg base CX0 4 f fd ["_law_table_here", "_law_wants", "_law_wide", "_law_found"] (spF ⟨K, mg⟩ F.k28_none) :=
 fn_N 4 4 Den.k28_none rfl fF sc__law_none rfl rfl fun cdv A outer s H hr =>
  (zD (pd_if (pd_wt (pd_or (zY (op_neX hr) od_ne (yA call_lenX cd_len rfl m_len (by decide +kernel) (zB (zA 3) zE)) zF (zZ _)) (pd_or (zY (op_neX hr) od_ne (pd_ix ix_X zU (zA 3) zF (fun _ _ => rfl)) pd_str (zZ _)) (pd_or1 (pd_not (pt_valD (pd_fn (O__law_is_row.mono (by decide)) hr rfl m__law_is_row k__law_is_row b__law_is_row zT (zB (pd_ix ix_X zU (zA 3) zF (fun _ _ => rfl)) (zB (yA call_lenX cd_len rfl m_len (by decide +kernel) (zB (zA 0) zE)) zE))))))))) (zJ (zP pd_bl)) pds_nil) (zJ (zP (pd_andV (pd_cmp (op_eqX hr) od_eq (pd_fn (O__law_mix.mono (by decide)) hr rfl m__law_mix k__law_mix b__law_mix zT (zB (zA 0) (zB (pd_ix ix_X zU (zA 3) zF (fun _ _ => rfl)) (zB (zA 2) zE)))) (pd_op op_mulX od_mul (pd_lst (zB (pd_tup (zB zF (zB zF zE))) zE)) (zA 2)) (zZ _)) (pd_oneV (pd_cmp (op_eqX hr) od_eq (pd_fn (O__law_dot.mono (by decide)) hr rfl m__law_dot k__law_dot b__law_dot zT (zB (pd_ix ix_X zU (zA 3) zF (fun _ _ => rfl)) (zB (zA 1) zE))) (pd_tup (zB zF (zB zF zE))) (zZ _)))))))
theorem ok__law_is (ht : P.given.tree = none) {f : Addr} {fd : FuncData} (fF : FunG K "_law_is" "_law_is" s__law_is f fd) {f__law_is_row : Addr} {d__law_is_row : FuncData} (O__law_is_row : FnOk P w K mg base CX0 2 f__law_is_row d__law_is_row ["_law_found", "_law_long"] (spF ⟨K, mg⟩ F.k21_is_row)) (b__law_is_row : zV K d__law_is_row ["_law_found", "_law_long"] []) (k__law_is_row : PySem.W.keepIn K (.ref f__law_is_row) = true) (m__law_is_row : mg "_law_is_row" = some (.ref f__law_is_row)) {f__law_is_table : Addr} {d__law_is_table : FuncData} (O__law_is_table : FnOk P w K mg base CX0 3 f__law_is_table d__law_is_table ["_law_found", "_law_many", "_law_wide"] (spF ⟨K, mg⟩ F.k21_is_table)) (b__law_is_table : zV K d__law_is_table ["_law_found", "_law_many", "_law_wide"] []) (k__law_is_table : PySem.W.keepIn K (.ref f__law_is_table) = true) (m__law_is_table : mg "_law_is_table" = some (.ref f__law_is_table)) {f__law_answers : Addr} {d__law_answers : FuncData} (O__law_answers : FnOk P w K mg base CX0 4 f__law_answers d__law_answers ["_law_table_here", "_law_wants", "_law_shares"] (spF ⟨K, mg⟩ F.k28_answers)) (b__law_answers : zV K d__law_answers ["_law_table_here", "_law_wants", "_law_shares"] []) (k__law_answers : PySem.W.keepIn K (.ref f__law_answers) = true) (m__law_answers : mg "_law_answers" = some (.ref f__law_answers)) {f_reduced : Addr} {d_reduced : FuncData} (O_reduced : FnOk P w K mg base CX0 7 f_reduced d_reduced ["table", "wide"] (spF ⟨K, mg⟩ F.reduced)) (b_reduced : zV K d_reduced ["table", "wide"] []) (k_reduced : PySem.W.keepIn K (.ref f_reduced) = true) (m_reduced : mg "reduced" = some (.ref f_reduced)) (m_all : mg "all" = none) (m_int : mg "int" = none) (m_len : mg "len" = none) (m_range : mg "range" = none) :
  FnOk P w K mg base CX0 8 f fd ["_law_table_here", "_law_wants", "_law_wide", "_law_found"] (spF ⟨K, mg⟩ F.k28_is) :=
 fn_N 9 4 Den.k28_is rfl fF sc__law_is rfl rfl fun cdv A outer s H hr =>
  (zD (pd_if (pd_wt (pd_or (zY (op_neX hr) od_ne (yA call_lenX cd_len rfl m_len (by decide +kernel) (zB (zA 3) zE)) zF (zZ _)) (pd_or (pd_not (pt_valD (pd_fn (O__law_is_row.mono (by decide)) hr rfl m__law_is_row k__law_is_row b__law_is_row zT (zB (pd_ix ix_X zU (zA 3) zF (fun _ _ => rfl)) (zB (zA 2) zE))))) (pd_or1 (pd_not (pt_valD (pd_fn (O__law_is_table.mono (by decide)) hr rfl m__law_is_table k__law_is_table b__law_is_table zT (zB (pd_ix ix_X zU (zA 3) zF (fun _ _ => rfl)) (zB (yA call_lenX cd_len rfl m_len (by decide +kernel) (zB (pd_ix ix_X zU (zA 3) zF (fun _ _ => rfl)) zE)) (zB (zA 2) zE)))))))))) (zJ (zP pd_bl)) pds_nil) (zD (pd_asg (pd_slice (zA 3) (pdo_at zF) pdo_no) (pdg_tup rfl (zX (zL 4 sc__law_is.nd) (zX (zL 5 sc__law_is.nd) pdgs_nil)))) (zD (pd_if (pd_not (pt_valD (pd_fn (O__law_answers.mono (by decide)) hr rfl m__law_answers k__law_answers b__law_answers zT (zB (zA 0) (zB (zA 1) (zB (zA 4) zE)))))) (zJ (zP pd_bl)) pds_nil) (zD (pd_if (pd_not (pt_valD (yA (call_allX rfl) cd_all rfl m_all (by decide +kernel) (zB (pd_comp (N' := ["_law_table_here", "_law_wants", "_law_wide", "_law_found", "_law_shares", "_law_ways", "_law_firsts", "_law_free", "_law_k", "_law_way"]) 1 (CompOk.mk (N := ["_law_table_here", "_law_wants", "_law_wide", "_law_found", "_law_shares", "_law_ways", "_law_firsts", "_law_free", "_law_k"]) (fsc := zC s__law_is) (N' := ["_law_table_here", "_law_wants", "_law_wide", "_law_found", "_law_shares", "_law_ways", "_law_firsts", "_law_free", "_law_k", "_law_way"]) rfl (by decide +kernel) (by decide +kernel) (by decide +kernel) (by decide +kernel) (by decide) (by decide +kernel)) rfl (pdi_list (zA 5)) (fun _ _ _ _ _ => (zL 9 (show List.Nodup (["_law_table_here", "_law_wants", "_law_wide", "_law_found", "_law_shares", "_law_ways", "_law_firsts", "_law_free", "_law_k", "_law_way"] : List Str) by decide +kernel))) (fun _ _ _ _ _ => (pd_fn (O__law_answers.mono (by decide)) hr rfl m__law_answers k__law_answers b__law_answers zT (zB (zA 0) (zB (pd_op op_mulX od_mul (pd_lst (zB (pd_tup (zB zF (zB zF zE))) zE)) (yA call_lenX cd_len rfl m_len (by decide +kernel) (zB (zA 0) zE))) (zB (zA 9) zE)))))) zE)))) (zJ (zP pd_bl)) pds_nil) (zD (zS 6 sc__law_is.nd (pd_ix ix_X zU (pd_fn (O_reduced.mono (by decide)) hr rfl m_reduced k_reduced b_reduced zT (zB (zA 0) (zB (zA 2) zE))) zF (fun _ _ => rfl))) (zD (zS 7 sc__law_is.nd (pd_compI (N' := ["_law_table_here", "_law_wants", "_law_wide", "_law_found", "_law_shares", "_law_ways", "_law_firsts", "_law_free", "_law_k~", "_law_k"]) 1 (CompOk.mk (N := ["_law_table_here", "_law_wants", "_law_wide", "_law_found", "_law_shares", "_law_ways", "_law_firsts", "_law_free", "_law_k"]) (fsc := zC s__law_is) (N' := ["_law_table_here", "_law_wants", "_law_wide", "_law_found", "_law_shares", "_law_ways", "_law_firsts", "_law_free", "_law_k~", "_law_k"]) rfl (by decide +kernel) (by decide +kernel) (by decide +kernel) (by decide +kernel) (by decide) (by decide +kernel)) rfl (pdi_range1 rfl m_range (zA 2)) (fun _ _ _ _ _ => (zL 9 (show List.Nodup (["_law_table_here", "_law_wants", "_law_wide", "_law_found", "_law_shares", "_law_ways", "_law_firsts", "_law_free", "_law_k~", "_law_k"] : List Str) by decide +kernel))) (fun _ _ _ _ _ => (zY (op_notinX hr) od_notin (zA 9) (zA 6) rfl)) (fun _ _ _ _ _ => (zA 9)))) (zD (pd_if (zY (op_neX hr) od_ne (yA call_lenX cd_len rfl m_len (by decide +kernel) (zB (zA 5) zE)) (yA call_lenX cd_len rfl m_len (by decide +kernel) (zB (zA 7) zE)) (zZ _)) (zJ (zP pd_bl)) pds_nil) (zD (pd_for PassesOwn.never rfl (pdi_range1 rfl m_range (yA call_lenX cd_len rfl m_len (by decide +kernel) (zB (zA 7) zE))) (zL 8 sc__law_is.nd) (zD (pd_if (zY (op_neX hr) od_ne (pd_comp (N' := ["_law_table_here", "_law_wants", "_law_wide", "_law_found", "_law_shares", "_law_ways", "_law_firsts", "_law_free", "_law_k", "_law_way"]) 1 (CompOk.mk (N := ["_law_table_here", "_law_wants", "_law_wide", "_law_found", "_law_shares", "_law_ways", "_law_firsts", "_law_free", "_law_k"]) (fsc := zC s__law_is) (N' := ["_law_table_here", "_law_wants", "_law_wide", "_law_found", "_law_shares", "_law_ways", "_law_firsts", "_law_free", "_law_k", "_law_way"]) rfl (by decide +kernel) (by decide +kernel) (by decide +kernel) (by decide +kernel) (by decide) (by decide +kernel)) rfl (pdi_list (zA 5)) (fun _ _ _ _ _ => (zL 9 (show List.Nodup (["_law_table_here", "_law_wants", "_law_wide", "_law_found", "_law_shares", "_law_ways", "_law_firsts", "_law_free", "_law_k", "_law_way"] : List Str) by decide +kernel))) (fun _ _ _ _ _ => (pd_ix ix_X zU (zA 9) (pd_ix ix_X zU (zA 7) (zA 8) (fun _ _ => rfl)) (fun _ _ => rfl)))) (pd_comp (N' := ["_law_table_here", "_law_wants", "_law_wide", "_law_found", "_law_shares", "_law_ways", "_law_firsts", "_law_free", "_law_k", "_law_j"]) 1 (CompOk.mk (N := ["_law_table_here", "_law_wants", "_law_wide", "_law_found", "_law_shares", "_law_ways", "_law_firsts", "_law_free", "_law_k"]) (fsc := zC s__law_is) (N' := ["_law_table_here", "_law_wants", "_law_wide", "_law_found", "_law_shares", "_law_ways", "_law_firsts", "_law_free", "_law_k", "_law_j"]) rfl (by decide +kernel) (by decide +kernel) (by decide +kernel) (by decide +kernel) (by decide) (by decide +kernel)) rfl (pdi_range1 rfl m_range (yA call_lenX cd_len rfl m_len (by decide +kernel) (zB (zA 5) zE))) (fun _ _ _ _ _ => (zL 9 (show List.Nodup (["_law_table_here", "_law_wants", "_law_wide", "_law_found", "_law_shares", "_law_ways", "_law_firsts", "_law_free", "_law_k", "_law_j"] : List Str) by decide +kernel))) (fun _ _ _ _ _ => (pd_tup (zB (pd_callTy call_int1 cd_int rfl m_int (by decide +kernel) (zB (pd_cmp (op_eqX hr) od_eq (zA 9) (zA 8) (zZ _)) zE)) (zB zF zE))))) (zZ _)) (zJ (zP pd_bl)) pds_nil) (zJ (pd_if (zY (op_neX hr) od_ne (pd_ix ix_X zU (zA 4) (pd_ix ix_X zU (zA 7) (zA 8) (fun _ _ => rfl)) (fun _ _ => rfl)) (pd_tup (zB zF (zB zF zE))) (zZ _)) (zJ (zP pd_bl)) pds_nil)))) (zJ (zP pd_bl))))))))))
theorem ok_law (ht : P.given.tree = none) {f : Addr} {fd : FuncData} (fF : FunG K "law" "law" s_law f fd) {f__law_cell_at : Addr} {d__law_cell_at : FuncData} (O__law_cell_at : FnOk P w K mg base CX0 1 f__law_cell_at d__law_cell_at ["_law_script", "_law_k"] (spF ⟨K, mg⟩ F.k11_cell_at)) (b__law_cell_at : zV K d__law_cell_at ["_law_script", "_law_k"] []) (k__law_cell_at : PySem.W.keepIn K (.ref f__law_cell_at) = true) (m__law_cell_at : mg "_law_cell_at" = some (.ref f__law_cell_at)) {f__law_table : Addr} {d__law_table : FuncData} (O__law_table : FnOk P w K mg base CX0 4 f__law_table d__law_table ["_law_cells", "_law_wide", "_law_mixing"] (spF ⟨K, mg⟩ F.k24_table)) (b__law_table : zV K d__law_table ["_law_cells", "_law_wide", "_law_mixing"] []) (k__law_table : PySem.W.keepIn K (.ref f__law_table) = true) (m__law_table : mg "_law_table" = some (.ref f__law_table)) {f__law_great : Addr} {d__law_great : FuncData} (O__law_great : FnOk P w K mg base CX0 1 f__law_great d__law_great ["_law_cell"] (spF ⟨K, mg⟩ F.k21_great)) (b__law_great : zV K d__law_great ["_law_cell"] []) (k__law_great : PySem.W.keepIn K (.ref f__law_great) = true) (m__law_great : mg "_law_great" = some (.ref f__law_great)) {f__law_row : Addr} {d__law_row : FuncData} (O__law_row : FnOk P w K mg base CX0 3 f__law_row d__law_row ["_law_number", "_law_long"] (spF ⟨K, mg⟩ F.k24_row)) (b__law_row : zV K d__law_row ["_law_number", "_law_long"] []) (k__law_row : PySem.W.keepIn K (.ref f__law_row) = true) (m__law_row : mg "_law_row" = some (.ref f__law_row)) {f__law_dot : Addr} {d__law_dot : FuncData} (O__law_dot : FnOk P w K mg base CX0 3 f__law_dot d__law_dot ["_law_one", "_law_other"] (spF ⟨K, mg⟩ F.k28_dot)) (b__law_dot : zV K d__law_dot ["_law_one", "_law_other"] []) (k__law_dot : PySem.W.keepIn K (.ref f__law_dot) = true) (m__law_dot : mg "_law_dot" = some (.ref f__law_dot)) {f__law_plus : Addr} {d__law_plus : FuncData} (O__law_plus : FnOk P w K mg base CX0 2 f__law_plus d__law_plus ["_law_one", "_law_other"] (spF ⟨K, mg⟩ F.k21_plus)) (b__law_plus : zV K d__law_plus ["_law_one", "_law_other"] []) (k__law_plus : PySem.W.keepIn K (.ref f__law_plus) = true) (m__law_plus : mg "_law_plus" = some (.ref f__law_plus)) {f_answer : Addr} {d_answer : FuncData} (O_answer : FnOk P w K mg base CX0 8 f_answer d_answer ["table", "wants", "wide"] (spF ⟨K, mg⟩ F.answer)) (b_answer : zV K d_answer ["table", "wants", "wide"] []) (k_answer : PySem.W.keepIn K (.ref f_answer) = true) (m_answer : mg "answer" = some (.ref f_answer)) {f__law_none : Addr} {d__law_none : FuncData} (O__law_none : FnOk P w K mg base CX0 4 f__law_none d__law_none ["_law_table_here", "_law_wants", "_law_wide", "_law_found"] (spF ⟨K, mg⟩ F.k28_none)) (b__law_none : zV K d__law_none ["_law_table_here", "_law_wants", "_law_wide", "_law_found"] []) (k__law_none : PySem.W.keepIn K (.ref f__law_none) = true) (m__law_none : mg "_law_none" = some (.ref f__law_none)) {f__law_is : Addr} {d__law_is : FuncData} (O__law_is : FnOk P w K mg base CX0 8 f__law_is d__law_is ["_law_table_here", "_law_wants", "_law_wide", "_law_found"] (spF ⟨K, mg⟩ F.k28_is)) (b__law_is : zV K d__law_is ["_law_table_here", "_law_wants", "_law_wide", "_law_found"] []) (k__law_is : PySem.W.keepIn K (.ref f__law_is) = true) (m__law_is : mg "_law_is" = some (.ref f__law_is)) {f__law_mix : Addr} {d__law_mix : FuncData} (O__law_mix : FnOk P w K mg base CX0 3 f__law_mix d__law_mix ["_law_rows", "_law_shares", "_law_long"] (spF ⟨K, mg⟩ F.k21_mix)) (b__law_mix : zV K d__law_mix ["_law_rows", "_law_shares", "_law_long"] []) (k__law_mix : PySem.W.keepIn K (.ref f__law_mix) = true) (m__law_mix : mg "_law_mix" = some (.ref f__law_mix)) {f__law_answers : Addr} {d__law_answers : FuncData} (O__law_answers : FnOk P w K mg base CX0 4 f__law_answers d__law_answers ["_law_table_here", "_law_wants", "_law_shares"] (spF ⟨K, mg⟩ F.k28_answers)) (b__law_answers : zV K d__law_answers ["_law_table_here", "_law_wants", "_law_shares"] []) (k__law_answers : PySem.W.keepIn K (.ref f__law_answers) = true) (m__law_answers : mg "_law_answers" = some (.ref f__law_answers)) (m_isinstance : mg "isinstance" = none) (m_len : mg "len" = none) (m_list : mg "list" = none) (m_range : mg "range" = none) (m_tuple : mg "tuple" = none) (m_zip : mg "zip" = none) :
  FnOk P w K mg base CX0 9 f fd ["_law_script"] (spF ⟨K, mg⟩ F.k28_law) :=
 fn_N 14 1 Den.k28_law rfl fF sc_law rfl rfl fun cdv A outer s H hr =>
  (zD (zS 1 sc_law.nd (pd_op op_modN od_mod (pd_fn (O__law_cell_at.mono (by decide)) hr rfl m__law_cell_at k__law_cell_at b__law_cell_at zT (zB (zA 0) (zB zF zE))) zF)) (zD (zS 2 sc_law.nd (pd_op op_modN od_mod (pd_fn (O__law_cell_at.mono (by decide)) hr rfl m__law_cell_at k__law_cell_at b__law_cell_at zT (zB (zA 0) (zB zF zE))) zF)) (zD (zS 3 sc_law.nd (pd_op op_modN od_mod (pd_fn (O__law_cell_at.mono (by decide)) hr rfl m__law_cell_at k__law_cell_at b__law_cell_at zT (zB (zA 0) (zB zF zE))) zF)) (zD (zS 4 sc_law.nd (pd_fn (O__law_table.mono (by decide)) hr rfl m__law_table k__law_table b__law_table zT (zB (pd_comp (N' := ["_law_script", "_law_many", "_law_wide", "_law_way", "_law_table_here", "_law_number", "_law_wants", "_law_shares", "_law_handed", "_law_found", "_law_cell", "_law_mix_here", "_law_other", "_law_again", "_law_k"]) 1 (CompOk.mk (N := ["_law_script", "_law_many", "_law_wide", "_law_way", "_law_table_here", "_law_number", "_law_wants", "_law_shares", "_law_handed", "_law_found", "_law_cell", "_law_mix_here", "_law_other", "_law_again"]) (fsc := zC s_law) (N' := ["_law_script", "_law_many", "_law_wide", "_law_way", "_law_table_here", "_law_number", "_law_wants", "_law_shares", "_law_handed", "_law_found", "_law_cell", "_law_mix_here", "_law_other", "_law_again", "_law_k"]) rfl (by decide +kernel) (by decide +kernel) (by decide +kernel) (by decide +kernel) (by decide) (by decide +kernel)) rfl (pdi_range1 rfl m_range (zA 1)) (fun _ _ _ _ _ => (zL 14 (show List.Nodup (["_law_script", "_law_many", "_law_wide", "_law_way", "_law_table_here", "_law_number", "_law_wants", "_law_shares", "_law_handed", "_law_found", "_law_cell", "_law_mix_here", "_law_other", "_law_again", "_law_k"] : List Str) by decide +kernel))) (fun _ _ _ _ _ => (pd_fn (O__law_cell_at.mono (by decide)) hr rfl m__law_cell_at k__law_cell_at b__law_cell_at zT (zB (zA 0) (zB (pd_op op_addX od_add zF (zA 14)) zE))))) (zB (zA 2) (zB (pd_cmp (op_eqX hr) od_eq (pd_op op_modN od_mod (zA 3) zF) zF (zZ _)) zE))))) (zD (zS 5 sc_law.nd (pd_fn (O__law_great.mono (by decide)) hr rfl m__law_great k__law_great b__law_great zT (zB (pd_op op_addX od_add (pd_fn (O__law_cell_at.mono (by decide)) hr rfl m__law_cell_at k__law_cell_at b__law_cell_at zT (zB (zA 0) (zB zF zE))) zF) zE))) (zD (zS 6 sc_law.nd (pd_fn (O__law_row.mono (by decide)) hr rfl m__law_row k__law_row b__law_row zT (zB (zA 5) (zB (zA 1) zE)))) (zD (pd_if (zY op_gt od_gt (zA 3) zF (zZ _)) (zD (zS 7 sc_law.nd (pd_fn (O__law_row.mono (by decide)) hr rfl m__law_row k__law_row b__law_row zT (zB (zA 5) (zB (zA 2) zE)))) (zJ (pd_setComp 6 (N' := ["_law_script", "_law_many", "_law_wide", "_law_way", "_law_table_here", "_law_number", "_law_wants", "_law_shares", "_law_handed", "_law_found", "_law_cell", "_law_mix_here", "_law_other", "_law_again", "_law_row_here"]) 1 (CompOk.mk (N := ["_law_script", "_law_many", "_law_wide", "_law_way", "_law_table_here", "_law_number", "_law_wants", "_law_shares", "_law_handed", "_law_found", "_law_cell", "_law_mix_here", "_law_other", "_law_again"]) (fsc := zC s_law) (N' := ["_law_script", "_law_many", "_law_wide", "_law_way", "_law_table_here", "_law_number", "_law_wants", "_law_shares", "_law_handed", "_law_found", "_law_cell", "_law_mix_here", "_law_other", "_law_again", "_law_row_here"]) rfl (by decide +kernel) (by decide +kernel) (by decide +kernel) (by decide +kernel) (by decide) (by decide +kernel)) rfl (pdi_list (zA 4)) (fun _ _ _ _ _ => (zL 14 (show List.Nodup (["_law_script", "_law_many", "_law_wide", "_law_way", "_law_table_here", "_law_number", "_law_wants", "_law_shares", "_law_handed", "_law_found", "_law_cell", "_law_mix_here", "_law_other", "_law_again", "_law_row_here"] : List Str) by decide +kernel))) (fun _ _ _ _ _ => (pd_fn (O__law_dot.mono (by decide)) hr rfl m__law_dot k__law_dot b__law_dot zT (zB (zA 14) (zB (zA 7) zE)))) sc_law.nd))) pds_nil) (zD (pd_if (pd_wt (pd_and (zY (op_eqX hr) od_eq (zA 3) zF (zZ _)) (pd_and1 (zY op_gt od_gt (zA 1) zF (zZ _))))) (zJ (pd_asg (pd_fn (O__law_plus.mono (by decide)) hr rfl m__law_plus k__law_plus b__law_plus zT (zB (pd_ix ix_X zU (zA 6) (pd_op op_modN od_mod (zA 5) (zA 1)) (fun _ _ => rfl)) (zB (pd_tup (zB zF (zB zF zE))) zE))) (pdg_sub (zA 6) (pd_op op_modN od_mod (zA 5) (zA 1))))) pds_nil) (zD (zS 8 sc_law.nd (pd_lst (zB (pd_comp (N' := ["_law_script", "_law_many", "_law_wide", "_law_way", "_law_table_here", "_law_number", "_law_wants", "_law_shares", "_law_handed", "_law_found", "_law_cell", "_law_mix_here", "_law_other", "_law_again", "_law_row_here"]) 1 (CompOk.mk (N := ["_law_script", "_law_many", "_law_wide", "_law_way", "_law_table_here", "_law_number", "_law_wants", "_law_shares", "_law_handed", "_law_found", "_law_cell", "_law_mix_here", "_law_other", "_law_again"]) (fsc := zC s_law) (N' := ["_law_script", "_law_many", "_law_wide", "_law_way", "_law_table_here", "_law_number", "_law_wants", "_law_shares", "_law_handed", "_law_found", "_law_cell", "_law_mix_here", "_law_other", "_law_again", "_law_row_here"]) rfl (by decide +kernel) (by decide +kernel) (by decide +kernel) (by decide +kernel) (by decide) (by decide +kernel)) rfl (pdi_list (zA 4)) (fun _ _ _ _ _ => (zL 14 (show List.Nodup (["_law_script", "_law_many", "_law_wide", "_law_way", "_law_table_here", "_law_number", "_law_wants", "_law_shares", "_law_handed", "_law_found", "_law_cell", "_law_mix_here", "_law_other", "_law_again", "_law_row_here"] : List Str) by decide +kernel))) (fun _ _ _ _ _ => (pd_callTy call_list_of cd_lof rfl m_list (by decide +kernel) (zB (zA 14) zE)))) (zB (pd_callTy call_list_of cd_lof rfl m_list (by decide +kernel) (zB (zA 6) zE)) zE)))) (zD (zS 9 sc_law.nd (pd_fn (O_answer.mono (by decide)) hr rfl m_answer k_answer b_answer zT (zB (pd_ix ix_X zU (zA 8) zF (fun _ _ => rfl)) (zB (pd_ix ix_X zU (zA 8) zF (fun _ _ => rfl)) (zB (zA 2) zE))))) (zD (pd_if (pd_wt (pd_or (pd_not (pt_valD (pd_isi .tup (by decide +kernel) rfl m_isinstance rfl m_tuple (zA 9)))) (pd_or (zY op_lt od_lt (yA call_lenX cd_len rfl m_len (by decide +kernel) (zB (zA 9) zE)) zF (zZ _)) (pd_or1 (zY (op_neX hr) od_ne (zA 8) (pd_lst (zB (zA 4) (zB (zA 6) zE))) (zZ _)))))) (zJ (zP pd_bl)) pds_nil) (zD (pd_if (zY (op_neX hr) od_ne (pd_ix ix_X zU (zA 9) zF (fun _ _ => rfl)) pd_str (zZ _)) (zJ (zP (pd_andV (pd_notV (pd_chain op_lt od_lt op_lt od_lt zF (zA 3) zF)) (pd_oneV (pd_fn (O__law_none.mono (by decide)) hr rfl m__law_none k__law_none b__law_none zT (zB (zA 4) (zB (zA 6) (zB (zA 2) (zB (zA 9) zE))))))))) pds_nil) (zD (pd_if (pd_not (pt_valD (pd_fn (O__law_is.mono (by decide)) hr rfl m__law_is k__law_is b__law_is zT (zB (zA 4) (zB (zA 6) (zB (zA 2) (zB (zA 9) zE))))))) (zJ (zP pd_bl)) pds_nil) (zD (pd_for PassesOwn.never rfl (pdi_list (pd_slice (zA 0) (pdo_at zF) (pdo_at zF))) (zL 10 sc_law.nd) (zD (zS 11 sc_law.nd (pd_fn (O__law_mix.mono (by decide)) hr rfl m__law_mix k__law_mix b__law_mix zT (zB (pd_ix ix_X zU (zA 9) zF (fun _ _ => rfl)) (zB (pd_fn (O__law_row.mono (by decide)) hr rfl m__law_row k__law_row b__law_row zT (zB (pd_fn (O__law_great.mono (by decide)) hr rfl m__law_great k__law_great b__law_great zT (zB (zA 10) zE)) (zB (yA call_lenX cd_len rfl m_len (by decide +kernel) (zB (pd_ix ix_X zU (zA 9) zF (fun _ _ => rfl)) zE)) zE))) (zB (zA 2) zE))))) (zD (pd_setComp 12 (N' := ["_law_script", "_law_many", "_law_wide", "_law_way", "_law_table_here", "_law_number", "_law_wants", "_law_shares", "_law_handed", "_law_found", "_law_cell", "_law_mix_here", "_law_other", "_law_again", "_law_one", "_law_more"]) 2 (CompOk.mk (N := ["_law_script", "_law_many", "_law_wide", "_law_way", "_law_table_here", "_law_number", "_law_wants", "_law_shares", "_law_handed", "_law_found", "_law_cell", "_law_mix_here", "_law_other", "_law_again"]) (fsc := zC s_law) (N' := ["_law_script", "_law_many", "_law_wide", "_law_way", "_law_table_here", "_law_number", "_law_wants", "_law_shares", "_law_handed", "_law_found", "_law_cell", "_law_mix_here", "_law_other", "_law_again", "_law_one", "_law_more"]) rfl (by decide +kernel) (by decide +kernel) (by decide +kernel) (by decide +kernel) (by decide) (by decide +kernel)) rfl (pdi_zip rfl m_zip (pd_ix ix_X zU (zA 9) zF (fun _ _ => rfl)) (zA 11)) (fun _ _ _ _ _ => (pdg_tup rfl (zX (zL 14 (show List.Nodup (["_law_script", "_law_many", "_law_wide", "_law_way", "_law_table_here", "_law_number", "_law_wants", "_law_shares", "_law_handed", "_law_found", "_law_cell", "_law_mix_here", "_law_other", "_law_again", "_law_one", "_law_more"] : List Str) by decide +kernel)) (zX (zL 15 (show List.Nodup (["_law_script", "_law_many", "_law_wide", "_law_way", "_law_table_here", "_law_number", "_law_wants", "_law_shares", "_law_handed", "_law_found", "_law_cell", "_law_mix_here", "_law_other", "_law_again", "_law_one", "_law_more"] : List Str) by decide +kernel)) pdgs_nil)))) (fun _ _ _ _ _ => (pd_fn (O__law_plus.mono (by decide)) hr rfl m__law_plus k__law_plus b__law_plus zT (zB (zA 14) (zB (zA 15) zE)))) sc_law.nd) (zJ (pd_if (pd_not (pt_valD (pd_fn (O__law_answers.mono (by decide)) hr rfl m__law_answers k__law_answers b__law_answers zT (zB (zA 4) (zB (zA 6) (zB (zA 12) zE)))))) (zJ (zP pd_bl)) pds_nil))))) (zD (zS 13 sc_law.nd (pd_fn (O_answer.mono (by decide)) hr rfl m_answer k_answer b_answer zT (zB (zA 4) (zB (zA 6) (zB (zA 2) zE))))) (zJ (zP (pd_cmp (op_eqX hr) od_eq (zA 13) (zA 9) (zZ _)))))))))))))))))))
end
end Tm
end
section
namespace Tm
open PySem PySem.Spec PyProof.Rows L2 Np
def spLaw (K : PySem.W.Frag) : Sp := fun vs H Q _ => ∃ (a : Addr) (ns : List Int), vs = [.ref a] ∧ Only H ∧ SqL K H a (ns.map V.int) ∧ ns.length ≤ 63 ∧ (∀ z ∈ ns, z.natAbs.log2 < 1048577) ∧ ∀ H', Q (.bl true) H'
theorem repL_ints {G : Gx} {H : Hp} {W : Wd} : ∀ ns : List Int, RepL G H W (ns.map D.int) (ns.map V.int)
 | [] => rfl
 | n :: ns => ⟨.int n, _, rfl, rfl, repL_ints ns⟩
theorem sc_of {K : PySem.W.Frag} {H : Hp} {a : Addr} {xs : List V} (hO : Only H) (h : SqL K H a xs) : Sc K H a xs := by
 rcases h with (h | ⟨o, h⟩) | h
 ·rcases hO a with q | ⟨o, ys, q⟩ <;> rw [q] at h <;> cases h
 ·exact .inl ⟨o, h⟩
 ·exact .inr (.inr h)
theorem law_sp {K : PySem.W.Frag} {mg : Str → Option Value} (vs : List V) (H : Hp) (Q : VK) (E : XK) (h : spLaw K vs H Q E) : spF ⟨K, mg⟩ F.k28_law vs H Q E := by
 obtain ⟨a, ns, rfl, hO, hS, hl, hz, q⟩ := h
 obtain ⟨d, S', e, rfl⟩ := (Nm.k28_holds ns ⟨hl, hz⟩).out
 refine ⟨⟨fun _ => 0, []⟩, [.scr (ns.map D.int)], .ok (.bl true) S', ⟨fun i j hi => by simp at hi, fun i o hi => by simp at hi⟩, ⟨.ref a, [], rfl, ⟨a, _, rfl, sc_of hO hS, repL_ints ns⟩, rfl⟩, e, fun H' W' _ _ v rv => ?_⟩
 have rv : v = .bl true := rv
 subst rv
 exact q H'
theorem cst_pair {K : PySem.W.Frag} {mg : Str → Option Value} {x : Str} {c : Addr} {dd : Option Addr} {t0 t1 : Tok} {n : Nat} {sl : Array (Option Value)} {i j : Int} (hm : mg x = some (.ref c)) (l : K.lookup c = some ⟨.type "tuple", dd, .seq #[.int i t0, .int j t1] n, sl⟩) : CstAt K mg x (.tup [.int i, .int j]) :=
 ⟨_, .ref c, hm, rfl, fun H W => ⟨c, [.int i, .int j], rfl, .inr ⟨_, _, _, l, rfl, rfl, by show 2 ≤ sizeLine; decide, .cons ⟨_, rfl⟩ (.cons ⟨_, rfl⟩ .nil)⟩, ⟨_, _, rfl, rfl, ⟨_, _, rfl, rfl, rfl⟩⟩⟩⟩
theorem all_mk {P : Program} {w : World} {K : PySem.W.Frag} {h : Heap} {mg : Str → Option Value} {fa : Addr} (ht : P.given.tree = none) (X : K.In h) (G : h.Ns mainGlobals mg) (hfa : mg "law" = some (.ref fa))
  {f0 : Addr} {od0 an0 : Option Addr} {sl0 : Array (Option Value)} {oc0 kV0 dc0 pm0 cd0 ct0 : Value}
  {f1 : Addr} {od1 an1 : Option Addr} {sl1 : Array (Option Value)} {oc1 kV1 dc1 pm1 cd1 ct1 : Value}
  {f2 : Addr} {od2 an2 : Option Addr} {sl2 : Array (Option Value)} {oc2 kV2 dc2 pm2 cd2 ct2 : Value}
  {f3 : Addr} {od3 an3 : Option Addr} {sl3 : Array (Option Value)} {oc3 kV3 dc3 pm3 cd3 ct3 : Value}
  {f4 : Addr} {od4 an4 : Option Addr} {sl4 : Array (Option Value)} {oc4 kV4 dc4 pm4 cd4 ct4 : Value}
  {f5 : Addr} {od5 an5 : Option Addr} {sl5 : Array (Option Value)} {oc5 kV5 dc5 pm5 cd5 ct5 : Value}
  {f6 : Addr} {od6 an6 : Option Addr} {sl6 : Array (Option Value)} {oc6 kV6 dc6 pm6 cd6 ct6 : Value}
  {f7 : Addr} {od7 an7 : Option Addr} {sl7 : Array (Option Value)} {oc7 kV7 dc7 pm7 cd7 ct7 : Value}
  {f8 : Addr} {od8 an8 : Option Addr} {sl8 : Array (Option Value)} {oc8 kV8 dc8 pm8 cd8 ct8 : Value}
  {f9 : Addr} {od9 an9 : Option Addr} {sl9 : Array (Option Value)} {oc9 kV9 dc9 pm9 cd9 ct9 : Value}
  {f10 : Addr} {od10 an10 : Option Addr} {sl10 : Array (Option Value)} {oc10 kV10 dc10 pm10 cd10 ct10 : Value}
  {T11 : Addr} {nT11 : Nat}
  {f11 : Addr} {od11 an11 : Option Addr} {sl11 : Array (Option Value)} {oc11 kV11 dc11 pm11 cd11 ct11 : Value} {dT11 : Option Addr} {sT11 : Array (Option Value)}
  {f12 : Addr} {od12 an12 : Option Addr} {sl12 : Array (Option Value)} {oc12 kV12 dc12 pm12 cd12 ct12 : Value}
  {f13 : Addr} {od13 an13 : Option Addr} {sl13 : Array (Option Value)} {oc13 kV13 dc13 pm13 cd13 ct13 : Value}
  {f14 : Addr} {od14 an14 : Option Addr} {sl14 : Array (Option Value)} {oc14 kV14 dc14 pm14 cd14 ct14 : Value}
  {f15 : Addr} {od15 an15 : Option Addr} {sl15 : Array (Option Value)} {oc15 kV15 dc15 pm15 cd15 ct15 : Value}
  {f16 : Addr} {od16 an16 : Option Addr} {sl16 : Array (Option Value)} {oc16 kV16 dc16 pm16 cd16 ct16 : Value}
  {f17 : Addr} {od17 an17 : Option Addr} {sl17 : Array (Option Value)} {oc17 kV17 dc17 pm17 cd17 ct17 : Value}
  {f18 : Addr} {od18 an18 : Option Addr} {sl18 : Array (Option Value)} {oc18 kV18 dc18 pm18 cd18 ct18 : Value}
  {f19 : Addr} {od19 an19 : Option Addr} {sl19 : Array (Option Value)} {oc19 kV19 dc19 pm19 cd19 ct19 : Value}
  {f20 : Addr} {od20 an20 : Option Addr} {sl20 : Array (Option Value)} {oc20 kV20 dc20 pm20 cd20 ct20 : Value}
  {f21 : Addr} {od21 an21 : Option Addr} {sl21 : Array (Option Value)} {oc21 kV21 dc21 pm21 cd21 ct21 : Value}
  {f22 : Addr} {od22 an22 : Option Addr} {sl22 : Array (Option Value)} {oc22 kV22 dc22 pm22 cd22 ct22 : Value}
  {f23 : Addr} {od23 an23 : Option Addr} {sl23 : Array (Option Value)} {oc23 kV23 dc23 pm23 cd23 ct23 : Value}
  {f24 : Addr} {od24 an24 : Option Addr} {sl24 : Array (Option Value)} {oc24 kV24 dc24 pm24 cd24 ct24 : Value}
  {f25 : Addr} {od25 an25 : Option Addr} {sl25 : Array (Option Value)} {oc25 kV25 dc25 pm25 cd25 ct25 : Value}
  {f26 : Addr} {od26 an26 : Option Addr} {sl26 : Array (Option Value)} {oc26 kV26 dc26 pm26 cd26 ct26 : Value}
  {f27 : Addr} {od27 an27 : Option Addr} {sl27 : Array (Option Value)} {oc27 kV27 dc27 pm27 cd27 ct27 : Value}
  {f28 : Addr} {od28 an28 : Option Addr} {sl28 : Array (Option Value)} {oc28 kV28 dc28 pm28 cd28 ct28 : Value}
  {f29 : Addr} {od29 an29 : Option Addr} {sl29 : Array (Option Value)} {oc29 kV29 dc29 pm29 cd29 ct29 : Value}
  {f30 : Addr} {od30 an30 : Option Addr} {sl30 : Array (Option Value)} {oc30 kV30 dc30 pm30 cd30 ct30 : Value}
  {f31 : Addr} {od31 an31 : Option Addr} {sl31 : Array (Option Value)} {oc31 kV31 dc31 pm31 cd31 ct31 : Value}
  {f32 : Addr} {od32 an32 : Option Addr} {sl32 : Array (Option Value)} {oc32 kV32 dc32 pm32 cd32 ct32 : Value}
  {f33 : Addr} {od33 an33 : Option Addr} {sl33 : Array (Option Value)} {oc33 kV33 dc33 pm33 cd33 ct33 : Value}
  {f34 : Addr} {od34 an34 : Option Addr} {sl34 : Array (Option Value)} {oc34 kV34 dc34 pm34 cd34 ct34 : Value}
  {f35 : Addr} {od35 an35 : Option Addr} {sl35 : Array (Option Value)} {oc35 kV35 dc35 pm35 cd35 ct35 : Value}
  {f36 : Addr} {od36 an36 : Option Addr} {sl36 : Array (Option Value)} {oc36 kV36 dc36 pm36 cd36 ct36 : Value}
  {f37 : Addr} {od37 an37 : Option Addr} {sl37 : Array (Option Value)} {oc37 kV37 dc37 pm37 cd37 ct37 : Value}
  {f38 : Addr} {od38 an38 : Option Addr} {sl38 : Array (Option Value)} {oc38 kV38 dc38 pm38 cd38 ct38 : Value}
  {f39 : Addr} {od39 an39 : Option Addr} {sl39 : Array (Option Value)} {oc39 kV39 dc39 pm39 cd39 ct39 : Value}
  {f40 : Addr} {od40 an40 : Option Addr} {sl40 : Array (Option Value)} {oc40 kV40 dc40 pm40 cd40 ct40 : Value}
  {f41 : Addr} {od41 an41 : Option Addr} {sl41 : Array (Option Value)} {oc41 kV41 dc41 pm41 cd41 ct41 : Value}
  {f42 : Addr} {od42 an42 : Option Addr} {sl42 : Array (Option Value)} {oc42 kV42 dc42 pm42 cd42 ct42 : Value}
  {fCNOUGHT : Addr} {dCNOUGHT : Option Addr} {tCNOUGHT uCNOUGHT : Tok} {nCNOUGHT : Nat} {sCNOUGHT : Array (Option Value)}
  {fCONE : Addr} {dCONE : Option Addr} {tCONE uCONE : Tok} {nCONE : Nat} {sCONE : Array (Option Value)}
  (a0 : PySem.W.nsIn K mainGlobals "is_whole" = some (some (.ref f0))) (l0 : K.lookup f0 = some ⟨oc0, od0, .func (PySem.W.fnOf "is_whole" "is_whole" (zI s_is_whole) (zG s_is_whole) (zC s_is_whole) .none kV0 dc0 pm0 an0 cd0 ct0), sl0⟩) (c0 : PySem.W.codeIn K cd0 "is_whole" = true) (k0 : PySem.W.keepIn K (.ref f0) = true)
  (a1 : PySem.W.nsIn K mainGlobals "greatest_common" = some (some (.ref f1))) (l1 : K.lookup f1 = some ⟨oc1, od1, .func (PySem.W.fnOf "greatest_common" "greatest_common" (zI s_greatest_common) (zG s_greatest_common) (zC s_greatest_common) .none kV1 dc1 pm1 an1 cd1 ct1), sl1⟩) (c1 : PySem.W.codeIn K cd1 "greatest_common" = true) (k1 : PySem.W.keepIn K (.ref f1) = true)
  (a2 : PySem.W.nsIn K mainGlobals "is_ratio" = some (some (.ref f2))) (l2 : K.lookup f2 = some ⟨oc2, od2, .func (PySem.W.fnOf "is_ratio" "is_ratio" (zI s_is_ratio) (zG s_is_ratio) (zC s_is_ratio) .none kV2 dc2 pm2 an2 cd2 ct2), sl2⟩) (c2 : PySem.W.codeIn K cd2 "is_ratio" = true) (k2 : PySem.W.keepIn K (.ref f2) = true)
  (a3 : PySem.W.nsIn K mainGlobals "ratio" = some (some (.ref f3))) (l3 : K.lookup f3 = some ⟨oc3, od3, .func (PySem.W.fnOf "ratio" "ratio" (zI s_ratio) (zG s_ratio) (zC s_ratio) .none kV3 dc3 pm3 an3 cd3 ct3), sl3⟩) (c3 : PySem.W.codeIn K cd3 "ratio" = true) (k3 : PySem.W.keepIn K (.ref f3) = true)
  (a4 : PySem.W.nsIn K mainGlobals "plus" = some (some (.ref f4))) (l4 : K.lookup f4 = some ⟨oc4, od4, .func (PySem.W.fnOf "plus" "plus" (zI s_plus) (zG s_plus) (zC s_plus) .none kV4 dc4 pm4 an4 cd4 ct4), sl4⟩) (c4 : PySem.W.codeIn K cd4 "plus" = true) (k4 : PySem.W.keepIn K (.ref f4) = true)
  (a5 : PySem.W.nsIn K mainGlobals "minus" = some (some (.ref f5))) (l5 : K.lookup f5 = some ⟨oc5, od5, .func (PySem.W.fnOf "minus" "minus" (zI s_minus) (zG s_minus) (zC s_minus) .none kV5 dc5 pm5 an5 cd5 ct5), sl5⟩) (c5 : PySem.W.codeIn K cd5 "minus" = true) (k5 : PySem.W.keepIn K (.ref f5) = true)
  (a6 : PySem.W.nsIn K mainGlobals "times" = some (some (.ref f6))) (l6 : K.lookup f6 = some ⟨oc6, od6, .func (PySem.W.fnOf "times" "times" (zI s_times) (zG s_times) (zC s_times) .none kV6 dc6 pm6 an6 cd6 ct6), sl6⟩) (c6 : PySem.W.codeIn K cd6 "times" = true) (k6 : PySem.W.keepIn K (.ref f6) = true)
  (a7 : PySem.W.nsIn K mainGlobals "over" = some (some (.ref f7))) (l7 : K.lookup f7 = some ⟨oc7, od7, .func (PySem.W.fnOf "over" "over" (zI s_over) (zG s_over) (zC s_over) .none kV7 dc7 pm7 an7 cd7 ct7), sl7⟩) (c7 : PySem.W.codeIn K cd7 "over" = true) (k7 : PySem.W.keepIn K (.ref f7) = true)
  (a8 : PySem.W.nsIn K mainGlobals "added" = some (some (.ref f8))) (l8 : K.lookup f8 = some ⟨oc8, od8, .func (PySem.W.fnOf "added" "added" (zI s_added) (zG s_added) (zC s_added) .none kV8 dc8 pm8 an8 cd8 ct8), sl8⟩) (c8 : PySem.W.codeIn K cd8 "added" = true) (k8 : PySem.W.keepIn K (.ref f8) = true)
  (a9 : PySem.W.nsIn K mainGlobals "scaled" = some (some (.ref f9))) (l9 : K.lookup f9 = some ⟨oc9, od9, .func (PySem.W.fnOf "scaled" "scaled" (zI s_scaled) (zG s_scaled) (zC s_scaled) .none kV9 dc9 pm9 an9 cd9 ct9), sl9⟩) (c9 : PySem.W.codeIn K cd9 "scaled" = true) (k9 : PySem.W.keepIn K (.ref f9) = true)
  (a10 : PySem.W.nsIn K mainGlobals "multiplied" = some (some (.ref f10))) (l10 : K.lookup f10 = some ⟨oc10, od10, .func (PySem.W.fnOf "multiplied" "multiplied" (zI s_multiplied) (zG s_multiplied) (zC s_multiplied) .none kV10 dc10 pm10 an10 cd10 ct10), sl10⟩) (c10 : PySem.W.codeIn K cd10 "multiplied" = true) (k10 : PySem.W.keepIn K (.ref f10) = true)
  (a11 : PySem.W.nsIn K mainGlobals "dot" = some (some (.ref f11))) (l11 : K.lookup f11 = some ⟨oc11, od11, .func (PySem.W.fnOf "dot" "dot" (zI s_dot) (zG s_dot) (zC s_dot) (.ref T11) kV11 dc11 pm11 an11 cd11 ct11), sl11⟩) (c11 : PySem.W.codeIn K cd11 "dot" = true) (k11 : PySem.W.keepIn K (.ref f11) = true)
  (lT11 : K.lookup T11 = some ⟨.type "tuple", dT11, .seq #[.none] nT11, sT11⟩)
  (a12 : PySem.W.nsIn K mainGlobals "is_row_number" = some (some (.ref f12))) (l12 : K.lookup f12 = some ⟨oc12, od12, .func (PySem.W.fnOf "is_row_number" "is_row_number" (zI s_is_row_number) (zG s_is_row_number) (zC s_is_row_number) .none kV12 dc12 pm12 an12 cd12 ct12), sl12⟩) (c12 : PySem.W.codeIn K cd12 "is_row_number" = true) (k12 : PySem.W.keepIn K (.ref f12) = true)
  (a13 : PySem.W.nsIn K mainGlobals "are_unlike_rows" = some (some (.ref f13))) (l13 : K.lookup f13 = some ⟨oc13, od13, .func (PySem.W.fnOf "are_unlike_rows" "are_unlike_rows" (zI s_are_unlike_rows) (zG s_are_unlike_rows) (zC s_are_unlike_rows) .none kV13 dc13 pm13 an13 cd13 ct13), sl13⟩) (c13 : PySem.W.codeIn K cd13 "are_unlike_rows" = true) (k13 : PySem.W.keepIn K (.ref f13) = true)
  (a14 : PySem.W.nsIn K mainGlobals "is_deed" = some (some (.ref f14))) (l14 : K.lookup f14 = some ⟨oc14, od14, .func (PySem.W.fnOf "is_deed" "is_deed" (zI s_is_deed) (zG s_is_deed) (zC s_is_deed) .none kV14 dc14 pm14 an14 cd14 ct14), sl14⟩) (c14 : PySem.W.codeIn K cd14 "is_deed" = true) (k14 : PySem.W.keepIn K (.ref f14) = true)
  (a15 : PySem.W.nsIn K mainGlobals "are_deeds" = some (some (.ref f15))) (l15 : K.lookup f15 = some ⟨oc15, od15, .func (PySem.W.fnOf "are_deeds" "are_deeds" (zI s_are_deeds) (zG s_are_deeds) (zC s_are_deeds) .none kV15 dc15 pm15 an15 cd15 ct15), sl15⟩) (c15 : PySem.W.codeIn K cd15 "are_deeds" = true) (k15 : PySem.W.keepIn K (.ref f15) = true)
  (a16 : PySem.W.nsIn K mainGlobals "done_once" = some (some (.ref f16))) (l16 : K.lookup f16 = some ⟨oc16, od16, .func (PySem.W.fnOf "done_once" "done_once" (zI s_done_once) (zG s_done_once) (zC s_done_once) .none kV16 dc16 pm16 an16 cd16 ct16), sl16⟩) (c16 : PySem.W.codeIn K cd16 "done_once" = true) (k16 : PySem.W.keepIn K (.ref f16) = true)
  (a17 : PySem.W.nsIn K mainGlobals "done" = some (some (.ref f17))) (l17 : K.lookup f17 = some ⟨oc17, od17, .func (PySem.W.fnOf "done" "done" (zI s_done) (zG s_done) (zC s_done) .none kV17 dc17 pm17 an17 cd17 ct17), sl17⟩) (c17 : PySem.W.codeIn K cd17 "done" = true) (k17 : PySem.W.keepIn K (.ref f17) = true)
  (a18 : PySem.W.nsIn K mainGlobals "unit_row" = some (some (.ref f18))) (l18 : K.lookup f18 = some ⟨oc18, od18, .func (PySem.W.fnOf "unit_row" "unit_row" (zI s_unit_row) (zG s_unit_row) (zC s_unit_row) .none kV18 dc18 pm18 an18 cd18 ct18), sl18⟩) (c18 : PySem.W.codeIn K cd18 "unit_row" = true) (k18 : PySem.W.keepIn K (.ref f18) = true)
  (a19 : PySem.W.nsIn K mainGlobals "unit" = some (some (.ref f19))) (l19 : K.lookup f19 = some ⟨oc19, od19, .func (PySem.W.fnOf "unit" "unit" (zI s_unit) (zG s_unit) (zC s_unit) .none kV19 dc19 pm19 an19 cd19 ct19), sl19⟩) (c19 : PySem.W.codeIn K cd19 "unit" = true) (k19 : PySem.W.keepIn K (.ref f19) = true)
  (a20 : PySem.W.nsIn K mainGlobals "row_with_thing" = some (some (.ref f20))) (l20 : K.lookup f20 = some ⟨oc20, od20, .func (PySem.W.fnOf "row_with_thing" "row_with_thing" (zI s_row_with_thing) (zG s_row_with_thing) (zC s_row_with_thing) .none kV20 dc20 pm20 an20 cd20 ct20), sl20⟩) (c20 : PySem.W.codeIn K cd20 "row_with_thing" = true) (k20 : PySem.W.keepIn K (.ref f20) = true)
  (a21 : PySem.W.nsIn K mainGlobals "clearing_deeds" = some (some (.ref f21))) (l21 : K.lookup f21 = some ⟨oc21, od21, .func (PySem.W.fnOf "clearing_deeds" "clearing_deeds" (zI s_clearing_deeds) (zG s_clearing_deeds) (zC s_clearing_deeds) .none kV21 dc21 pm21 an21 cd21 ct21), sl21⟩) (c21 : PySem.W.codeIn K cd21 "clearing_deeds" = true) (k21 : PySem.W.keepIn K (.ref f21) = true)
  (a22 : PySem.W.nsIn K mainGlobals "reduced" = some (some (.ref f22))) (l22 : K.lookup f22 = some ⟨oc22, od22, .func (PySem.W.fnOf "reduced" "reduced" (zI s_reduced) (zG s_reduced) (zC s_reduced) .none kV22 dc22 pm22 an22 cd22 ct22), sl22⟩) (c22 : PySem.W.codeIn K cd22 "reduced" = true) (k22 : PySem.W.keepIn K (.ref f22) = true)
  (a23 : PySem.W.nsIn K mainGlobals "placed" = some (some (.ref f23))) (l23 : K.lookup f23 = some ⟨oc23, od23, .func (PySem.W.fnOf "placed" "placed" (zI s_placed) (zG s_placed) (zC s_placed) .none kV23 dc23 pm23 an23 cd23 ct23), sl23⟩) (c23 : PySem.W.codeIn K cd23 "placed" = true) (k23 : PySem.W.keepIn K (.ref f23) = true)
  (a24 : PySem.W.nsIn K mainGlobals "way" = some (some (.ref f24))) (l24 : K.lookup f24 = some ⟨oc24, od24, .func (PySem.W.fnOf "way" "way" (zI s_way) (zG s_way) (zC s_way) .none kV24 dc24 pm24 an24 cd24 ct24), sl24⟩) (c24 : PySem.W.codeIn K cd24 "way" = true) (k24 : PySem.W.keepIn K (.ref f24) = true)
  (a25 : PySem.W.nsIn K mainGlobals "answer" = some (some (.ref f25))) (l25 : K.lookup f25 = some ⟨oc25, od25, .func (PySem.W.fnOf "answer" "answer" (zI s_answer) (zG s_answer) (zC s_answer) .none kV25 dc25 pm25 an25 cd25 ct25), sl25⟩) (c25 : PySem.W.codeIn K cd25 "answer" = true) (k25 : PySem.W.keepIn K (.ref f25) = true)
  (a26 : PySem.W.nsIn K mainGlobals "_law_cell_at" = some (some (.ref f26))) (l26 : K.lookup f26 = some ⟨oc26, od26, .func (PySem.W.fnOf "_law_cell_at" "_law_cell_at" (zI s__law_cell_at) (zG s__law_cell_at) (zC s__law_cell_at) .none kV26 dc26 pm26 an26 cd26 ct26), sl26⟩) (c26 : PySem.W.codeIn K cd26 "_law_cell_at" = true) (k26 : PySem.W.keepIn K (.ref f26) = true)
  (a27 : PySem.W.nsIn K mainGlobals "_law_great" = some (some (.ref f27))) (l27 : K.lookup f27 = some ⟨oc27, od27, .func (PySem.W.fnOf "_law_great" "_law_great" (zI s__law_great) (zG s__law_great) (zC s__law_great) .none kV27 dc27 pm27 an27 cd27 ct27), sl27⟩) (c27 : PySem.W.codeIn K cd27 "_law_great" = true) (k27 : PySem.W.keepIn K (.ref f27) = true)
  (a28 : PySem.W.nsIn K mainGlobals "_law_low" = some (some (.ref f28))) (l28 : K.lookup f28 = some ⟨oc28, od28, .func (PySem.W.fnOf "_law_low" "_law_low" (zI s__law_low) (zG s__law_low) (zC s__law_low) .none kV28 dc28 pm28 an28 cd28 ct28), sl28⟩) (c28 : PySem.W.codeIn K cd28 "_law_low" = true) (k28 : PySem.W.keepIn K (.ref f28) = true)
  (a29 : PySem.W.nsIn K mainGlobals "_law_ratio" = some (some (.ref f29))) (l29 : K.lookup f29 = some ⟨oc29, od29, .func (PySem.W.fnOf "_law_ratio" "_law_ratio" (zI s__law_ratio) (zG s__law_ratio) (zC s__law_ratio) .none kV29 dc29 pm29 an29 cd29 ct29), sl29⟩) (c29 : PySem.W.codeIn K cd29 "_law_ratio" = true) (k29 : PySem.W.keepIn K (.ref f29) = true)
  (a30 : PySem.W.nsIn K mainGlobals "_law_row" = some (some (.ref f30))) (l30 : K.lookup f30 = some ⟨oc30, od30, .func (PySem.W.fnOf "_law_row" "_law_row" (zI s__law_row) (zG s__law_row) (zC s__law_row) .none kV30 dc30 pm30 an30 cd30 ct30), sl30⟩) (c30 : PySem.W.codeIn K cd30 "_law_row" = true) (k30 : PySem.W.keepIn K (.ref f30) = true)
  (a31 : PySem.W.nsIn K mainGlobals "_law_plus" = some (some (.ref f31))) (l31 : K.lookup f31 = some ⟨oc31, od31, .func (PySem.W.fnOf "_law_plus" "_law_plus" (zI s__law_plus) (zG s__law_plus) (zC s__law_plus) .none kV31 dc31 pm31 an31 cd31 ct31), sl31⟩) (c31 : PySem.W.codeIn K cd31 "_law_plus" = true) (k31 : PySem.W.keepIn K (.ref f31) = true)
  (a32 : PySem.W.nsIn K mainGlobals "_law_times" = some (some (.ref f32))) (l32 : K.lookup f32 = some ⟨oc32, od32, .func (PySem.W.fnOf "_law_times" "_law_times" (zI s__law_times) (zG s__law_times) (zC s__law_times) .none kV32 dc32 pm32 an32 cd32 ct32), sl32⟩) (c32 : PySem.W.codeIn K cd32 "_law_times" = true) (k32 : PySem.W.keepIn K (.ref f32) = true)
  (a33 : PySem.W.nsIn K mainGlobals "_law_mix" = some (some (.ref f33))) (l33 : K.lookup f33 = some ⟨oc33, od33, .func (PySem.W.fnOf "_law_mix" "_law_mix" (zI s__law_mix) (zG s__law_mix) (zC s__law_mix) .none kV33 dc33 pm33 an33 cd33 ct33), sl33⟩) (c33 : PySem.W.codeIn K cd33 "_law_mix" = true) (k33 : PySem.W.keepIn K (.ref f33) = true)
  (a34 : PySem.W.nsIn K mainGlobals "_law_whole" = some (some (.ref f34))) (l34 : K.lookup f34 = some ⟨oc34, od34, .func (PySem.W.fnOf "_law_whole" "_law_whole" (zI s__law_whole) (zG s__law_whole) (zC s__law_whole) .none kV34 dc34 pm34 an34 cd34 ct34), sl34⟩) (c34 : PySem.W.codeIn K cd34 "_law_whole" = true) (k34 : PySem.W.keepIn K (.ref f34) = true)
  (a35 : PySem.W.nsIn K mainGlobals "_law_is_row" = some (some (.ref f35))) (l35 : K.lookup f35 = some ⟨oc35, od35, .func (PySem.W.fnOf "_law_is_row" "_law_is_row" (zI s__law_is_row) (zG s__law_is_row) (zC s__law_is_row) .none kV35 dc35 pm35 an35 cd35 ct35), sl35⟩) (c35 : PySem.W.codeIn K cd35 "_law_is_row" = true) (k35 : PySem.W.keepIn K (.ref f35) = true)
  (a36 : PySem.W.nsIn K mainGlobals "_law_is_table" = some (some (.ref f36))) (l36 : K.lookup f36 = some ⟨oc36, od36, .func (PySem.W.fnOf "_law_is_table" "_law_is_table" (zI s__law_is_table) (zG s__law_is_table) (zC s__law_is_table) .none kV36 dc36 pm36 an36 cd36 ct36), sl36⟩) (c36 : PySem.W.codeIn K cd36 "_law_is_table" = true) (k36 : PySem.W.keepIn K (.ref f36) = true)
  (a37 : PySem.W.nsIn K mainGlobals "_law_table" = some (some (.ref f37))) (l37 : K.lookup f37 = some ⟨oc37, od37, .func (PySem.W.fnOf "_law_table" "_law_table" (zI s__law_table) (zG s__law_table) (zC s__law_table) .none kV37 dc37 pm37 an37 cd37 ct37), sl37⟩) (c37 : PySem.W.codeIn K cd37 "_law_table" = true) (k37 : PySem.W.keepIn K (.ref f37) = true)
  (a38 : PySem.W.nsIn K mainGlobals "_law_dot" = some (some (.ref f38))) (l38 : K.lookup f38 = some ⟨oc38, od38, .func (PySem.W.fnOf "_law_dot" "_law_dot" (zI s__law_dot) (zG s__law_dot) (zC s__law_dot) .none kV38 dc38 pm38 an38 cd38 ct38), sl38⟩) (c38 : PySem.W.codeIn K cd38 "_law_dot" = true) (k38 : PySem.W.keepIn K (.ref f38) = true)
  (a39 : PySem.W.nsIn K mainGlobals "_law_answers" = some (some (.ref f39))) (l39 : K.lookup f39 = some ⟨oc39, od39, .func (PySem.W.fnOf "_law_answers" "_law_answers" (zI s__law_answers) (zG s__law_answers) (zC s__law_answers) .none kV39 dc39 pm39 an39 cd39 ct39), sl39⟩) (c39 : PySem.W.codeIn K cd39 "_law_answers" = true) (k39 : PySem.W.keepIn K (.ref f39) = true)
  (a40 : PySem.W.nsIn K mainGlobals "_law_none" = some (some (.ref f40))) (l40 : K.lookup f40 = some ⟨oc40, od40, .func (PySem.W.fnOf "_law_none" "_law_none" (zI s__law_none) (zG s__law_none) (zC s__law_none) .none kV40 dc40 pm40 an40 cd40 ct40), sl40⟩) (c40 : PySem.W.codeIn K cd40 "_law_none" = true) (k40 : PySem.W.keepIn K (.ref f40) = true)
  (a41 : PySem.W.nsIn K mainGlobals "_law_is" = some (some (.ref f41))) (l41 : K.lookup f41 = some ⟨oc41, od41, .func (PySem.W.fnOf "_law_is" "_law_is" (zI s__law_is) (zG s__law_is) (zC s__law_is) .none kV41 dc41 pm41 an41 cd41 ct41), sl41⟩) (c41 : PySem.W.codeIn K cd41 "_law_is" = true) (k41 : PySem.W.keepIn K (.ref f41) = true)
  (a42 : PySem.W.nsIn K mainGlobals "law" = some (some (.ref f42))) (l42 : K.lookup f42 = some ⟨oc42, od42, .func (PySem.W.fnOf "law" "law" (zI s_law) (zG s_law) (zC s_law) .none kV42 dc42 pm42 an42 cd42 ct42), sl42⟩) (c42 : PySem.W.codeIn K cd42 "law" = true) (k42 : PySem.W.keepIn K (.ref f42) = true)
  (aCNOUGHT : PySem.W.nsIn K mainGlobals "NOUGHT" = some (some (.ref fCNOUGHT))) (lCNOUGHT : K.lookup fCNOUGHT = some ⟨.type "tuple", dCNOUGHT, .seq #[.int 0 tCNOUGHT, .int 1 uCNOUGHT] nCNOUGHT, sCNOUGHT⟩)
  (aCONE : PySem.W.nsIn K mainGlobals "ONE" = some (some (.ref fCONE))) (lCONE : K.lookup fCONE = some ⟨.type "tuple", dCONE, .seq #[.int 1 tCONE, .int 1 uCONE] nCONE, sCONE⟩)
  (z_abs : PySem.W.nsIn K mainGlobals "abs" = some none)
  (z_all : PySem.W.nsIn K mainGlobals "all" = some none)
  (z_bool : PySem.W.nsIn K mainGlobals "bool" = some none)
  (z_divmod : PySem.W.nsIn K mainGlobals "divmod" = some none)
  (z_enumerate : PySem.W.nsIn K mainGlobals "enumerate" = some none)
  (z_int : PySem.W.nsIn K mainGlobals "int" = some none)
  (z_isinstance : PySem.W.nsIn K mainGlobals "isinstance" = some none)
  (z_len : PySem.W.nsIn K mainGlobals "len" = some none)
  (z_list : PySem.W.nsIn K mainGlobals "list" = some none)
  (z_range : PySem.W.nsIn K mainGlobals "range" = some none)
  (z_str : PySem.W.nsIn K mainGlobals "str" = some none)
  (z_tuple : PySem.W.nsIn K mainGlobals "tuple" = some none)
  (z_zip : PySem.W.nsIn K mainGlobals "zip" = some none) :
  ∃ fd : FuncData, (∀ (s : Shared) (v : Value), BindsTo s fd ⟨[v], []⟩ [("_law_script", v)]) ∧ ∀ base : Heap, K.In base → base.Ns mainGlobals mg → FnOk P w K mg base CX0 9 fa fd ["_law_script"] (spLaw K) := by
 have e := hfa.symm.trans (PySem.W.mg_of X G a42)
 cases e
 have m0 := PySem.W.mg_of X G a0
 have F0 := yC (st := s_is_whole) l0 c0 k0
 have b0 := F0.binds (ps := ["thing"]) fun _ _ _ _ _ _ us hl => match us, hl with | [_], _ => rfl
 have m1 := PySem.W.mg_of X G a1
 have F1 := yC (st := s_greatest_common) l1 c1 k1
 have b1 := F1.binds (ps := ["one", "other"]) fun _ _ _ _ _ _ us hl => match us, hl with | [_, _], _ => rfl
 have m2 := PySem.W.mg_of X G a2
 have F2 := yC (st := s_is_ratio) l2 c2 k2
 have b2 := F2.binds (ps := ["thing"]) fun _ _ _ _ _ _ us hl => match us, hl with | [_], _ => rfl
 have m3 := PySem.W.mg_of X G a3
 have F3 := yC (st := s_ratio) l3 c3 k3
 have b3 := F3.binds (ps := ["top", "bottom"]) fun _ _ _ _ _ _ us hl => match us, hl with | [_, _], _ => rfl
 have m4 := PySem.W.mg_of X G a4
 have F4 := yC (st := s_plus) l4 c4 k4
 have b4 := F4.binds (ps := ["one", "other"]) fun _ _ _ _ _ _ us hl => match us, hl with | [_, _], _ => rfl
 have m5 := PySem.W.mg_of X G a5
 have F5 := yC (st := s_minus) l5 c5 k5
 have b5 := F5.binds (ps := ["one", "other"]) fun _ _ _ _ _ _ us hl => match us, hl with | [_, _], _ => rfl
 have m6 := PySem.W.mg_of X G a6
 have F6 := yC (st := s_times) l6 c6 k6
 have b6 := F6.binds (ps := ["one", "other"]) fun _ _ _ _ _ _ us hl => match us, hl with | [_, _], _ => rfl
 have m7 := PySem.W.mg_of X G a7
 have F7 := yC (st := s_over) l7 c7 k7
 have b7 := F7.binds (ps := ["one", "other"]) fun _ _ _ _ _ _ us hl => match us, hl with | [_, _], _ => rfl
 have m8 := PySem.W.mg_of X G a8
 have F8 := yC (st := s_added) l8 c8 k8
 have b8 := F8.binds (ps := ["one", "other"]) fun _ _ _ _ _ _ us hl => match us, hl with | [_, _], _ => rfl
 have m9 := PySem.W.mg_of X G a9
 have F9 := yC (st := s_scaled) l9 c9 k9
 have b9 := F9.binds (ps := ["row", "by"]) fun _ _ _ _ _ _ us hl => match us, hl with | [_, _], _ => rfl
 have m10 := PySem.W.mg_of X G a10
 have F10 := yC (st := s_multiplied) l10 c10 k10
 have b10 := F10.binds (ps := ["one", "other"]) fun _ _ _ _ _ _ us hl => match us, hl with | [_, _], _ => rfl
 have m11 := PySem.W.mg_of X G a11
 have F11 := funD_mk (st := s_dot) l11 c11 lT11 rfl
 have b11 : zV K _ ["one", "other", "weights"] [] := fun s us KX hl => match us, (show us.length = 3 by simpa using hl) with | [_, _, _], _ => F11.bindsTo KX fun _ _ _ _ _ _ => ⟨_, rfl, rfl⟩
 have e11 : zV K _ ["one", "other", "weights"] [.none] := fun s us KX hl => match us, (show us.length = 2 by simpa using hl) with | [_, _], _ => F11.bindsTo KX fun _ _ _ _ _ _ => ⟨_, rfl, rfl⟩
 have g11 := kb21 (K := K) (a := "one") (b := "other") (c := "weights") fun s u v w KX => F11.bindsTo (s := s) (args := ⟨[u, v], [("weights", w)]⟩) KX fun _ _ _ _ _ _ => ⟨_, rfl, rfl⟩
 have m12 := PySem.W.mg_of X G a12
 have F12 := yC (st := s_is_row_number) l12 c12 k12
 have b12 := F12.binds (ps := ["thing", "many"]) fun _ _ _ _ _ _ us hl => match us, hl with | [_, _], _ => rfl
 have m13 := PySem.W.mg_of X G a13
 have F13 := yC (st := s_are_unlike_rows) l13 c13 k13
 have b13 := F13.binds (ps := ["one", "other", "many"]) fun _ _ _ _ _ _ us hl => match us, hl with | [_, _, _], _ => rfl
 have m14 := PySem.W.mg_of X G a14
 have F14 := yC (st := s_is_deed) l14 c14 k14
 have b14 := F14.binds (ps := ["thing", "many"]) fun _ _ _ _ _ _ us hl => match us, hl with | [_, _], _ => rfl
 have m15 := PySem.W.mg_of X G a15
 have F15 := yC (st := s_are_deeds) l15 c15 k15
 have b15 := F15.binds (ps := ["thing", "many"]) fun _ _ _ _ _ _ us hl => match us, hl with | [_, _], _ => rfl
 have m16 := PySem.W.mg_of X G a16
 have F16 := yC (st := s_done_once) l16 c16 k16
 have b16 := F16.binds (ps := ["table", "deed"]) fun _ _ _ _ _ _ us hl => match us, hl with | [_, _], _ => rfl
 have m17 := PySem.W.mg_of X G a17
 have F17 := yC (st := s_done) l17 c17 k17
 have b17 := F17.binds (ps := ["table", "deeds"]) fun _ _ _ _ _ _ us hl => match us, hl with | [_, _], _ => rfl
 have m18 := PySem.W.mg_of X G a18
 have F18 := yC (st := s_unit_row) l18 c18 k18
 have b18 := F18.binds (ps := ["long", "place"]) fun _ _ _ _ _ _ us hl => match us, hl with | [_, _], _ => rfl
 have m19 := PySem.W.mg_of X G a19
 have F19 := yC (st := s_unit) l19 c19 k19
 have b19 := F19.binds (ps := ["many"]) fun _ _ _ _ _ _ us hl => match us, hl with | [_], _ => rfl
 have m20 := PySem.W.mg_of X G a20
 have F20 := yC (st := s_row_with_thing) l20 c20 k20
 have b20 := F20.binds (ps := ["table", "start", "column"]) fun _ _ _ _ _ _ us hl => match us, hl with | [_, _, _], _ => rfl
 have m21 := PySem.W.mg_of X G a21
 have F21 := yC (st := s_clearing_deeds) l21 c21 k21
 have b21 := F21.binds (ps := ["table", "place", "found", "column"]) fun _ _ _ _ _ _ us hl => match us, hl with | [_, _, _, _], _ => rfl
 have m22 := PySem.W.mg_of X G a22
 have F22 := yC (st := s_reduced) l22 c22 k22
 have b22 := F22.binds (ps := ["table", "wide"]) fun _ _ _ _ _ _ us hl => match us, hl with | [_, _], _ => rfl
 have m23 := PySem.W.mg_of X G a23
 have F23 := yC (st := s_placed) l23 c23 k23
 have b23 := F23.binds (ps := ["row", "columns", "things"]) fun _ _ _ _ _ _ us hl => match us, hl with | [_, _, _], _ => rfl
 have m24 := PySem.W.mg_of X G a24
 have F24 := yC (st := s_way) l24 c24 k24
 have b24 := F24.binds (ps := ["table", "firsts", "wide", "free"]) fun _ _ _ _ _ _ us hl => match us, hl with | [_, _, _, _], _ => rfl
 have m25 := PySem.W.mg_of X G a25
 have F25 := yC (st := s_answer) l25 c25 k25
 have b25 := F25.binds (ps := ["table", "wants", "wide"]) fun _ _ _ _ _ _ us hl => match us, hl with | [_, _, _], _ => rfl
 have m26 := PySem.W.mg_of X G a26
 have F26 := yC (st := s__law_cell_at) l26 c26 k26
 have b26 := F26.binds (ps := ["_law_script", "_law_k"]) fun _ _ _ _ _ _ us hl => match us, hl with | [_, _], _ => rfl
 have m27 := PySem.W.mg_of X G a27
 have F27 := yC (st := s__law_great) l27 c27 k27
 have b27 := F27.binds (ps := ["_law_cell"]) fun _ _ _ _ _ _ us hl => match us, hl with | [_], _ => rfl
 have m28 := PySem.W.mg_of X G a28
 have F28 := yC (st := s__law_low) l28 c28 k28
 have b28 := F28.binds (ps := ["_law_top", "_law_bottom"]) fun _ _ _ _ _ _ us hl => match us, hl with | [_, _], _ => rfl
 have m29 := PySem.W.mg_of X G a29
 have F29 := yC (st := s__law_ratio) l29 c29 k29
 have b29 := F29.binds (ps := ["_law_number"]) fun _ _ _ _ _ _ us hl => match us, hl with | [_], _ => rfl
 have m30 := PySem.W.mg_of X G a30
 have F30 := yC (st := s__law_row) l30 c30 k30
 have b30 := F30.binds (ps := ["_law_number", "_law_long"]) fun _ _ _ _ _ _ us hl => match us, hl with | [_, _], _ => rfl
 have m31 := PySem.W.mg_of X G a31
 have F31 := yC (st := s__law_plus) l31 c31 k31
 have b31 := F31.binds (ps := ["_law_one", "_law_other"]) fun _ _ _ _ _ _ us hl => match us, hl with | [_, _], _ => rfl
 have m32 := PySem.W.mg_of X G a32
 have F32 := yC (st := s__law_times) l32 c32 k32
 have b32 := F32.binds (ps := ["_law_one", "_law_other"]) fun _ _ _ _ _ _ us hl => match us, hl with | [_, _], _ => rfl
 have m33 := PySem.W.mg_of X G a33
 have F33 := yC (st := s__law_mix) l33 c33 k33
 have b33 := F33.binds (ps := ["_law_rows", "_law_shares", "_law_long"]) fun _ _ _ _ _ _ us hl => match us, hl with | [_, _, _], _ => rfl
 have m34 := PySem.W.mg_of X G a34
 have F34 := yC (st := s__law_whole) l34 c34 k34
 have b34 := F34.binds (ps := ["_law_thing"]) fun _ _ _ _ _ _ us hl => match us, hl with | [_], _ => rfl
 have m35 := PySem.W.mg_of X G a35
 have F35 := yC (st := s__law_is_row) l35 c35 k35
 have b35 := F35.binds (ps := ["_law_found", "_law_long"]) fun _ _ _ _ _ _ us hl => match us, hl with | [_, _], _ => rfl
 have m36 := PySem.W.mg_of X G a36
 have F36 := yC (st := s__law_is_table) l36 c36 k36
 have b36 := F36.binds (ps := ["_law_found", "_law_many", "_law_wide"]) fun _ _ _ _ _ _ us hl => match us, hl with | [_, _, _], _ => rfl
 have m37 := PySem.W.mg_of X G a37
 have F37 := yC (st := s__law_table) l37 c37 k37
 have b37 := F37.binds (ps := ["_law_cells", "_law_wide", "_law_mixing"]) fun _ _ _ _ _ _ us hl => match us, hl with | [_, _, _], _ => rfl
 have m38 := PySem.W.mg_of X G a38
 have F38 := yC (st := s__law_dot) l38 c38 k38
 have b38 := F38.binds (ps := ["_law_one", "_law_other"]) fun _ _ _ _ _ _ us hl => match us, hl with | [_, _], _ => rfl
 have m39 := PySem.W.mg_of X G a39
 have F39 := yC (st := s__law_answers) l39 c39 k39
 have b39 := F39.binds (ps := ["_law_table_here", "_law_wants", "_law_shares"]) fun _ _ _ _ _ _ us hl => match us, hl with | [_, _, _], _ => rfl
 have m40 := PySem.W.mg_of X G a40
 have F40 := yC (st := s__law_none) l40 c40 k40
 have b40 := F40.binds (ps := ["_law_table_here", "_law_wants", "_law_wide", "_law_found"]) fun _ _ _ _ _ _ us hl => match us, hl with | [_, _, _, _], _ => rfl
 have m41 := PySem.W.mg_of X G a41
 have F41 := yC (st := s__law_is) l41 c41 k41
 have b41 := F41.binds (ps := ["_law_table_here", "_law_wants", "_law_wide", "_law_found"]) fun _ _ _ _ _ _ us hl => match us, hl with | [_, _, _, _], _ => rfl
 have m42 := PySem.W.mg_of X G a42
 have F42 := yC (st := s_law) l42 c42 k42
 have m_abs := PySem.W.mg_none_of X G z_abs
 have m_all := PySem.W.mg_none_of X G z_all
 have m_bool := PySem.W.mg_none_of X G z_bool
 have m_divmod := PySem.W.mg_none_of X G z_divmod
 have m_enumerate := PySem.W.mg_none_of X G z_enumerate
 have m_int := PySem.W.mg_none_of X G z_int
 have m_isinstance := PySem.W.mg_none_of X G z_isinstance
 have m_len := PySem.W.mg_none_of X G z_len
 have m_list := PySem.W.mg_none_of X G z_list
 have m_range := PySem.W.mg_none_of X G z_range
 have m_str := PySem.W.mg_none_of X G z_str
 have m_tuple := PySem.W.mg_none_of X G z_tuple
 have m_zip := PySem.W.mg_none_of X G z_zip
 have hC_NOUGHT := cst_pair (PySem.W.mg_of X G aCNOUGHT) lCNOUGHT
 have hC_ONE := cst_pair (PySem.W.mg_of X G aCONE) lCONE
 refine ⟨PySem.W.fnOf "law" "law" (zI s_law) (zG s_law) (zC s_law) .none kV42 dc42 pm42 an42 cd42 ct42, fun s v => .of_eq rfl, fun base _ _ => ?_⟩
 have O0 := ok_is_whole (P := P) (w := w) (mg := mg) (base := base) ht F0.g m_bool m_int m_isinstance
 have O1 := ok_greatest_common (P := P) (w := w) (mg := mg) (base := base) ht F1.g
 have O2 := ok_is_ratio (P := P) (w := w) (mg := mg) (base := base) ht F2.g O0 b0 k0 m0 O1 b1 k1 m1 m_abs m_isinstance m_len m_tuple
 have O3 := ok_ratio (P := P) (w := w) (mg := mg) (base := base) ht F3.g O1 b1 k1 m1 m_abs
 have O4 := ok_plus (P := P) (w := w) (mg := mg) (base := base) ht F4.g O3 b3 k3 m3
 have O5 := ok_minus (P := P) (w := w) (mg := mg) (base := base) ht F5.g O3 b3 k3 m3
 have O6 := ok_times (P := P) (w := w) (mg := mg) (base := base) ht F6.g O3 b3 k3 m3
 have O7 := ok_over (P := P) (w := w) (mg := mg) (base := base) ht F7.g O3 b3 k3 m3
 have O8 := ok_added (P := P) (w := w) (mg := mg) (base := base) ht F8.g O4 b4 k4 m4 m_zip
 have O9 := ok_scaled (P := P) (w := w) (mg := mg) (base := base) ht F9.g O6 b6 k6 m6
 have O10 := ok_multiplied (P := P) (w := w) (mg := mg) (base := base) ht F10.g O6 b6 k6 m6 m_zip
 have O11 := ok_dot (P := P) (w := w) (mg := mg) (base := base) ht F11.g O10 b10 k10 m10 O4 b4 k4 m4 hC_NOUGHT
 have O12 := ok_is_row_number (P := P) (w := w) (mg := mg) (base := base) ht F12.g O0 b0 k0 m0
 have O13 := ok_are_unlike_rows (P := P) (w := w) (mg := mg) (base := base) ht F13.g O12 b12 k12 m12
 have O14 := ok_is_deed (P := P) (w := w) (mg := mg) (base := base) ht F14.g O13 b13 k13 m13 O12 b12 k12 m12 O2 b2 k2 m2 m_isinstance m_len m_str m_tuple hC_NOUGHT
 have O15 := ok_are_deeds (P := P) (w := w) (mg := mg) (base := base) ht F15.g O14 b14 k14 m14 m_all m_isinstance m_list
 have O16 := ok_done_once (P := P) (w := w) (mg := mg) (base := base) ht F16.g O9 b9 k9 m9 O8 b8 k8 m8 m_list
 have O17 := ok_done (P := P) (w := w) (mg := mg) (base := base) ht F17.g O15 b15 k15 m15 O16 b16 k16 m16 m_len m_list
 have O18 := ok_unit_row (P := P) (w := w) (mg := mg) (base := base) ht F18.g m_range hC_NOUGHT hC_ONE
 have O19 := ok_unit (P := P) (w := w) (mg := mg) (base := base) ht F19.g O18 b18 k18 m18 m_range
 have O20 := ok_row_with_thing (P := P) (w := w) (mg := mg) (base := base) ht F20.g m_len m_range hC_NOUGHT
 have O21 := ok_clearing_deeds (P := P) (w := w) (mg := mg) (base := base) ht F21.g O7 b7 k7 m7 O5 b5 k5 m5 m_enumerate hC_NOUGHT hC_ONE
 have O22 := ok_reduced (P := P) (w := w) (mg := mg) (base := base) ht F22.g O20 b20 k20 m20 O21 b21 k21 m21 O17 b17 k17 m17 m_len m_list m_range
 have O23 := ok_placed (P := P) (w := w) (mg := mg) (base := base) ht F23.g m_list m_zip
 have O24 := ok_way (P := P) (w := w) (mg := mg) (base := base) ht F24.g O23 b23 k23 m23 O5 b5 k5 m5 O18 b18 k18 m18 hC_NOUGHT
 have O25 := ok_answer (P := P) (w := w) (mg := mg) (base := base) ht F25.g O22 b22 k22 m22 O17 b17 k17 m17 O19 b19 k19 m19 O11 b11 k11 m11 e11 g11 O9 b9 k9 m9 O7 b7 k7 m7 O23 b23 k23 m23 O24 b24 k24 m24 m_len m_range hC_NOUGHT hC_ONE
 have O26 := ok__law_cell_at (P := P) (w := w) (mg := mg) (base := base) ht F26.g m_len
 have O27 := ok__law_great (P := P) (w := w) (mg := mg) (base := base) ht F27.g
 have O28 := ok__law_low (P := P) (w := w) (mg := mg) (base := base) ht F28.g m_abs
 have O29 := ok__law_ratio (P := P) (w := w) (mg := mg) (base := base) ht F29.g O28 b28 k28 m28 m_divmod
 have O30 := ok__law_row (P := P) (w := w) (mg := mg) (base := base) ht F30.g O29 b29 k29 m29 m_range
 have O31 := ok__law_plus (P := P) (w := w) (mg := mg) (base := base) ht F31.g O28 b28 k28 m28
 have O32 := ok__law_times (P := P) (w := w) (mg := mg) (base := base) ht F32.g O28 b28 k28 m28
 have O33 := ok__law_mix (P := P) (w := w) (mg := mg) (base := base) ht F33.g O31 b31 k31 m31 O32 b32 k32 m32 m_zip
 have O34 := ok__law_whole (P := P) (w := w) (mg := mg) (base := base) ht F34.g m_bool m_int m_isinstance
 have O35 := ok__law_is_row (P := P) (w := w) (mg := mg) (base := base) ht F35.g O34 b34 k34 m34 O28 b28 k28 m28 m_isinstance m_len m_list m_tuple
 have O36 := ok__law_is_table (P := P) (w := w) (mg := mg) (base := base) ht F36.g O35 b35 k35 m35 m_all m_isinstance m_len m_list
 have O37 := ok__law_table (P := P) (w := w) (mg := mg) (base := base) ht F37.g O27 b27 k27 m27 O30 b30 k30 m30 O33 b33 k33 m33 m_len m_range
 have O38 := ok__law_dot (P := P) (w := w) (mg := mg) (base := base) ht F38.g O31 b31 k31 m31 O32 b32 k32 m32 m_zip
 have O39 := ok__law_answers (P := P) (w := w) (mg := mg) (base := base) ht F39.g O38 b38 k38 m38 m_all m_zip
 have O40 := ok__law_none (P := P) (w := w) (mg := mg) (base := base) ht F40.g O35 b35 k35 m35 O33 b33 k33 m33 O38 b38 k38 m38 m_len
 have O41 := ok__law_is (P := P) (w := w) (mg := mg) (base := base) ht F41.g O35 b35 k35 m35 O36 b36 k36 m36 O39 b39 k39 m39 O22 b22 k22 m22 m_all m_int m_len m_range
 have O42 := ok_law (P := P) (w := w) (mg := mg) (base := base) ht F42.g O26 b26 k26 m26 O37 b37 k37 m37 O27 b27 k27 m27 O30 b30 k30 m30 O38 b38 k38 m38 O31 b31 k31 m31 O25 b25 k25 m25 O40 b40 k40 m40 O41 b41 k41 m41 O33 b33 k33 m33 O39 b39 k39 m39 m_isinstance m_len m_list m_range m_tuple m_zip
 exact O42.imp law_sp
theorem walk {l : PySem.W.OpenLaw} {q : Program} {loose : List Str} {XP : (Str → Option Value) → Heap → Prop} {YP : World → Heap → Prop} {d : DefRec} {K : Params → PySem.W.Frag} (hn : l.most = some 63) (hdf : d.params.defaults = [])
  (hY : ∀ (w : World) (h : Heap), YP w h → (K w.params).In h)
  (F : ∀ (w : World) (mg : Str → Option Value) (fa : Addr) (h : Heap), (K w.params).In h → h.Ns mainGlobals mg → mg d.name = some (.ref fa) →
   ∃ fd : FuncData, (∀ (s : Shared) (u : Value), BindsTo s fd ⟨[u], []⟩ [("_law_script", u)]) ∧ ∀ base : Heap, (K w.params).In base → base.Ns mainGlobals mg → FnOk l.prog w (K w.params) mg base CX0 9 fa fd ["_law_script"] (spLaw (K w.params)))
  (hq : PyProof.Rows.importsNone q = true) :
  PySem.W.WalkO q loose XP YP l.row.toRowW d [] (fun f vs => PySem.call f vs) :=
 L2.walk_of (n := 63) (k := 9) (x := "_law_script") (CX := fun _ => CX0) (sp := fun w => spLaw (K w.params)) hn (by decide) hdf ⟨rfl, by decide, by decide⟩ hY F hq (fun _ _ a ns hl hz hO hS => ⟨a, ns, rfl, hO, hS, hl, hz, fun _ => rfl⟩) fun _ _ _ _ _ z => z
end Tm
namespace Tm
open PySem PySem.Spec PyProof.Rows L2 Np
noncomputable def KK : PySem.Params → PySem.W.Frag := fun P =>
 (nat_lit 3, ⟨(.type "dict"), none, (.dict [⟨PySem.PyData.keyHash P "__name__", (.str "__name__" 165), (.str "law_nearplane_k28_whole_answers" 465)⟩, ⟨PySem.PyData.keyHash P "__doc__", (.str "__doc__" 166), .none⟩, ⟨PySem.PyData.keyHash P "__package__", (.str "__package__" 167), .none⟩, ⟨PySem.PyData.keyHash P "__loader__", (.str "__loader__" 168), (.builtin "__main__.__loader__#opaque")⟩, ⟨PySem.PyData.keyHash P "__spec__", (.str "__spec__" 169), .none⟩, ⟨PySem.PyData.keyHash P "__annotations__", (.str "__annotations__" 170), (.ref 6)⟩, ⟨PySem.PyData.keyHash P "__builtins__", (.str "__builtins__" 171), (.ref 4)⟩, ⟨PySem.PyData.keyHash P "__file__", (.str "__file__" 173), (.str "/claim/cut.py" 172)⟩, ⟨PySem.PyData.keyHash P "__cached__", (.str "__cached__" 174), .none⟩, ⟨PySem.PyData.keyHash P "PlaneError", (.str "PlaneError" 206), (.ref 24)⟩, ⟨PySem.PyData.keyHash P "NoRatio", (.str "NoRatio" 222), (.ref 37)⟩, ⟨PySem.PyData.keyHash P "NoDeed", (.str "NoDeed" 238), (.ref 49)⟩, ⟨PySem.PyData.keyHash P "NOUGHT", (.str "NOUGHT" 243), (.ref 52)⟩, ⟨PySem.PyData.keyHash P "ONE", (.str "ONE" 246), (.ref 53)⟩, ⟨PySem.PyData.keyHash P "is_whole", (.str "is_whole" 253), (.ref 60)⟩, ⟨PySem.PyData.keyHash P "is_ratio", (.str "is_ratio" 260), (.ref 67)⟩, ⟨PySem.PyData.keyHash P "greatest_common", (.str "greatest_common" 271), (.ref 74)⟩, ⟨PySem.PyData.keyHash P "ratio", (.str "ratio" 280), (.ref 81)⟩, ⟨PySem.PyData.keyHash P "plus", (.str "plus" 288), (.ref 88)⟩, ⟨PySem.PyData.keyHash P "minus", (.str "minus" 296), (.ref 95)⟩, ⟨PySem.PyData.keyHash P "times", (.str "times" 304), (.ref 102)⟩, ⟨PySem.PyData.keyHash P "over", (.str "over" 312), (.ref 109)⟩, ⟨PySem.PyData.keyHash P "added", (.str "added" 320), (.ref 114)⟩, ⟨PySem.PyData.keyHash P "scaled", (.str "scaled" 326), (.ref 119)⟩, ⟨PySem.PyData.keyHash P "multiplied", (.str "multiplied" 332), (.ref 124)⟩, ⟨PySem.PyData.keyHash P "dot", (.str "dot" 344), (.ref 132)⟩, ⟨PySem.PyData.keyHash P "done", (.str "done" 352), (.ref 137)⟩, ⟨PySem.PyData.keyHash P "done_once", (.str "done_once" 362), (.ref 144)⟩, ⟨PySem.PyData.keyHash P "are_deeds", (.str "are_deeds" 368), (.ref 149)⟩, ⟨PySem.PyData.keyHash P "is_deed", (.str "is_deed" 377), (.ref 156)⟩, ⟨PySem.PyData.keyHash P "is_row_number", (.str "is_row_number" 385), (.ref 163)⟩, ⟨PySem.PyData.keyHash P "are_unlike_rows", (.str "are_unlike_rows" 394), (.ref 170)⟩, ⟨PySem.PyData.keyHash P "unit", (.str "unit" 402), (.ref 175)⟩, ⟨PySem.PyData.keyHash P "unit_row", (.str "unit_row" 408), (.ref 180)⟩, ⟨PySem.PyData.keyHash P "reduced", (.str "reduced" 416), (.ref 185)⟩, ⟨PySem.PyData.keyHash P "row_with_thing", (.str "row_with_thing" 426), (.ref 192)⟩, ⟨PySem.PyData.keyHash P "clearing_deeds", (.str "clearing_deeds" 440), (.ref 199)⟩, ⟨PySem.PyData.keyHash P "answer", (.str "answer" 446), (.ref 204)⟩, ⟨PySem.PyData.keyHash P "way", (.str "way" 452), (.ref 209)⟩, ⟨PySem.PyData.keyHash P "placed", (.str "placed" 464), (.ref 216)⟩, ⟨PySem.PyData.keyHash P "_law_cell_at", (.str "_law_cell_at" 474), (.ref 223)⟩, ⟨PySem.PyData.keyHash P "_law_great", (.str "_law_great" 482), (.ref 230)⟩, ⟨PySem.PyData.keyHash P "_law_low", (.str "_law_low" 492), (.ref 237)⟩, ⟨PySem.PyData.keyHash P "_law_ratio", (.str "_law_ratio" 501), (.ref 244)⟩, ⟨PySem.PyData.keyHash P "_law_row", (.str "_law_row" 512), (.ref 251)⟩, ⟨PySem.PyData.keyHash P "_law_plus", (.str "_law_plus" 520), (.ref 258)⟩, ⟨PySem.PyData.keyHash P "_law_times", (.str "_law_times" 528), (.ref 265)⟩, ⟨PySem.PyData.keyHash P "_law_mix", (.str "_law_mix" 534), (.ref 270)⟩, ⟨PySem.PyData.keyHash P "_law_whole", (.str "_law_whole" 541), (.ref 277)⟩, ⟨PySem.PyData.keyHash P "_law_is_row", (.str "_law_is_row" 550), (.ref 284)⟩, ⟨PySem.PyData.keyHash P "_law_is_table", (.str "_law_is_table" 556), (.ref 289)⟩, ⟨PySem.PyData.keyHash P "_law_table", (.str "_law_table" 570), (.ref 296)⟩, ⟨PySem.PyData.keyHash P "_law_dot", (.str "_law_dot" 581), (.ref 303)⟩, ⟨PySem.PyData.keyHash P "_law_answers", (.str "_law_answers" 587), (.ref 308)⟩, ⟨PySem.PyData.keyHash P "_law_none", (.str "_law_none" 597), (.ref 315)⟩, ⟨PySem.PyData.keyHash P "_law_is", (.str "_law_is" 603), (.ref 320)⟩, ⟨PySem.PyData.keyHash P "law", (.str "law" 609), (.ref 325)⟩].toArray 57), [].toArray⟩) ::
 (nat_lit 52, ⟨(.type "tuple"), none, (.seq [(.int (0) 241), (.int (1) 242)].toArray 0), [].toArray⟩) ::
 (nat_lit 53, ⟨(.type "tuple"), none, (.seq [(.int (1) 244), (.int (1) 245)].toArray 0), [].toArray⟩) ::
 (nat_lit 59, ⟨(.type "code"), none, (.fields [(.str "is_whole" 247), (.str "is_whole" 248), (.str "/claim/cut.py" 249), (.int (11) 0), (.int (1) 0), (.int (0) 0), (.int (0) 0), (.int (3) 0), (.ref 54), (.bool true), (.int (181) 0), (.ref 55), .none, (.ref 56), (.ref 57), (.ref 58), (.int (251) 0), (.int (11) 0), (.str "/claim/cut.py" 252)].toArray), [].toArray⟩) ::
 (nat_lit 60, ⟨(.type "function"), none, (.func (PySem.W.fnOf "is_whole" "is_whole" (zI s_is_whole) (zG s_is_whole) (zC s_is_whole) .none .none .none (.str "nearplane.ratios" 239) none (.ref 59) .none)), [].toArray⟩) ::
 (nat_lit 66, ⟨(.type "code"), none, (.fields [(.str "is_ratio" 254), (.str "is_ratio" 255), (.str "/claim/cut.py" 256), (.int (13) 0), (.int (1) 0), (.int (0) 0), (.int (0) 0), (.int (3) 0), (.ref 61), (.bool true), (.int (181) 0), (.ref 62), .none, (.ref 63), (.ref 64), (.ref 65), (.int (258) 0), (.int (13) 0), (.str "/claim/cut.py" 259)].toArray), [].toArray⟩) ::
 (nat_lit 67, ⟨(.type "function"), none, (.func (PySem.W.fnOf "is_ratio" "is_ratio" (zI s_is_ratio) (zG s_is_ratio) (zC s_is_ratio) .none .none .none (.str "nearplane.ratios" 239) none (.ref 66) .none)), [].toArray⟩) ::
 (nat_lit 73, ⟨(.type "code"), none, (.fields [(.str "greatest_common" 261), (.str "greatest_common" 262), (.str "/claim/cut.py" 263), (.int (19) 0), (.int (2) 0), (.int (0) 0), (.int (0) 0), (.int (3) 0), (.ref 68), (.bool true), (.int (181) 0), (.ref 69), .none, (.ref 70), (.ref 71), (.ref 72), (.int (269) 0), (.int (19) 0), (.str "/claim/cut.py" 270)].toArray), [].toArray⟩) ::
 (nat_lit 74, ⟨(.type "function"), none, (.func (PySem.W.fnOf "greatest_common" "greatest_common" (zI s_greatest_common) (zG s_greatest_common) (zC s_greatest_common) .none .none .none (.str "nearplane.ratios" 239) none (.ref 73) .none)), [].toArray⟩) ::
 (nat_lit 80, ⟨(.type "code"), none, (.fields [(.str "ratio" 272), (.str "ratio" 273), (.str "/claim/cut.py" 274), (.int (27) 0), (.int (2) 0), (.int (0) 0), (.int (0) 0), (.int (3) 0), (.ref 75), (.bool true), (.int (181) 0), (.ref 76), .none, (.ref 77), (.ref 78), (.ref 79), (.int (278) 0), (.int (27) 0), (.str "/claim/cut.py" 279)].toArray), [].toArray⟩) ::
 (nat_lit 81, ⟨(.type "function"), none, (.func (PySem.W.fnOf "ratio" "ratio" (zI s_ratio) (zG s_ratio) (zC s_ratio) .none .none .none (.str "nearplane.ratios" 239) none (.ref 80) .none)), [].toArray⟩) ::
 (nat_lit 87, ⟨(.type "code"), none, (.fields [(.str "plus" 281), (.str "plus" 282), (.str "/claim/cut.py" 283), (.int (34) 0), (.int (2) 0), (.int (0) 0), (.int (0) 0), (.int (3) 0), (.ref 82), (.bool true), (.int (181) 0), (.ref 83), .none, (.ref 84), (.ref 85), (.ref 86), (.int (286) 0), (.int (34) 0), (.str "/claim/cut.py" 287)].toArray), [].toArray⟩) ::
 (nat_lit 88, ⟨(.type "function"), none, (.func (PySem.W.fnOf "plus" "plus" (zI s_plus) (zG s_plus) (zC s_plus) .none .none .none (.str "nearplane.ratios" 239) none (.ref 87) .none)), [].toArray⟩) ::
 (nat_lit 94, ⟨(.type "code"), none, (.fields [(.str "minus" 289), (.str "minus" 290), (.str "/claim/cut.py" 291), (.int (36) 0), (.int (2) 0), (.int (0) 0), (.int (0) 0), (.int (3) 0), (.ref 89), (.bool true), (.int (181) 0), (.ref 90), .none, (.ref 91), (.ref 92), (.ref 93), (.int (294) 0), (.int (36) 0), (.str "/claim/cut.py" 295)].toArray), [].toArray⟩) ::
 (nat_lit 95, ⟨(.type "function"), none, (.func (PySem.W.fnOf "minus" "minus" (zI s_minus) (zG s_minus) (zC s_minus) .none .none .none (.str "nearplane.ratios" 239) none (.ref 94) .none)), [].toArray⟩) ::
 (nat_lit 101, ⟨(.type "code"), none, (.fields [(.str "times" 297), (.str "times" 298), (.str "/claim/cut.py" 299), (.int (38) 0), (.int (2) 0), (.int (0) 0), (.int (0) 0), (.int (3) 0), (.ref 96), (.bool true), (.int (181) 0), (.ref 97), .none, (.ref 98), (.ref 99), (.ref 100), (.int (302) 0), (.int (38) 0), (.str "/claim/cut.py" 303)].toArray), [].toArray⟩) ::
 (nat_lit 102, ⟨(.type "function"), none, (.func (PySem.W.fnOf "times" "times" (zI s_times) (zG s_times) (zC s_times) .none .none .none (.str "nearplane.ratios" 239) none (.ref 101) .none)), [].toArray⟩) ::
 (nat_lit 108, ⟨(.type "code"), none, (.fields [(.str "over" 305), (.str "over" 306), (.str "/claim/cut.py" 307), (.int (40) 0), (.int (2) 0), (.int (0) 0), (.int (0) 0), (.int (3) 0), (.ref 103), (.bool true), (.int (181) 0), (.ref 104), .none, (.ref 105), (.ref 106), (.ref 107), (.int (310) 0), (.int (40) 0), (.str "/claim/cut.py" 311)].toArray), [].toArray⟩) ::
 (nat_lit 109, ⟨(.type "function"), none, (.func (PySem.W.fnOf "over" "over" (zI s_over) (zG s_over) (zC s_over) .none .none .none (.str "nearplane.ratios" 239) none (.ref 108) .none)), [].toArray⟩) ::
 (nat_lit 113, ⟨(.type "code"), none, (.fields [(.str "added" 315), (.str "added" 316), (.str "/claim/cut.py" 317), (.int (43) 0), (.int (2) 0), (.int (0) 0), (.int (0) 0), (.int (3) 0), (.ref 110), (.bool true), (.int (181) 0), (.ref 111), .none, .none, .none, (.ref 112), (.int (318) 0), (.int (43) 0), (.str "/claim/cut.py" 319)].toArray), [].toArray⟩) ::
 (nat_lit 114, ⟨(.type "function"), none, (.func (PySem.W.fnOf "added" "added" (zI s_added) (zG s_added) (zC s_added) .none .none .none (.str "nearplane.rows" 313) none (.ref 113) .none)), [].toArray⟩) ::
 (nat_lit 118, ⟨(.type "code"), none, (.fields [(.str "scaled" 321), (.str "scaled" 322), (.str "/claim/cut.py" 323), (.int (45) 0), (.int (2) 0), (.int (0) 0), (.int (0) 0), (.int (3) 0), (.ref 115), (.bool true), (.int (181) 0), (.ref 116), .none, .none, .none, (.ref 117), (.int (324) 0), (.int (45) 0), (.str "/claim/cut.py" 325)].toArray), [].toArray⟩) ::
 (nat_lit 119, ⟨(.type "function"), none, (.func (PySem.W.fnOf "scaled" "scaled" (zI s_scaled) (zG s_scaled) (zC s_scaled) .none .none .none (.str "nearplane.rows" 313) none (.ref 118) .none)), [].toArray⟩) ::
 (nat_lit 123, ⟨(.type "code"), none, (.fields [(.str "multiplied" 327), (.str "multiplied" 328), (.str "/claim/cut.py" 329), (.int (47) 0), (.int (2) 0), (.int (0) 0), (.int (0) 0), (.int (3) 0), (.ref 120), (.bool true), (.int (181) 0), (.ref 121), .none, .none, .none, (.ref 122), (.int (330) 0), (.int (47) 0), (.str "/claim/cut.py" 331)].toArray), [].toArray⟩) ::
 (nat_lit 124, ⟨(.type "function"), none, (.func (PySem.W.fnOf "multiplied" "multiplied" (zI s_multiplied) (zG s_multiplied) (zC s_multiplied) .none .none .none (.str "nearplane.rows" 313) none (.ref 123) .none)), [].toArray⟩) ::
 (nat_lit 125, ⟨(.type "tuple"), none, (.seq [.none].toArray 0), [].toArray⟩) ::
 (nat_lit 131, ⟨(.type "code"), none, (.fields [(.str "dot" 333), (.str "dot" 334), (.str "/claim/cut.py" 335), (.int (49) 0), (.int (3) 0), (.int (0) 0), (.int (0) 0), (.int (3) 0), (.ref 126), (.bool true), (.int (181) 0), (.ref 127), .none, (.ref 128), (.ref 129), (.ref 130), (.int (342) 0), (.int (49) 0), (.str "/claim/cut.py" 343)].toArray), [].toArray⟩) ::
 (nat_lit 132, ⟨(.type "function"), none, (.func (PySem.W.fnOf "dot" "dot" (zI s_dot) (zG s_dot) (zC s_dot) (.ref 125) .none .none (.str "nearplane.rows" 313) none (.ref 131) .none)), [].toArray⟩) ::
 (nat_lit 136, ⟨(.type "code"), none, (.fields [(.str "done" 347), (.str "done" 348), (.str "/claim/cut.py" 349), (.int (58) 0), (.int (2) 0), (.int (0) 0), (.int (0) 0), (.int (3) 0), (.ref 133), (.bool true), (.int (181) 0), (.ref 134), .none, .none, .none, (.ref 135), (.int (350) 0), (.int (58) 0), (.str "/claim/cut.py" 351)].toArray), [].toArray⟩) ::
 (nat_lit 137, ⟨(.type "function"), none, (.func (PySem.W.fnOf "done" "done" (zI s_done) (zG s_done) (zC s_done) .none .none .none (.str "nearplane.deeds" 345) none (.ref 136) .none)), [].toArray⟩) ::
 (nat_lit 143, ⟨(.type "code"), none, (.fields [(.str "done_once" 353), (.str "done_once" 354), (.str "/claim/cut.py" 355), (.int (65) 0), (.int (2) 0), (.int (0) 0), (.int (0) 0), (.int (3) 0), (.ref 138), (.bool true), (.int (181) 0), (.ref 139), .none, (.ref 140), (.ref 141), (.ref 142), (.int (360) 0), (.int (65) 0), (.str "/claim/cut.py" 361)].toArray), [].toArray⟩) ::
 (nat_lit 144, ⟨(.type "function"), none, (.func (PySem.W.fnOf "done_once" "done_once" (zI s_done_once) (zG s_done_once) (zC s_done_once) .none .none .none (.str "nearplane.deeds" 345) none (.ref 143) .none)), [].toArray⟩) ::
 (nat_lit 148, ⟨(.type "code"), none, (.fields [(.str "are_deeds" 363), (.str "are_deeds" 364), (.str "/claim/cut.py" 365), (.int (76) 0), (.int (2) 0), (.int (0) 0), (.int (0) 0), (.int (3) 0), (.ref 145), (.bool true), (.int (181) 0), (.ref 146), .none, .none, .none, (.ref 147), (.int (366) 0), (.int (76) 0), (.str "/claim/cut.py" 367)].toArray), [].toArray⟩) ::
 (nat_lit 149, ⟨(.type "function"), none, (.func (PySem.W.fnOf "are_deeds" "are_deeds" (zI s_are_deeds) (zG s_are_deeds) (zC s_are_deeds) .none .none .none (.str "nearplane.deeds" 345) none (.ref 148) .none)), [].toArray⟩) ::
 (nat_lit 155, ⟨(.type "code"), none, (.fields [(.str "is_deed" 369), (.str "is_deed" 370), (.str "/claim/cut.py" 371), (.int (80) 0), (.int (2) 0), (.int (0) 0), (.int (0) 0), (.int (3) 0), (.ref 150), (.bool true), (.int (181) 0), (.ref 151), .none, (.ref 152), (.ref 153), (.ref 154), (.int (375) 0), (.int (80) 0), (.str "/claim/cut.py" 376)].toArray), [].toArray⟩) ::
 (nat_lit 156, ⟨(.type "function"), none, (.func (PySem.W.fnOf "is_deed" "is_deed" (zI s_is_deed) (zG s_is_deed) (zC s_is_deed) .none .none .none (.str "nearplane.deeds" 345) none (.ref 155) .none)), [].toArray⟩) ::
 (nat_lit 162, ⟨(.type "code"), none, (.fields [(.str "is_row_number" 378), (.str "is_row_number" 379), (.str "/claim/cut.py" 380), (.int (93) 0), (.int (2) 0), (.int (0) 0), (.int (0) 0), (.int (3) 0), (.ref 157), (.bool true), (.int (181) 0), (.ref 158), .none, (.ref 159), (.ref 160), (.ref 161), (.int (383) 0), (.int (93) 0), (.str "/claim/cut.py" 384)].toArray), [].toArray⟩) ::
 (nat_lit 163, ⟨(.type "function"), none, (.func (PySem.W.fnOf "is_row_number" "is_row_number" (zI s_is_row_number) (zG s_is_row_number) (zC s_is_row_number) .none .none .none (.str "nearplane.deeds" 345) none (.ref 162) .none)), [].toArray⟩) ::
 (nat_lit 169, ⟨(.type "code"), none, (.fields [(.str "are_unlike_rows" 386), (.str "are_unlike_rows" 387), (.str "/claim/cut.py" 388), (.int (95) 0), (.int (3) 0), (.int (0) 0), (.int (0) 0), (.int (3) 0), (.ref 164), (.bool true), (.int (181) 0), (.ref 165), .none, (.ref 166), (.ref 167), (.ref 168), (.int (392) 0), (.int (95) 0), (.str "/claim/cut.py" 393)].toArray), [].toArray⟩) ::
 (nat_lit 170, ⟨(.type "function"), none, (.func (PySem.W.fnOf "are_unlike_rows" "are_unlike_rows" (zI s_are_unlike_rows) (zG s_are_unlike_rows) (zC s_are_unlike_rows) .none .none .none (.str "nearplane.deeds" 345) none (.ref 169) .none)), [].toArray⟩) ::
 (nat_lit 174, ⟨(.type "code"), none, (.fields [(.str "unit" 397), (.str "unit" 398), (.str "/claim/cut.py" 399), (.int (98) 0), (.int (1) 0), (.int (0) 0), (.int (0) 0), (.int (3) 0), (.ref 171), (.bool true), (.int (181) 0), (.ref 172), .none, .none, .none, (.ref 173), (.int (400) 0), (.int (98) 0), (.str "/claim/cut.py" 401)].toArray), [].toArray⟩) ::
 (nat_lit 175, ⟨(.type "function"), none, (.func (PySem.W.fnOf "unit" "unit" (zI s_unit) (zG s_unit) (zC s_unit) .none .none .none (.str "nearplane.tables" 395) none (.ref 174) .none)), [].toArray⟩) ::
 (nat_lit 179, ⟨(.type "code"), none, (.fields [(.str "unit_row" 403), (.str "unit_row" 404), (.str "/claim/cut.py" 405), (.int (100) 0), (.int (2) 0), (.int (0) 0), (.int (0) 0), (.int (3) 0), (.ref 176), (.bool true), (.int (181) 0), (.ref 177), .none, .none, .none, (.ref 178), (.int (406) 0), (.int (100) 0), (.str "/claim/cut.py" 407)].toArray), [].toArray⟩) ::
 (nat_lit 180, ⟨(.type "function"), none, (.func (PySem.W.fnOf "unit_row" "unit_row" (zI s_unit_row) (zG s_unit_row) (zC s_unit_row) .none .none .none (.str "nearplane.tables" 395) none (.ref 179) .none)), [].toArray⟩) ::
 (nat_lit 184, ⟨(.type "code"), none, (.fields [(.str "reduced" 411), (.str "reduced" 412), (.str "/claim/cut.py" 413), (.int (103) 0), (.int (2) 0), (.int (0) 0), (.int (0) 0), (.int (3) 0), (.ref 181), (.bool true), (.int (181) 0), (.ref 182), .none, .none, .none, (.ref 183), (.int (414) 0), (.int (103) 0), (.str "/claim/cut.py" 415)].toArray), [].toArray⟩) ::
 (nat_lit 185, ⟨(.type "function"), none, (.func (PySem.W.fnOf "reduced" "reduced" (zI s_reduced) (zG s_reduced) (zC s_reduced) .none .none .none (.str "nearplane.equations" 409) none (.ref 184) .none)), [].toArray⟩) ::
 (nat_lit 191, ⟨(.type "code"), none, (.fields [(.str "row_with_thing" 417), (.str "row_with_thing" 418), (.str "/claim/cut.py" 419), (.int (117) 0), (.int (3) 0), (.int (0) 0), (.int (0) 0), (.int (3) 0), (.ref 186), (.bool true), (.int (181) 0), (.ref 187), .none, (.ref 188), (.ref 189), (.ref 190), (.int (424) 0), (.int (117) 0), (.str "/claim/cut.py" 425)].toArray), [].toArray⟩) ::
 (nat_lit 192, ⟨(.type "function"), none, (.func (PySem.W.fnOf "row_with_thing" "row_with_thing" (zI s_row_with_thing) (zG s_row_with_thing) (zC s_row_with_thing) .none .none .none (.str "nearplane.equations" 409) none (.ref 191) .none)), [].toArray⟩) ::
 (nat_lit 198, ⟨(.type "code"), none, (.fields [(.str "clearing_deeds" 427), (.str "clearing_deeds" 428), (.str "/claim/cut.py" 429), (.int (122) 0), (.int (4) 0), (.int (0) 0), (.int (0) 0), (.int (3) 0), (.ref 193), (.bool true), (.int (181) 0), (.ref 194), .none, (.ref 195), (.ref 196), (.ref 197), (.int (438) 0), (.int (122) 0), (.str "/claim/cut.py" 439)].toArray), [].toArray⟩) ::
 (nat_lit 199, ⟨(.type "function"), none, (.func (PySem.W.fnOf "clearing_deeds" "clearing_deeds" (zI s_clearing_deeds) (zG s_clearing_deeds) (zC s_clearing_deeds) .none .none .none (.str "nearplane.equations" 409) none (.ref 198) .none)), [].toArray⟩) ::
 (nat_lit 203, ⟨(.type "code"), none, (.fields [(.str "answer" 441), (.str "answer" 442), (.str "/claim/cut.py" 443), (.int (133) 0), (.int (3) 0), (.int (0) 0), (.int (0) 0), (.int (3) 0), (.ref 200), (.bool true), (.int (181) 0), (.ref 201), .none, .none, .none, (.ref 202), (.int (444) 0), (.int (133) 0), (.str "/claim/cut.py" 445)].toArray), [].toArray⟩) ::
 (nat_lit 204, ⟨(.type "function"), none, (.func (PySem.W.fnOf "answer" "answer" (zI s_answer) (zG s_answer) (zC s_answer) .none .none .none (.str "nearplane.equations" 409) none (.ref 203) .none)), [].toArray⟩) ::
 (nat_lit 208, ⟨(.type "code"), none, (.fields [(.str "way" 447), (.str "way" 448), (.str "/claim/cut.py" 449), (.int (144) 0), (.int (4) 0), (.int (0) 0), (.int (0) 0), (.int (3) 0), (.ref 205), (.bool true), (.int (181) 0), (.ref 206), .none, .none, .none, (.ref 207), (.int (450) 0), (.int (144) 0), (.str "/claim/cut.py" 451)].toArray), [].toArray⟩) ::
 (nat_lit 209, ⟨(.type "function"), none, (.func (PySem.W.fnOf "way" "way" (zI s_way) (zG s_way) (zC s_way) .none .none .none (.str "nearplane.equations" 409) none (.ref 208) .none)), [].toArray⟩) ::
 (nat_lit 215, ⟨(.type "code"), none, (.fields [(.str "placed" 453), (.str "placed" 454), (.str "/claim/cut.py" 455), (.int (146) 0), (.int (3) 0), (.int (0) 0), (.int (0) 0), (.int (3) 0), (.ref 210), (.bool true), (.int (181) 0), (.ref 211), .none, (.ref 212), (.ref 213), (.ref 214), (.int (462) 0), (.int (146) 0), (.str "/claim/cut.py" 463)].toArray), [].toArray⟩) ::
 (nat_lit 216, ⟨(.type "function"), none, (.func (PySem.W.fnOf "placed" "placed" (zI s_placed) (zG s_placed) (zC s_placed) .none .none .none (.str "nearplane.equations" 409) none (.ref 215) .none)), [].toArray⟩) ::
 (nat_lit 222, ⟨(.type "code"), none, (.fields [(.str "_law_cell_at" 467), (.str "_law_cell_at" 468), (.str "/claim/cut.py" 469), (.int (152) 0), (.int (2) 0), (.int (0) 0), (.int (0) 0), (.int (3) 0), (.ref 217), (.bool true), (.int (181) 0), (.ref 218), .none, (.ref 219), (.ref 220), (.ref 221), (.int (472) 0), (.int (152) 0), (.str "/claim/cut.py" 473)].toArray), [].toArray⟩) ::
 (nat_lit 223, ⟨(.type "function"), none, (.func (PySem.W.fnOf "_law_cell_at" "_law_cell_at" (zI s__law_cell_at) (zG s__law_cell_at) (zC s__law_cell_at) .none .none .none (.str "law_nearplane_k28_whole_answers" 465) none (.ref 222) .none)), [].toArray⟩) ::
 (nat_lit 229, ⟨(.type "code"), none, (.fields [(.str "_law_great" 475), (.str "_law_great" 476), (.str "/claim/cut.py" 477), (.int (156) 0), (.int (1) 0), (.int (0) 0), (.int (0) 0), (.int (3) 0), (.ref 224), (.bool true), (.int (181) 0), (.ref 225), .none, (.ref 226), (.ref 227), (.ref 228), (.int (480) 0), (.int (156) 0), (.str "/claim/cut.py" 481)].toArray), [].toArray⟩) ::
 (nat_lit 230, ⟨(.type "function"), none, (.func (PySem.W.fnOf "_law_great" "_law_great" (zI s__law_great) (zG s__law_great) (zC s__law_great) .none .none .none (.str "law_nearplane_k28_whole_answers" 465) none (.ref 229) .none)), [].toArray⟩) ::
 (nat_lit 236, ⟨(.type "code"), none, (.fields [(.str "_law_low" 483), (.str "_law_low" 484), (.str "/claim/cut.py" 485), (.int (159) 0), (.int (2) 0), (.int (0) 0), (.int (0) 0), (.int (3) 0), (.ref 231), (.bool true), (.int (181) 0), (.ref 232), .none, (.ref 233), (.ref 234), (.ref 235), (.int (490) 0), (.int (159) 0), (.str "/claim/cut.py" 491)].toArray), [].toArray⟩) ::
 (nat_lit 237, ⟨(.type "function"), none, (.func (PySem.W.fnOf "_law_low" "_law_low" (zI s__law_low) (zG s__law_low) (zC s__law_low) .none .none .none (.str "law_nearplane_k28_whole_answers" 465) none (.ref 236) .none)), [].toArray⟩) ::
 (nat_lit 243, ⟨(.type "code"), none, (.fields [(.str "_law_ratio" 493), (.str "_law_ratio" 494), (.str "/claim/cut.py" 495), (.int (165) 0), (.int (1) 0), (.int (0) 0), (.int (0) 0), (.int (3) 0), (.ref 238), (.bool true), (.int (181) 0), (.ref 239), .none, (.ref 240), (.ref 241), (.ref 242), (.int (499) 0), (.int (165) 0), (.str "/claim/cut.py" 500)].toArray), [].toArray⟩) ::
 (nat_lit 244, ⟨(.type "function"), none, (.func (PySem.W.fnOf "_law_ratio" "_law_ratio" (zI s__law_ratio) (zG s__law_ratio) (zC s__law_ratio) .none .none .none (.str "law_nearplane_k28_whole_answers" 465) none (.ref 243) .none)), [].toArray⟩) ::
 (nat_lit 250, ⟨(.type "code"), none, (.fields [(.str "_law_row" 502), (.str "_law_row" 503), (.str "/claim/cut.py" 504), (.int (171) 0), (.int (2) 0), (.int (0) 0), (.int (0) 0), (.int (3) 0), (.ref 245), (.bool true), (.int (181) 0), (.ref 246), .none, (.ref 247), (.ref 248), (.ref 249), (.int (510) 0), (.int (171) 0), (.str "/claim/cut.py" 511)].toArray), [].toArray⟩) ::
 (nat_lit 251, ⟨(.type "function"), none, (.func (PySem.W.fnOf "_law_row" "_law_row" (zI s__law_row) (zG s__law_row) (zC s__law_row) .none .none .none (.str "law_nearplane_k28_whole_answers" 465) none (.ref 250) .none)), [].toArray⟩) ::
 (nat_lit 257, ⟨(.type "code"), none, (.fields [(.str "_law_plus" 513), (.str "_law_plus" 514), (.str "/claim/cut.py" 515), (.int (177) 0), (.int (2) 0), (.int (0) 0), (.int (0) 0), (.int (3) 0), (.ref 252), (.bool true), (.int (181) 0), (.ref 253), .none, (.ref 254), (.ref 255), (.ref 256), (.int (518) 0), (.int (177) 0), (.str "/claim/cut.py" 519)].toArray), [].toArray⟩) ::
 (nat_lit 258, ⟨(.type "function"), none, (.func (PySem.W.fnOf "_law_plus" "_law_plus" (zI s__law_plus) (zG s__law_plus) (zC s__law_plus) .none .none .none (.str "law_nearplane_k28_whole_answers" 465) none (.ref 257) .none)), [].toArray⟩) ::
 (nat_lit 264, ⟨(.type "code"), none, (.fields [(.str "_law_times" 521), (.str "_law_times" 522), (.str "/claim/cut.py" 523), (.int (179) 0), (.int (2) 0), (.int (0) 0), (.int (0) 0), (.int (3) 0), (.ref 259), (.bool true), (.int (181) 0), (.ref 260), .none, (.ref 261), (.ref 262), (.ref 263), (.int (526) 0), (.int (179) 0), (.str "/claim/cut.py" 527)].toArray), [].toArray⟩) ::
 (nat_lit 265, ⟨(.type "function"), none, (.func (PySem.W.fnOf "_law_times" "_law_times" (zI s__law_times) (zG s__law_times) (zC s__law_times) .none .none .none (.str "law_nearplane_k28_whole_answers" 465) none (.ref 264) .none)), [].toArray⟩) ::
 (nat_lit 269, ⟨(.type "code"), none, (.fields [(.str "_law_mix" 529), (.str "_law_mix" 530), (.str "/claim/cut.py" 531), (.int (181) 0), (.int (3) 0), (.int (0) 0), (.int (0) 0), (.int (3) 0), (.ref 266), (.bool true), (.int (181) 0), (.ref 267), .none, .none, .none, (.ref 268), (.int (532) 0), (.int (181) 0), (.str "/claim/cut.py" 533)].toArray), [].toArray⟩) ::
 (nat_lit 270, ⟨(.type "function"), none, (.func (PySem.W.fnOf "_law_mix" "_law_mix" (zI s__law_mix) (zG s__law_mix) (zC s__law_mix) .none .none .none (.str "law_nearplane_k28_whole_answers" 465) none (.ref 269) .none)), [].toArray⟩) ::
 (nat_lit 276, ⟨(.type "code"), none, (.fields [(.str "_law_whole" 535), (.str "_law_whole" 536), (.str "/claim/cut.py" 537), (.int (186) 0), (.int (1) 0), (.int (0) 0), (.int (0) 0), (.int (3) 0), (.ref 271), (.bool true), (.int (181) 0), (.ref 272), .none, (.ref 273), (.ref 274), (.ref 275), (.int (539) 0), (.int (186) 0), (.str "/claim/cut.py" 540)].toArray), [].toArray⟩) ::
 (nat_lit 277, ⟨(.type "function"), none, (.func (PySem.W.fnOf "_law_whole" "_law_whole" (zI s__law_whole) (zG s__law_whole) (zC s__law_whole) .none .none .none (.str "law_nearplane_k28_whole_answers" 465) none (.ref 276) .none)), [].toArray⟩) ::
 (nat_lit 283, ⟨(.type "code"), none, (.fields [(.str "_law_is_row" 542), (.str "_law_is_row" 543), (.str "/claim/cut.py" 544), (.int (188) 0), (.int (2) 0), (.int (0) 0), (.int (0) 0), (.int (3) 0), (.ref 278), (.bool true), (.int (181) 0), (.ref 279), .none, (.ref 280), (.ref 281), (.ref 282), (.int (548) 0), (.int (188) 0), (.str "/claim/cut.py" 549)].toArray), [].toArray⟩) ::
 (nat_lit 284, ⟨(.type "function"), none, (.func (PySem.W.fnOf "_law_is_row" "_law_is_row" (zI s__law_is_row) (zG s__law_is_row) (zC s__law_is_row) .none .none .none (.str "law_nearplane_k28_whole_answers" 465) none (.ref 283) .none)), [].toArray⟩) ::
 (nat_lit 288, ⟨(.type "code"), none, (.fields [(.str "_law_is_table" 551), (.str "_law_is_table" 552), (.str "/claim/cut.py" 553), (.int (197) 0), (.int (3) 0), (.int (0) 0), (.int (0) 0), (.int (3) 0), (.ref 285), (.bool true), (.int (181) 0), (.ref 286), .none, .none, .none, (.ref 287), (.int (554) 0), (.int (197) 0), (.str "/claim/cut.py" 555)].toArray), [].toArray⟩) ::
 (nat_lit 289, ⟨(.type "function"), none, (.func (PySem.W.fnOf "_law_is_table" "_law_is_table" (zI s__law_is_table) (zG s__law_is_table) (zC s__law_is_table) .none .none .none (.str "law_nearplane_k28_whole_answers" 465) none (.ref 288) .none)), [].toArray⟩) ::
 (nat_lit 295, ⟨(.type "code"), none, (.fields [(.str "_law_table" 557), (.str "_law_table" 558), (.str "/claim/cut.py" 559), (.int (201) 0), (.int (3) 0), (.int (0) 0), (.int (0) 0), (.int (3) 0), (.ref 290), (.bool true), (.int (181) 0), (.ref 291), .none, (.ref 292), (.ref 293), (.ref 294), (.int (568) 0), (.int (201) 0), (.str "/claim/cut.py" 569)].toArray), [].toArray⟩) ::
 (nat_lit 296, ⟨(.type "function"), none, (.func (PySem.W.fnOf "_law_table" "_law_table" (zI s__law_table) (zG s__law_table) (zC s__law_table) .none .none .none (.str "law_nearplane_k28_whole_answers" 465) none (.ref 295) .none)), [].toArray⟩) ::
 (nat_lit 302, ⟨(.type "code"), none, (.fields [(.str "_law_dot" 571), (.str "_law_dot" 572), (.str "/claim/cut.py" 573), (.int (211) 0), (.int (2) 0), (.int (0) 0), (.int (0) 0), (.int (3) 0), (.ref 297), (.bool true), (.int (181) 0), (.ref 298), .none, (.ref 299), (.ref 300), (.ref 301), (.int (579) 0), (.int (211) 0), (.str "/claim/cut.py" 580)].toArray), [].toArray⟩) ::
 (nat_lit 303, ⟨(.type "function"), none, (.func (PySem.W.fnOf "_law_dot" "_law_dot" (zI s__law_dot) (zG s__law_dot) (zC s__law_dot) .none .none .none (.str "law_nearplane_k28_whole_answers" 465) none (.ref 302) .none)), [].toArray⟩) ::
 (nat_lit 307, ⟨(.type "code"), none, (.fields [(.str "_law_answers" 582), (.str "_law_answers" 583), (.str "/claim/cut.py" 584), (.int (216) 0), (.int (3) 0), (.int (0) 0), (.int (0) 0), (.int (3) 0), (.ref 304), (.bool true), (.int (181) 0), (.ref 305), .none, .none, .none, (.ref 306), (.int (585) 0), (.int (216) 0), (.str "/claim/cut.py" 586)].toArray), [].toArray⟩) ::
 (nat_lit 308, ⟨(.type "function"), none, (.func (PySem.W.fnOf "_law_answers" "_law_answers" (zI s__law_answers) (zG s__law_answers) (zC s__law_answers) .none .none .none (.str "law_nearplane_k28_whole_answers" 465) none (.ref 307) .none)), [].toArray⟩) ::
 (nat_lit 314, ⟨(.type "code"), none, (.fields [(.str "_law_none" 588), (.str "_law_none" 589), (.str "/claim/cut.py" 590), (.int (218) 0), (.int (4) 0), (.int (0) 0), (.int (0) 0), (.int (3) 0), (.ref 309), (.bool true), (.int (181) 0), (.ref 310), .none, (.ref 311), (.ref 312), (.ref 313), (.int (595) 0), (.int (218) 0), (.str "/claim/cut.py" 596)].toArray), [].toArray⟩) ::
 (nat_lit 315, ⟨(.type "function"), none, (.func (PySem.W.fnOf "_law_none" "_law_none" (zI s__law_none) (zG s__law_none) (zC s__law_none) .none .none .none (.str "law_nearplane_k28_whole_answers" 465) none (.ref 314) .none)), [].toArray⟩) ::
 (nat_lit 319, ⟨(.type "code"), none, (.fields [(.str "_law_is" 598), (.str "_law_is" 599), (.str "/claim/cut.py" 600), (.int (222) 0), (.int (4) 0), (.int (0) 0), (.int (0) 0), (.int (3) 0), (.ref 316), (.bool true), (.int (181) 0), (.ref 317), .none, .none, .none, (.ref 318), (.int (601) 0), (.int (222) 0), (.str "/claim/cut.py" 602)].toArray), [].toArray⟩) ::
 (nat_lit 320, ⟨(.type "function"), none, (.func (PySem.W.fnOf "_law_is" "_law_is" (zI s__law_is) (zG s__law_is) (zC s__law_is) .none .none .none (.str "law_nearplane_k28_whole_answers" 465) none (.ref 319) .none)), [].toArray⟩) ::
 (nat_lit 324, ⟨(.type "code"), none, (.fields [(.str "law" 604), (.str "law" 605), (.str "/claim/cut.py" 606), (.int (240) 0), (.int (1) 0), (.int (0) 0), (.int (0) 0), (.int (3) 0), (.ref 321), (.bool true), (.int (181) 0), (.ref 322), .none, .none, .none, (.ref 323), (.int (607) 0), (.int (240) 0), (.str "/claim/cut.py" 608)].toArray), [].toArray⟩) ::
 (nat_lit 325, ⟨(.type "function"), none, (.func (PySem.W.fnOf "law" "law" (zI s_law) (zG s_law) (zC s_law) .none .none .none (.str "law_nearplane_k28_whole_answers" 465) none (.ref 324) .none)), [].toArray⟩) :: []
def KA : List Addr := nat_lit 3 :: nat_lit 52 :: nat_lit 53 :: nat_lit 59 :: nat_lit 60 :: nat_lit 66 :: nat_lit 67 :: nat_lit 73 :: nat_lit 74 :: nat_lit 80 :: nat_lit 81 :: nat_lit 87 :: nat_lit 88 :: nat_lit 94 :: nat_lit 95 :: nat_lit 101 :: nat_lit 102 :: nat_lit 108 :: nat_lit 109 :: nat_lit 113 :: nat_lit 114 :: nat_lit 118 :: nat_lit 119 :: nat_lit 123 :: nat_lit 124 :: nat_lit 125 :: nat_lit 131 :: nat_lit 132 :: nat_lit 136 :: nat_lit 137 :: nat_lit 143 :: nat_lit 144 :: nat_lit 148 :: nat_lit 149 :: nat_lit 155 :: nat_lit 156 :: nat_lit 162 :: nat_lit 163 :: nat_lit 169 :: nat_lit 170 :: nat_lit 174 :: nat_lit 175 :: nat_lit 179 :: nat_lit 180 :: nat_lit 184 :: nat_lit 185 :: nat_lit 191 :: nat_lit 192 :: nat_lit 198 :: nat_lit 199 :: nat_lit 203 :: nat_lit 204 :: nat_lit 208 :: nat_lit 209 :: nat_lit 215 :: nat_lit 216 :: nat_lit 222 :: nat_lit 223 :: nat_lit 229 :: nat_lit 230 :: nat_lit 236 :: nat_lit 237 :: nat_lit 243 :: nat_lit 244 :: nat_lit 250 :: nat_lit 251 :: nat_lit 257 :: nat_lit 258 :: nat_lit 264 :: nat_lit 265 :: nat_lit 269 :: nat_lit 270 :: nat_lit 276 :: nat_lit 277 :: nat_lit 283 :: nat_lit 284 :: nat_lit 288 :: nat_lit 289 :: nat_lit 295 :: nat_lit 296 :: nat_lit 302 :: nat_lit 303 :: nat_lit 307 :: nat_lit 308 :: nat_lit 314 :: nat_lit 315 :: nat_lit 319 :: nat_lit 320 :: nat_lit 324 :: nat_lit 325 :: []
end Tm
open PySem PySem.W PyProof.Rows
def PySem.W.Fast.tw12852258405891537376 : Unit := ()
def PySem.W.Fast.tw14356850829067361377 : Unit := ()
def PySem.W.Fast.tw17549436753763947204 : Unit := ()
def PySem.W.Fast.tw17984196791856681419 : Unit := ()
def PySem.W.Fast.tw16675536404956636527 : Unit := ()
def PySem.W.Fast.tw8169661318952481199 : Unit := ()
def PySem.W.Fast.tw10311466101487621333 : Unit := ()
def PySem.W.Fast.tw10026778794819217687 : Unit := ()
def PySem.W.Fast.tw18367012689093783518 : Unit := ()
set_option maxRecDepth 100000 in
set_option maxHeartbeats 0 in
theorem PySem.Challenge.cw_nearplane_k28_whole_answers_holds : PySem.Challenge.rw_nearplane_k28_whole_answers.Holds := by
 w_on; o_law; o_head (PySem.W.kHook Tm.KK Tm.KA (fun _ => by kernel_rfl)); (case hw => w_witness2)
 k_fill
 refine Tm.walk (l := PySem.Challenge.rw_nearplane_k28_whole_answers) rfl rfl (fun w h Y => PySem.W.kIn_of Y) ?F ?hq
 case hq => first | rfl | decide +kernel
 case F =>
  intro w mg fa h KX G hmg
  refine' Tm.all_mk rfl KX G hmg ?a0 ?l0 ?c0 ?k0 ?a1 ?l1 ?c1 ?k1 ?a2 ?l2 ?c2 ?k2 ?a3 ?l3 ?c3 ?k3 ?a4 ?l4 ?c4 ?k4 ?a5 ?l5 ?c5 ?k5 ?a6 ?l6 ?c6 ?k6 ?a7 ?l7 ?c7 ?k7 ?a8 ?l8 ?c8 ?k8 ?a9 ?l9 ?c9 ?k9 ?a10 ?l10 ?c10 ?k10 ?a11 ?l11 ?c11 ?k11 ?lT11 ?a12 ?l12 ?c12 ?k12 ?a13 ?l13 ?c13 ?k13 ?a14 ?l14 ?c14 ?k14 ?a15 ?l15 ?c15 ?k15 ?a16 ?l16 ?c16 ?k16 ?a17 ?l17 ?c17 ?k17 ?a18 ?l18 ?c18 ?k18 ?a19 ?l19 ?c19 ?k19 ?a20 ?l20 ?c20 ?k20 ?a21 ?l21 ?c21 ?k21 ?a22 ?l22 ?c22 ?k22 ?a23 ?l23 ?c23 ?k23 ?a24 ?l24 ?c24 ?k24 ?a25 ?l25 ?c25 ?k25 ?a26 ?l26 ?c26 ?k26 ?a27 ?l27 ?c27 ?k27 ?a28 ?l28 ?c28 ?k28 ?a29 ?l29 ?c29 ?k29 ?a30 ?l30 ?c30 ?k30 ?a31 ?l31 ?c31 ?k31 ?a32 ?l32 ?c32 ?k32 ?a33 ?l33 ?c33 ?k33 ?a34 ?l34 ?c34 ?k34 ?a35 ?l35 ?c35 ?k35 ?a36 ?l36 ?c36 ?k36 ?a37 ?l37 ?c37 ?k37 ?a38 ?l38 ?c38 ?k38 ?a39 ?l39 ?c39 ?k39 ?a40 ?l40 ?c40 ?k40 ?a41 ?l41 ?c41 ?k41 ?a42 ?l42 ?c42 ?k42 ?aCNOUGHT ?lCNOUGHT ?aCONE ?lCONE ?z_abs ?z_all ?z_bool ?z_divmod ?z_enumerate ?z_int ?z_isinstance ?z_len ?z_list ?z_range ?z_str ?z_tuple ?z_zip
  (case a0 => k_is)
  (case l0 => k_is)
  (case c0 => k_is)
  (case k0 => k_is)
  (case a1 => k_is)
  (case l1 => k_is)
  (case c1 => k_is)
  (case k1 => k_is)
  (case a2 => k_is)
  (case l2 => k_is)
  (case c2 => k_is)
  (case k2 => k_is)
  (case a3 => k_is)
  (case l3 => k_is)
  (case c3 => k_is)
  (case k3 => k_is)
  (case a4 => k_is)
  (case l4 => k_is)
  (case c4 => k_is)
  (case k4 => k_is)
  (case a5 => k_is)
  (case l5 => k_is)
  (case c5 => k_is)
  (case k5 => k_is)
  (case a6 => k_is)
  (case l6 => k_is)
  (case c6 => k_is)
  (case k6 => k_is)
  (case a7 => k_is)
  (case l7 => k_is)
  (case c7 => k_is)
  (case k7 => k_is)
  (case a8 => k_is)
  (case l8 => k_is)
  (case c8 => k_is)
  (case k8 => k_is)
  (case a9 => k_is)
  (case l9 => k_is)
  (case c9 => k_is)
  (case k9 => k_is)
  (case a10 => k_is)
  (case l10 => k_is)
  (case c10 => k_is)
  (case k10 => k_is)
  (case a11 => k_is)
  (case l11 => k_is)
  (case c11 => k_is)
  (case k11 => k_is)
  (case lT11 => k_is)
  (case a12 => k_is)
  (case l12 => k_is)
  (case c12 => k_is)
  (case k12 => k_is)
  (case a13 => k_is)
  (case l13 => k_is)
  (case c13 => k_is)
  (case k13 => k_is)
  (case a14 => k_is)
  (case l14 => k_is)
  (case c14 => k_is)
  (case k14 => k_is)
  (case a15 => k_is)
  (case l15 => k_is)
  (case c15 => k_is)
  (case k15 => k_is)
  (case a16 => k_is)
  (case l16 => k_is)
  (case c16 => k_is)
  (case k16 => k_is)
  (case a17 => k_is)
  (case l17 => k_is)
  (case c17 => k_is)
  (case k17 => k_is)
  (case a18 => k_is)
  (case l18 => k_is)
  (case c18 => k_is)
  (case k18 => k_is)
  (case a19 => k_is)
  (case l19 => k_is)
  (case c19 => k_is)
  (case k19 => k_is)
  (case a20 => k_is)
  (case l20 => k_is)
  (case c20 => k_is)
  (case k20 => k_is)
  (case a21 => k_is)
  (case l21 => k_is)
  (case c21 => k_is)
  (case k21 => k_is)
  (case a22 => k_is)
  (case l22 => k_is)
  (case c22 => k_is)
  (case k22 => k_is)
  (case a23 => k_is)
  (case l23 => k_is)
  (case c23 => k_is)
  (case k23 => k_is)
  (case a24 => k_is)
  (case l24 => k_is)
  (case c24 => k_is)
  (case k24 => k_is)
  (case a25 => k_is)
  (case l25 => k_is)
  (case c25 => k_is)
  (case k25 => k_is)
  (case a26 => k_is)
  (case l26 => k_is)
  (case c26 => k_is)
  (case k26 => k_is)
  (case a27 => k_is)
  (case l27 => k_is)
  (case c27 => k_is)
  (case k27 => k_is)
  (case a28 => k_is)
  (case l28 => k_is)
  (case c28 => k_is)
  (case k28 => k_is)
  (case a29 => k_is)
  (case l29 => k_is)
  (case c29 => k_is)
  (case k29 => k_is)
  (case a30 => k_is)
  (case l30 => k_is)
  (case c30 => k_is)
  (case k30 => k_is)
  (case a31 => k_is)
  (case l31 => k_is)
  (case c31 => k_is)
  (case k31 => k_is)
  (case a32 => k_is)
  (case l32 => k_is)
  (case c32 => k_is)
  (case k32 => k_is)
  (case a33 => k_is)
  (case l33 => k_is)
  (case c33 => k_is)
  (case k33 => k_is)
  (case a34 => k_is)
  (case l34 => k_is)
  (case c34 => k_is)
  (case k34 => k_is)
  (case a35 => k_is)
  (case l35 => k_is)
  (case c35 => k_is)
  (case k35 => k_is)
  (case a36 => k_is)
  (case l36 => k_is)
  (case c36 => k_is)
  (case k36 => k_is)
  (case a37 => k_is)
  (case l37 => k_is)
  (case c37 => k_is)
  (case k37 => k_is)
  (case a38 => k_is)
  (case l38 => k_is)
  (case c38 => k_is)
  (case k38 => k_is)
  (case a39 => k_is)
  (case l39 => k_is)
  (case c39 => k_is)
  (case k39 => k_is)
  (case a40 => k_is)
  (case l40 => k_is)
  (case c40 => k_is)
  (case k40 => k_is)
  (case a41 => k_is)
  (case l41 => k_is)
  (case c41 => k_is)
  (case k41 => k_is)
  (case a42 => k_is)
  (case l42 => k_is)
  (case c42 => k_is)
  (case k42 => k_is)
  (case aCNOUGHT => k_is)
  (case lCNOUGHT => k_is)
  (case aCONE => k_is)
  (case lCONE => k_is)
  (case z_abs => k_is)
  (case z_all => k_is)
  (case z_bool => k_is)
  (case z_divmod => k_is)
  (case z_enumerate => k_is)
  (case z_int => k_is)
  (case z_isinstance => k_is)
  (case z_len => k_is)
  (case z_list => k_is)
  (case z_range => k_is)
  (case z_str => k_is)
  (case z_tuple => k_is)
  (case z_zip => k_is)
end
