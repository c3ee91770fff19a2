import PyProof.Rows.All
import Wide.All
import OpenK.AllK
import Wide.FinOn
import Lean
import PyProof.EqAt
import PyProof.EqKinds
import PyProof.TupleCall
import PySem.Str
import KE.KListMore
import KE.LcSums
import KE.KRevIter
import PyProof.EnumStmt
import PyProof.EnumMake
import PyProof.IsiTupleOf
import PyProof.P3In
import PyProof.CollectIter
import PyProof.ListRange
import OpenK.KOwn
import KE.KTryMore
import PyProof.NsDelKeeps
import KE.KIsAll
import PyProof.ExcAttrAll.ValueError
import PySem.Challenge.RW_nearplane_k51_laid_and_taken
set_option Elab.async false
set_option linter.all false
set_option maxRecDepth 100000
set_option maxHeartbeats 4000000
section
namespace L2
open PySem PySem.Spec PyProof.Rows
abbrev Key := Sum Int Str
def keyIs : Key → Value → Bool
 | .inl k, v => Value.isInt k v
 | .inr x, v => Value.isStrOf x v
def keyH (w : World) : Key → Int
 | .inl k => hashInt k
 | .inr x => hashStr w x
theorem keyIs_shape : ∀ {k : Key} {v : Value}, keyIs k v = true → (∃ i t, k = Sum.inl i ∧ v = Value.int i t) ∨ (∃ x t, k = Sum.inr x ∧ v = Value.str x t)
 | .inl i, v, h => by
  obtain ⟨t, e⟩ := Value.isInt_shape (k := i) (v := v) h
  exact .inl ⟨i, t, rfl, e⟩
 | .inr x, v, h => by
  obtain ⟨t, e⟩ := Value.isStrOf_shape (x := x) (v := v) h
  exact .inr ⟨x, t, rfl, e⟩
theorem key_ll (a b : Int) : decide ((Sum.inl a : Key) = Sum.inl b) = (a == b) := by
 by_cases e : a = b
 ·subst e; simp
 ·have h : ¬ (Sum.inl a : Key) = Sum.inl b := fun q => e (Sum.inl.inj q)
  rw [decide_eq_false h]
  exact (beq_eq_false_iff_ne.mpr e).symm
theorem key_rr (a b : Str) : decide ((Sum.inr a : Key) = Sum.inr b) = decide (a = b) := by
 by_cases e : a = b
 ·subst e; simp
 ·have h : ¬ (Sum.inr a : Key) = Sum.inr b := fun q => e (Sum.inr.inj q)
  rw [decide_eq_false h, decide_eq_false e]
theorem key_lr (a : Int) (b : Str) : decide ((Sum.inl a : Key) = Sum.inr b) = false := decide_eq_false (fun q => nomatch q)
theorem key_rl (a : Str) (b : Int) : decide ((Sum.inr a : Key) = Sum.inl b) = false := decide_eq_false (fun q => nomatch q)
def mixKind (prog : Program) (w : World) : PySem.KeyKind prog w Key where
 is := keyIs
 hash := keyH w
 inj := fun v a b ha hb => by
  rcases keyIs_shape ha with ⟨i, t, rfl, rfl⟩ | ⟨x, t, rfl, rfl⟩
  ·rcases keyIs_shape hb with ⟨j, u, rfl, e⟩ | ⟨y, u, rfl, e⟩
   ·injection e with e1 _; rw [e1]
   ·exact nomatch e
  ·rcases keyIs_shape hb with ⟨j, u, rfl, e⟩ | ⟨y, u, rfl, e⟩
   ·exact nomatch e
   ·injection e with e1 _; rw [e1]
 byValue := fun k v h => by
  rcases keyIs_shape h with ⟨i, t, rfl, rfl⟩ | ⟨x, t, rfl, rfl⟩ <;> rfl
 pyHash := fun hv h => by
  rcases keyIs_shape hv with ⟨i, t, rfl, rfl⟩ | ⟨x, t, rfl, rfl⟩
  ·exact wpAny_pyHash_int h
  ·exact wpAny_pyHash_str h
 eqBool := fun hu hv h => by
  rcases keyIs_shape hu with ⟨i, t, rfl, rfl⟩ | ⟨x, t, rfl, rfl⟩
  ·rcases keyIs_shape hv with ⟨j, u, rfl, rfl⟩ | ⟨y, u, rfl, rfl⟩
   ·rw [key_ll] at h; exact wpAny_eqBool_int h
   ·rw [key_lr] at h; exact SeqAt.EqAt.int_str i t y u _ _ _ _ h
  ·rcases keyIs_shape hv with ⟨j, u, rfl, rfl⟩ | ⟨y, u, rfl, rfl⟩
   ·rw [key_rl] at h; exact SeqAt.EqAt.str_int x t j u _ _ _ _ h
   ·rw [key_rr] at h; exact wpAny_eqBool_str h
 «strs» := fun k x t v h => by
  rcases keyIs_shape h with ⟨i, u, rfl, e⟩ | ⟨y, u, rfl, e⟩
  ·exact nomatch e
  ·injection e with e1 _
   subst e1
   cases v <;> rfl
end L2
namespace L2
open PySem PySem.Spec PyProof.Rows
inductive V where
 | non | bl (b : Bool) | int (i : Int) | str (x : Str) | byt (b : Array UInt8) | flt (b : UInt64) | ref (a : Addr) | ty (n : String)
 deriving DecidableEq
def RelV : V → Value → Prop
 | .non, u => u = Value.none
 | .bl b, u => u = Value.bool b
 | .int i, u => ∃ t, u = Value.int i t
 | .str x, u => ∃ t, u = Value.str x t
 | .byt b, u => ∃ t, u = Value.bytes b t
 | .flt b, u => ∃ t, u = Value.float b t
 | .ref a, u => u = Value.ref a
 | .ty n, u => u = Value.type n
abbrev Vals : List V → List Value → Prop := Paired RelV
theorem Vals.length {xs : List V} {us : List Value} (r : Vals xs us) : xs.length = us.length := Paired.length r
theorem Vals.get : ∀ {xs : List V} {us : List Value} {i : Nat} {x : V}, Vals xs us → xs[i]? = some x → ∃ u, us[i]? = some u ∧ RelV x u
 | _, _, _, _, .nil, e => by simp at e
 | _, _, 0, _, .cons r _, e => by simp at e; subst e; exact ⟨_, rfl, r⟩
 | _, _, i + 1, x, .cons _ t, e => by
  obtain ⟨u, h1, h2⟩ := Vals.get (i := i) (x := x) t (by simpa using e)
  exact ⟨u, by simpa using h1, h2⟩
theorem Vals.set {x : V} {u : Value} (r : RelV x u) : ∀ {xs : List V} {us : List Value} (i : Nat), Vals xs us → Vals (xs.set i x) (us.set i u)
 | _, _, _, .nil => .nil
 | _, _, 0, .cons _ t => .cons r t
 | _, _, i + 1, .cons q t => .cons q (Vals.set r i t)
theorem Vals.append : ∀ {xs ys : List V} {us ws : List Value}, Vals xs us → Vals ys ws → Vals (xs ++ ys) (us ++ ws)
 | _, _, _, _, .nil, s => s
 | _, _, _, _, .cons r t, s => .cons r (Vals.append t s)
theorem Vals.take : ∀ {xs : List V} {us : List Value} (n : Nat), Vals xs us → Vals (xs.take n) (us.take n)
 | _, _, 0, _ => .nil
 | _, _, _ + 1, .nil => .nil
 | _, _, n + 1, .cons r t => .cons r (Vals.take n t)
theorem Vals.drop : ∀ {xs : List V} {us : List Value} (n : Nat), Vals xs us → Vals (xs.drop n) (us.drop n)
 | _, _, 0, r => r
 | _, _, _ + 1, .nil => .nil
 | _, _, n + 1, .cons _ t => Vals.drop n t
def RelO : Option V → Option Value → Prop
 | some v, some u => RelV v u
 | none, none => True
 | _, _ => False
def KV {κ : Type} : List (κ × V) → List (κ × Value) → Prop := Paired fun (p : κ × V) (q : κ × Value) => p.1 = q.1 ∧ RelV p.2 q.2
def kV : Key → V
 | .inl i => .int i
 | .inr x => .str x
inductive HO where
  | lst (xs : List V)
  | tup (xs : List V)
  | dK (kvs : List (Key × V)) | dT (kvs : List (List Key × V))
  | set (S : Int → Bool) (n : Nat)
  | ins (C dx : Addr) (fs : List (Str × V))
  | own (x : Addr)
  | xd (fs : List (Str × V))
  | met (f x : Addr)
  | rng (lo hi : Int)
  | frz (o : Obj) (u : HO)
  | tbl (ps : Array Value)
  | ext (φ : Heap → Prop)
abbrev Hp := Addr → Option HO
def upd (H : Hp) (a : Addr) (o : HO) : Hp := fun b => if b = a then some o else H b
theorem zW {H : Hp} {a : Addr} {o : HO} : upd H a o a = some o := by unfold upd; rw [if_pos rfl]
theorem zO {H : Hp} {a b : Addr} {o : HO} (h : b ≠ a) : upd H a o b = H b := by unfold upd; rw [if_neg h]
theorem ne_of_none {H : Hp} {a b : Addr} {o : HO} (h : H a = some o) (h' : H b = none) : a ≠ b := by
 intro e; subst e; rw [h] at h'; cases h'
section
variable (P : Program) (w : World)
def ObjOk (H : Hp) (h : Heap) (a : Addr) : HO → Prop
 | .lst xs => xs.length ≤ sizeLine ∧ ∃ (its : List Value) (n : Nat), Vals xs its ∧ h.get? a = some { cls := .type "list", data := .seq its.toArray n }
 | .tup xs => xs.length ≤ sizeLine ∧ ∃ its : List Value, Vals xs its ∧ IsTup h a its.toArray
 | .dK kvs => kvs.length ≤ sizeLine ∧ (a == sysModules) = false ∧ ∃ vs, KV kvs vs ∧ h.DictOf (mixKind P w) a vs
 | .dT kvs => kvs.length ≤ sizeLine ∧ (a == sysModules) = false ∧ ∃ xs : List (List Key × Addr × Value),
   Paired (fun (p : List Key × V) (q : List Key × Addr × Value) => p.1 = q.1 ∧ H q.2.1 = some (.tup (p.1.map kV)) ∧ RelV p.2 q.2.2) kvs xs ∧
   ∃ o es ep, h.get? a = some o ∧ o.ExactDict ∧ o.data = .dict es ep ∧ es.toList = xs.map (entryOfKey (tupleKind (mixKind P w))) ∧ (xs.map (·.1)).Nodup
 | .set S n => h.SetOf (intKind P w) a S n
 | .ins C dx fs => H dx = some (.own a) ∧ fs.length ≤ 1000 ∧ dx ≠ a ∧ h.get? a = some (PySem.W.instObj C dx) ∧
   ∃ mA, h.Ns1 dx mA ∧ (∀ f, RelO (fs.lookup f) (mA f)) ∧ PySem.Within mA (fs.map (·.1))
 | .own _ => ∃ o, h.get? a = some o
 | .xd fs => ∃ mA, h.Ns1 a mA ∧ ∀ f, RelO (fs.lookup f) (mA f)
 | .rng lo hi => ∃ t u v, h.get? a = some { cls := .type "range", data := .fields #[.int lo t, .int hi u, .int 1 v] }
 | .frz o u => h.get? a = some o ∧ ObjOk H h a u
 | .tbl ps => h.get? a = some { cls := .none, data := .fields ps }
 | .met f x => h.get? a = some (PySem.W.methodObj (.ref f) (.ref x))
 | .ext φ => φ h ∧ (∃ o, h.get? a = some o) ∧ ∀ h1 h2 : Heap, φ h1 → (∀ o, h1.get? a = some o → h2.get? a = some o) → φ h2
def HOk (H : Hp) (h : Heap) : Prop := ∀ a o, H a = some o → ObjOk P w H h a o
end
section
variable {P : Program} {w : World} {H H' : Hp} {h h' : Heap} {a : Addr} {o : HO}
theorem ObjOk.lt (x : ObjOk P w H h a o) : a < h.objs.size := by
 cases o with
 | lst xs => obtain ⟨_, _, _, _, e⟩ := x; exact Heap.lt_size e
 | tup xs => obtain ⟨_, _, _, p⟩ := x; exact p.lt
 | dK kvs => obtain ⟨_, _, _, _, o, _, _, e, _⟩ := x; exact Heap.lt_size e
 | dT kvs => obtain ⟨_, _, _, _, o, _, _, e, _⟩ := x; exact Heap.lt_size e
 | set S n => obtain ⟨o, _, _, _, e, _⟩ := x; exact Heap.lt_size e
 | ins C dx fs => obtain ⟨_, _, _, e, _⟩ := x; exact Heap.lt_size e
 | own y => obtain ⟨_, e⟩ := x; exact Heap.lt_size e
 | xd fs => obtain ⟨_, ⟨_, _, _, e, _⟩, _⟩ := x; exact Heap.lt_size e
 | rng lo hi => obtain ⟨_, _, _, e⟩ := x; exact Heap.lt_size e
 | frz ob u => obtain ⟨e, _⟩ := x; exact Heap.lt_size e
 | tbl ps => exact Heap.lt_size (show h.get? a = some _ from x)
 | met f y => exact Heap.lt_size (show h.get? a = some _ from x)
 | ext φ => obtain ⟨_, ⟨_, e⟩, _⟩ := x; exact Heap.lt_size e
theorem Paired.mapP {α β : Type} {F G : α → β → Prop} : ∀ {l₁ : List α} {l₂ : List β}, Paired F l₁ l₂ → (∀ a b, F a b → G a b) → Paired G l₁ l₂
 | _, _, .nil, _ => .nil
 | _, _, .cons r t, f => .cons (f _ _ r) (Paired.mapP t f)
theorem ObjOk.stay (x : ObjOk P w H h a o) (k : ∀ b u, (b = a ∨ H b = some (.own a)) → h.get? b = some u → h'.get? b = some u)
  (ho : ∀ b, H b = some (.own a) → H' b = some (.own a)) (ht : ∀ b xs, H b = some (.tup xs) → H' b = some (.tup xs)) : ObjOk P w H' h' a o := by
 induction o with
 | lst xs => obtain ⟨z, its, n, r, e⟩ := x; exact ⟨z, its, n, r, k _ _ (.inl rfl) e⟩
 | tup xs => obtain ⟨z, its, r, ob, e, c⟩ := x; exact ⟨z, its, r, ob, k _ _ (.inl rfl) e, c⟩
 | dK kvs => obtain ⟨z, y, vs, r, ob, es, ep, e, c⟩ := x; exact ⟨z, y, vs, r, ob, es, ep, k _ _ (.inl rfl) e, c⟩
 | dT kvs =>
  obtain ⟨z, y, xs, r, ob, es, ep, e, c⟩ := x
  exact ⟨z, y, xs, Paired.mapP r fun p q z => ⟨z.1, ht _ _ z.2.1, z.2.2⟩, ob, es, ep, k _ _ (.inl rfl) e, c⟩
 | set S n => obtain ⟨ob, es, ep, t, e, c⟩ := x; exact ⟨ob, es, ep, t, k _ _ (.inl rfl) e, c⟩
 | ins C dx fs =>
  obtain ⟨d, z, ne, e, mA, ⟨od, es, ep, e2, c⟩, r⟩ := x
  exact ⟨ho _ d, z, ne, k _ _ (.inl rfl) e, mA, ⟨od, es, ep, k _ _ (.inr d) e2, c⟩, r⟩
 | own y => obtain ⟨ob, e⟩ := x; exact ⟨ob, k _ _ (.inl rfl) e⟩
 | xd fs => obtain ⟨mA, ⟨od, es, ep, e, c⟩, r⟩ := x; exact ⟨mA, ⟨od, es, ep, k _ _ (.inl rfl) e, c⟩, r⟩
 | rng lo hi => obtain ⟨t, u, v, e⟩ := x; exact ⟨t, u, v, k _ _ (.inl rfl) e⟩
 | frz ob u ih => obtain ⟨e, q⟩ := x; exact ⟨k _ _ (.inl rfl) e, ih q⟩
 | tbl ps =>
  have e : h.get? a = some { cls := .none, data := .fields ps } := x
  show h'.get? a = some { cls := .none, data := .fields ps }
  exact k a _ (.inl rfl) e
 | met f y =>
  have e : h.get? a = some (PySem.W.methodObj (.ref f) (.ref y)) := x
  show h'.get? a = some (PySem.W.methodObj (.ref f) (.ref y))
  exact k a _ (.inl rfl) e
 | ext φ => obtain ⟨p, ⟨o, e⟩, st⟩ := x; exact ⟨st _ _ p fun o q => k _ _ (.inl rfl) q, ⟨o, k _ _ (.inl rfl) e⟩, st⟩
theorem HOk.lt (x : HOk P w H h) (e : H a = some o) : a < h.objs.size := (x a o e).lt
theorem HOk.fresh (x : HOk P w H h) (e : h.objs.size ≤ a) : H a = none := by
 cases q : H a with
 | none => rfl
 | some u => exact absurd (Nat.lt_of_lt_of_le (x.lt q) e) (Nat.lt_irrefl _)
theorem HOk.kept (x : HOk P w H h) (k : ∀ b u, h.get? b = some u → h'.get? b = some u) : HOk P w H h' := fun a o e =>
 (x a o e).stay (fun b u _ q => k b u q) (fun _ q => q) fun _ _ q => q
theorem HOk.laid (x : HOk P w H h) (k : ∀ b u, h.get? b = some u → h'.get? b = some u) (hp : h.objs.size ≤ a) (new : ObjOk P w (upd H a o) h' a o) : HOk P w (upd H a o) h' := fun b u e => by
 have hn := x.fresh hp
 by_cases hb : b = a
 ·subst hb; rw [zW] at e; cases e; exact new
 ·rw [zO hb] at e
  exact (x b u e).stay (fun c v _ q => k c v q) (fun c q => by rw [zO (ne_of_none q hn)]; exact q) fun c xs q => by rw [zO (ne_of_none q hn)]; exact q
end
def Rd (H : Hp) (a : Addr) (u : HO) : Prop := H a = some u ∨ ∃ o, H a = some (.frz o u)
theorem Rd.ok {P : Program} {w : World} {H : Hp} {h : Heap} {a : Addr} {u : HO} (r : Rd H a u) (x : HOk P w H h) : ObjOk P w H h a u := by
 rcases r with r | ⟨o, r⟩
 ·exact x a u r
 ·obtain ⟨_, q⟩ := x a _ r
  exact q
def Mut : Option HO → Prop
 | some (.lst _) => True
 | some (.dK _) => True
 | some (.dT _) => True
 | some (.set _ _) => True
 | some (.ins _ _ _) => True
 | some (.ext _) => True
 | _ => False
section
variable {P : Program} {w : World} {H : Hp} {h h' : Heap} {x e : Addr} {o' : HO}
theorem HOk.write (ok : HOk P w H h) (mu : Mut (H x)) (he : e = x ∨ H e = some (.own x)) (k : ∀ b u, b ≠ e → h.get? b = some u → h'.get? b = some u) (heo : ∃ u, h'.get? e = some u)
  (new : ObjOk P w (upd H x o') h' x o') : HOk P w (upd H x o') h' := fun b u q => by
 have nown : ∀ c y, H c = some (.own y) → c ≠ x := fun c y r z => by subst z; rw [r] at mu; exact mu
 have ntup : ∀ c xs, H c = some (.tup xs) → c ≠ x := fun c xs r z => by subst z; rw [r] at mu; exact mu
 by_cases hb : b = x
 ·subst hb; rw [zW] at q; cases q; exact new
 ·rw [zO hb] at q
  by_cases hbe : b = e
  ·have q' : H b = some (.own x) := by
    rcases he with z | z
    ·exact absurd (hbe.trans z) hb
    ·rw [hbe]; exact z
   rw [q] at q'; cases q'
   obtain ⟨v, hv⟩ := heo
   exact ⟨v, by rw [hbe]; exact hv⟩
  ·refine (ok b u q).stay (fun c v hc r => k c v ?_ r) (fun c r => by rw [zO (nown c b r)]; exact r) fun c xs r => by rw [zO (ntup c xs r)]; exact r
   rcases hc with rfl | hc
   ·exact hbe
   ·rintro rfl
    rcases he with z | z
    ·exact nown c b hc z
    ·rw [hc] at z; cases z; exact hb rfl
end
structure Un (fs ex : List Addr) (H H' : Hp) (h h' : Heap) : Prop where
 keep : ∀ b o, h.get? b = some o → H b = none → b ∉ fs → b ∉ ex → h'.get? b = some o
 slot : ∀ b o, h.get? b = some o → H b = none → b ∈ fs → b ∉ ex → ∃ sl, h'.get? b = some { o with slots := sl }
 free : ∀ b o, h.get? b = some o → H b = none → b ∉ ex → H' b = none
 there : ∀ b o, h.get? b = some o → b ∉ ex → ∃ o', h'.get? b = some o'
 tups : ∀ b xs, H b = some (.tup xs) → H' b = some (.tup xs)
 frzs : ∀ b o u, H b = some (.frz o u) → H' b = some (.frz o u)
 tbls : ∀ b ps, H b = some (.tbl ps) → ∃ more, H' b = some (.tbl (ps ++ more))
section
variable {fs fs' ex ex' : List Addr} {H H1 H2 : Hp} {h h1 h2 h' : Heap} {a x e : Addr} {o : HO}
theorem Un.any (u : Un fs ex H H1 h h1) {b : Addr} {ob : Obj} (q : h.get? b = some ob) (n : H b = none) (hx : b ∉ ex) : ∃ sl, h1.get? b = some { ob with slots := sl } := by
 by_cases hb : b ∈ fs
 ·exact u.slot b ob q n hb hx
 ·exact ⟨ob.slots, u.keep b ob q n hb hx⟩
theorem Un.trans (a : Un fs ex H H1 h h1) (b : Un fs ex H1 H2 h1 h2) : Un fs ex H H2 h h2 where
 keep := fun c ob q n hc hx => b.keep c ob (a.keep c ob q n hc hx) (a.free c ob q n hx) hc hx
 slot := fun c ob q n hc hx => by
  obtain ⟨sl, e1⟩ := a.slot c ob q n hc hx
  obtain ⟨sl', e2⟩ := b.slot c _ e1 (a.free c ob q n hx) hc hx
  exact ⟨sl', e2⟩
 free := fun c ob q n hx => by
  obtain ⟨o', e1⟩ := a.there c ob q hx
  exact b.free c o' e1 (a.free c ob q n hx) hx
 there := fun c ob q hx => by
  obtain ⟨o', e1⟩ := a.there c ob q hx
  exact b.there c o' e1 hx
 tups := fun c xs q => b.tups c xs (a.tups c xs q)
 frzs := fun c ob xs q => b.frzs c ob xs (a.frzs c ob xs q)
 tbls := fun c ps q => by
  obtain ⟨m1, e1⟩ := a.tbls c ps q
  obtain ⟨m2, e2⟩ := b.tbls c _ e1
  exact ⟨m1 ++ m2, by rw [e2, Array.append_assoc]⟩
theorem Un.kept (k : ∀ b u, h.get? b = some u → h'.get? b = some u) : Un fs ex H H h h' :=
 ⟨fun b ob q _ _ _ => k b ob q, fun b ob q _ _ _ => ⟨ob.slots, k b ob q⟩, fun _ _ _ n _ => n, fun b ob q _ => ⟨ob, k b ob q⟩, fun _ _ q => q, fun _ _ _ q => q, fun _ ps q => ⟨#[], by rw [q]; simp⟩⟩
theorem Un.refl : Un fs ex H H h h := Un.kept fun _ _ q => q
theorem Un.laid (k : ∀ b u, h.get? b = some u → h'.get? b = some u) (hp : h.objs.size ≤ a) (hn : H a = none) : Un fs ex H (upd H a o) h h' where
 keep := fun b u q _ _ _ => k b u q
 slot := fun b u q _ _ _ => ⟨u.slots, k b u q⟩
 free := fun b u q n _ => by rw [zO (Nat.ne_of_lt (Nat.lt_of_lt_of_le (Heap.lt_size q) hp))]; exact n
 there := fun b u q _ => ⟨u, k b u q⟩
 tups := fun b xs q => by rw [zO (ne_of_none q hn)]; exact q
 frzs := fun b u xs q => by rw [zO (ne_of_none q hn)]; exact q
 tbls := fun b ps q => ⟨#[], by rw [zO (ne_of_none q hn), q]; simp⟩
theorem Un.write (mu : Mut (H x)) (he : e = x ∨ H e = some (.own x)) (k : ∀ b u, b ≠ e → h.get? b = some u → h'.get? b = some u) (heo : ∃ u, h'.get? e = some u) : Un fs ex H (upd H x o) h h' := by
 have hx : ∀ b, H b = none → b ≠ x := fun b n z => by subst z; rw [n] at mu; exact mu
 have hb : ∀ b, H b = none → b ≠ e := fun b n z => by
  subst z
  rcases he with r | r
  ·exact hx b n r
  ·rw [n] at r; cases r
 have hm : ∀ b u, H b = some u → ¬ Mut (some u) → b ≠ x := fun b u q nm z => by subst z; rw [q] at mu; exact nm mu
 refine ⟨fun b u q n _ _ => k b u (hb b n) q, fun b u q n _ _ => ⟨u.slots, k b u (hb b n) q⟩, fun b u q n _ => by rw [zO (hx b n)]; exact n, fun b u q _ => ?_,
  fun b xs q => by rw [zO (hm b _ q fun z => z)]; exact q, fun b u xs q => by rw [zO (hm b _ q fun z => z)]; exact q, fun b ps q => ⟨#[], by rw [zO (hm b _ q fun z => z), q]; simp⟩⟩
 by_cases hbe : b = e
 ·subst hbe; exact heo
 ·exact ⟨u, k b u hbe q⟩
end
def trk (h : Heap) (H : Hp) : List Addr := (List.range h.objs.size).filter fun a => (H a).isSome
def hidT (h : Heap) (H : Hp) : Heap := PySem.W.hideAll h (trk h H)
theorem hidT_size (h : Heap) (H : Hp) : (hidT h H).objs.size = h.objs.size := PySem.W.hideAll_size _ _
theorem hidT_get {h : Heap} {H : Hp} {b : Addr} {o : Obj} (e : h.get? b = some o) (n : H b = none) : (hidT h H).get? b = some o :=
 PySem.W.hideAll_get _ e fun hm => by
  have q : (H b).isSome = true := (List.mem_filter.mp hm).2
  rw [n] at q; simp at q
theorem of_hidT {h : Heap} {H : Hp} {b : Addr} {o : Obj} (e : (hidT h H).get? b = some o) : h.get? b = some o ∧ H b = none := by
 have e' : h.get? b = some o := PySem.W.of_hideAll (trk h H) e
 refine ⟨e', ?_⟩
 cases q : H b with
 | none => rfl
 | some x =>
  have hm : b ∈ trk h H := List.mem_filter.mpr ⟨List.mem_range.mpr (Heap.lt_size e'), by simp [q]⟩
  have z : (hidT h H).get? b = none := PySem.W.hideAll_none (trk h H) hm
  rw [z] at e; cases e
def allNews (g h : Heap) (L : Addr) : List (Addr × Obj) := (List.range h.objs.size).filterMap fun a => if a = L ∨ (g.get? a).isSome = true then none else (h.get? a).map fun o => (a, o)
def rest (g h : Heap) (L d : Addr) : List (Addr × Obj) := (allNews g h L).filter fun p => decide (p.1 ≠ d)
end L2
namespace L2
open PySem PySem.Spec PyProof.Rows
structure Mod (K : PySem.W.Frag) (mg : Str → Option Value) (base : Heap) : Prop where
 kin : K.In base
 glob : base.Ns mainGlobals mg
 blt : ∃ mb, base.Ns builtinsNs mb ∧ ∀ x : Str, x ≠ "__name__" → mb x = bootBuiltins x
 nolimit : base.NoLimit
 seer : base.NoSeer
structure Cx where
 prog : Program
 w : World
 K : PySem.W.Frag
 mg : Str → Option Value
 base : Heap
 A : Around
 N : List Str
 s₀ : Shared
 H₀ : Hp
 env : Env
 outer : List Env
 stack : List Env
 ex : List Addr
 fn : Str → Bool
 calm : Bool
 pn : List (Addr × Obj)
 xe : Value → Shared → Prop
def frs (l : List Env) : List Addr := l.filterMap (·.frame)
abbrev Cx.fs (X : Cx) : List Addr := frs X.outer
def Vis (sc : Scope) (x : Str) : Prop := sc.names.lookup x = some .local ∨ sc.names.lookup x = some .cell ∨ sc.names.lookup x = some .free
def Loc (sc : Scope) (x : Str) : Prop := sc.names.lookup x = some .local ∨ sc.names.lookup x = some .cell
def Look (env : Env) (h : Heap) (m : Str → Option Value) (x : Str) (u : Value) : Prop :=
 (env.kindOf x = some .local ∧ m x = some u) ∨ ((env.kindOf x = some .cell ∨ env.kindOf x = some .free) ∧ ∃ c, env.cells.lookup x = some c ∧ h.IsCell c (some u))
structure Cx.Ok (X : Cx) : Prop where
 mod : Mod X.K X.mg X.base
 kind : X.env.scope.kind = .function
 glob : X.env.globals = mainGlobals
 blt : X.env.builtins = builtinsNs
 above : X.s₀.heap.objs.size ≤ X.env.locals
 inj : ∀ x y c, X.env.cells.lookup x = some c → X.env.cells.lookup y = some c → x = y
 has : ∀ x, (X.env.kindOf x = some .cell ∨ X.env.kindOf x = some .free) → ∃ c, X.env.cells.lookup x = some c
 cab : ∀ x c, X.fn x = true → X.env.cells.lookup x = some c → X.s₀.heap.objs.size ≤ c
 hd : X.calm = true → X.A.handled = none
 frames : X.A.frames = some X.stack
 stk : X.stack = X.outer ∨ (X.stack = X.env :: X.outer ∧ X.env.frame = some X.env.locals)
 exf : ∀ b ∈ X.ex, b ≠ X.env.locals ∧ ∀ x c, X.env.cells.lookup x = some c → c ≠ b
 bs : ∀ b o, X.base.get? b = some o → X.s₀.heap.get? b = some o ∧ X.H₀ b = none
 bsz : X.base.objs.size ≤ X.s₀.heap.objs.size
 noex : ∀ b o, X.base.get? b = some o → b ∉ X.ex
 exfs : ∀ b ∈ X.ex, b ∉ X.fs
 funs : X.s₀.heap.FunFrames X.base X.outer
 frf : ∀ b ∈ X.fs, X.H₀ b = none
structure Inv (X : Cx) (pins : List (Addr × Obj)) (σ : List (Option V)) (H : Hp) (s : Shared) : Prop where
 ok : X.Ok
 os : s.os = X.s₀.os
 bare : AllBare s.gens
 base : Un X.fs X.ex X.H₀ H X.s₀.heap s.heap
 loc : ∃ m, s.heap.Ns X.env.locals m ∧ ∀ (i : Nat) (x : Str) (v : V), X.N[i]? = some x → σ[i]? = some (some v) → Vis X.env.scope x → ∃ u, RelV v u ∧ Look X.env s.heap m x u
 cell : ∀ x c, X.env.cells.lookup x = some c → ∃ v, s.heap.IsCell c v
 free : H X.env.locals = none
 freeC : ∀ x c, X.env.cells.lookup x = some c → H c = none
 pin : ∀ p ∈ X.pn ++ pins, s.heap.get? p.1 = some p.2 ∧ H p.1 = none ∧ p.1 ≠ X.env.locals ∧ p.1 ∉ X.fs ∧ ∀ v, p.2.data ≠ .cell v
 hok : HOk X.prog X.w H s.heap
 len : σ.length = X.N.length
section
variable {X : Cx} {pins : List (Addr × Obj)} {σ : List (Option V)} {H H' : Hp} {s : Shared} {h' : Heap}
theorem Cx.Ok.nofr (ok : X.Ok) {b : Addr} {o : Obj} (e : X.base.get? b = some o) : b ∉ X.fs := fun hb => by
 have := (ok.funs.mem hb).1
 rw [e] at this; cases this
theorem Inv.bs (I : Inv X pins σ H s) : ∀ b o, X.base.get? b = some o → s.heap.get? b = some o ∧ H b = none := fun b o e =>
 ⟨I.base.keep b o (I.ok.bs b o e).1 (I.ok.bs b o e).2 (I.ok.nofr e) (I.ok.noex b o e), I.base.free b o (I.ok.bs b o e).1 (I.ok.bs b o e).2 (I.ok.noex b o e)⟩
theorem Inv.bk (I : Inv X pins σ H s) : ∀ b o, X.base.get? b = some o → s.heap.get? b = some o := fun b o e => (I.bs b o e).1
theorem Inv.mod (I : Inv X pins σ H s) : Mod X.K X.mg X.base := I.ok.mod
theorem Inv.kIn (I : Inv X pins σ H s) : X.K.In s.heap := I.ok.mod.kin.keeps I.bk
theorem Inv.lt (I : Inv X pins σ H s) : X.env.locals < s.heap.objs.size := let ⟨_, hn, _⟩ := I.loc; hn.lt
theorem Inv.sz (I : Inv X pins σ H s) : X.s₀.heap.objs.size ≤ s.heap.objs.size := Nat.le_trans I.ok.above (Nat.le_of_lt I.lt)
theorem Inv.nofs (I : Inv X pins σ H s) {a : Addr} (h : s.heap.objs.size ≤ a) : a ∉ X.fs := fun hb => by
 obtain ⟨_, o, ho, _⟩ := I.ok.funs.mem hb
 exact absurd (Nat.lt_of_lt_of_le (Heap.lt_size ho) (Nat.le_trans I.sz h)) (Nat.lt_irrefl _)
theorem Inv.cne (I : Inv X pins σ H s) : ∀ x c, X.env.cells.lookup x = some c → c ≠ X.env.locals := fun x c e z => by
 obtain ⟨v, o, ho, hd⟩ := I.cell x c e
 obtain ⟨m, ⟨o', es, ep, ho', hd', _⟩, _⟩ := I.loc
 rw [z, ho'] at ho; cases ho; rw [hd'] at hd; cases hd
theorem Inv.funs (I : Inv X pins σ H s) : s.heap.FunFrames X.base X.outer := by
 have all : ∀ (l : List Env), (∀ b ∈ frs l, b ∈ X.fs) → X.s₀.heap.FunFrames X.base l → s.heap.FunFrames X.base l := by
  intro l
  induction l with
  | nil => intro _ _; trivial
  | cons env r ih =>
   intro hs hl
   obtain ⟨hk, ⟨L, o, hf, hn, ho, hd⟩, hr⟩ := hl
   have hL : L ∈ X.fs := hs L (by unfold frs; rw [List.filterMap_cons, hf]; exact List.mem_cons_self)
   obtain ⟨sl, e⟩ := I.base.slot L o ho (I.ok.frf L hL) hL fun z => I.ok.exfs L z hL
   exact ⟨hk, ⟨L, _, hf, hn, e, hd⟩, ih (fun b hb => hs b (by unfold frs; rw [List.filterMap_cons, hf]; exact List.mem_cons_of_mem _ hb)) hr⟩
 exact all X.outer (fun _ hb => hb) I.ok.funs
theorem Inv.stack (I : Inv X pins σ H s) : s.heap.FunFrames X.base X.stack := by
 rcases I.ok.stk with e | ⟨e, hf⟩
 ·rw [e]; exact I.funs
 ·rw [e]
  obtain ⟨m, hn, _⟩ := I.loc
  refine .cons (by rw [I.ok.kind]; decide) hf hn ?_ I.funs
  exact Heap.get?_none_of_le (Nat.le_trans I.ok.bsz I.ok.above)
theorem Inv.stkSub (I : Inv X pins σ H s) : ∀ b ∈ frs X.stack, b ∈ X.env.locals :: X.fs := fun b hb => by
 rcases I.ok.stk with e | ⟨e, hf⟩
 ·rw [e] at hb; exact List.mem_cons_of_mem _ hb
 ·rw [e] at hb
  unfold frs at hb
  rw [List.filterMap_cons, hf] at hb
  exact hb
theorem Inv.stkFree (I : Inv X pins σ H s) : ∀ b ∈ frs X.stack, H b = none := fun b hb => by
 rcases List.mem_cons.mp (I.stkSub b hb) with e | hb
 ·rw [e]; exact I.free
 ·obtain ⟨_, o, ho, _⟩ := I.ok.funs.mem hb
  exact I.base.free b o ho (I.ok.frf b hb) fun z => I.ok.exfs b z hb
theorem Inv.step {g' : Array GenState} {t' : Nat} {d' : Drawn} {ch : List Addr} (I : Inv X pins σ H s)
  (hch : ∀ b ∈ ch, (b ∈ X.ex ∨ X.s₀.heap.objs.size ≤ b) ∧ b ≠ X.env.locals ∧ (∀ x c, X.env.cells.lookup x = some c → c ≠ b) ∧ ∀ p ∈ X.pn ++ pins, p.1 ≠ b)
  (keep : ∀ b o, b ≠ X.env.locals → b ∉ X.fs → b ∉ ch → s.heap.get? b = some o → H b = none → h'.get? b = some o)
  (slot : ∀ b o, b ≠ X.env.locals → b ∈ X.fs → b ∉ ch → s.heap.get? b = some o → H b = none → ∃ sl, h'.get? b = some { o with slots := sl }) (free : ∀ b o, b ∉ ch → s.heap.get? b = some o → H b = none → H' b = none)
  (there : ∀ b o, b ∉ ch → s.heap.get? b = some o → ∃ o', h'.get? b = some o')
  (tups : ∀ b xs, H b = some (.tup xs) → H' b = some (.tup xs)) (frzs : ∀ b o u, H b = some (.frz o u) → H' b = some (.frz o u)) (tbls : ∀ b ps, H b = some (.tbl ps) → ∃ more, H' b = some (.tbl (ps ++ more)))
  (ns : ∀ m, s.heap.Ns X.env.locals m → h'.Ns X.env.locals m) (hok : HOk X.prog X.w H' h') (hg : AllBare g') :
  Inv X pins σ H' { s with heap := h', gens := g', drawn := d', toks := t' } := by
 have neL : ∀ b o, X.s₀.heap.get? b = some o → b ≠ X.env.locals := fun b o e => Nat.ne_of_lt (Nat.lt_of_lt_of_le (Heap.lt_size e) I.ok.above)
 have neC : ∀ b o, X.s₀.heap.get? b = some o → b ∉ X.ex → b ∉ ch := fun b o e hx hb => by
  rcases (hch b hb).1 with z | z
  ·exact hx z
  ·exact absurd (Nat.lt_of_lt_of_le (Heap.lt_size e) z) (Nat.lt_irrefl _)
 have cellK : ∀ x c, X.env.cells.lookup x = some c → ∀ v, s.heap.IsCell c v → h'.IsCell c v := fun x c e v ⟨o, ho, hd⟩ => by
  have nch : c ∉ ch := fun z => (hch c z).2.2.1 x c e rfl
  by_cases hc : c ∈ X.fs
  ·obtain ⟨sl, q⟩ := slot c o (I.cne x c e) hc nch ho (I.freeC x c e)
   exact ⟨_, q, hd⟩
  ·exact ⟨o, keep c o (I.cne x c e) hc nch ho (I.freeC x c e), hd⟩
 refine ⟨I.ok, I.os, hg, ⟨fun b o e n hb hx => ?_, fun b o e n hb hx => ?_, fun b o e n hx => ?_, fun b o e hx => ?_, fun b xs e => tups b xs (I.base.tups b xs e), fun b o xs e => frzs b o xs (I.base.frzs b o xs e), fun b ps e => ?_⟩, ?_, fun x c e => ?_, ?_, fun x c e => ?_, fun p hp => ?_, hok, I.len⟩
 ·exact keep b o (neL b o e) hb (neC b o e hx) (I.base.keep b o e n hb hx) (I.base.free b o e n hx)
 ·obtain ⟨sl, e1⟩ := I.base.slot b o e n hb hx
  obtain ⟨sl', e2⟩ := slot b _ (neL b o e) hb (neC b o e hx) e1 (I.base.free b o e n hx)
  exact ⟨sl', e2⟩
 ·obtain ⟨o', e1⟩ := I.base.there b o e hx
  exact free b o' (neC b o e hx) e1 (I.base.free b o e n hx)
 ·obtain ⟨o', e1⟩ := I.base.there b o e hx
  exact there b o' (neC b o e hx) e1
 ·obtain ⟨m1, e1⟩ := I.base.tbls b ps e
  obtain ⟨m2, e2⟩ := tbls b _ e1
  exact ⟨m1 ++ m2, by rw [e2, Array.append_assoc]⟩
 ·obtain ⟨m, hn, hl⟩ := I.loc
  refine ⟨m, ns m hn, fun i x v e1 e2 e3 => ?_⟩
  obtain ⟨u, r, l⟩ := hl i x v e1 e2 e3
  refine ⟨u, r, ?_⟩
  rcases l with l | ⟨k, c, e, z⟩
  ·exact .inl l
  ·exact .inr ⟨k, c, e, cellK x c e _ z⟩
 ·obtain ⟨v, z⟩ := I.cell x c e
  exact ⟨v, cellK x c e v z⟩
 ·obtain ⟨m, ⟨o, _, _, ho, _⟩, _⟩ := I.loc
  exact free _ o (fun z => (hch _ z).2.1 rfl) ho I.free
 ·obtain ⟨v, o, ho, hd⟩ := I.cell x c e
  exact free c o (fun z => (hch c z).2.2.1 x c e rfl) ho (I.freeC x c e)
 ·obtain ⟨e, n, ne, nf, d⟩ := I.pin p hp
  have nch : p.1 ∉ ch := fun z => (hch p.1 z).2.2.2 p hp rfl
  exact ⟨keep p.1 p.2 ne nf nch e n, free p.1 p.2 nch e n, ne, nf, d⟩
theorem Inv.un {t' : Nat} (I : Inv X pins σ H s) (u : Un X.fs [] H H' s.heap h') (hok : HOk X.prog X.w H' h') : Inv X pins σ H' { s with heap := h', toks := t' } := by
 obtain ⟨m, ⟨o, es, ep, ho, r⟩, _⟩ := id I.loc
 obtain ⟨sl, hL⟩ := u.any ho I.free (by simp)
 exact I.step (g' := s.gens) (d' := s.drawn) (ch := []) (fun _ z => nomatch z) (fun b o _ hb _ e n => u.keep b o e n hb (by simp)) (fun b o _ hb _ e n => u.slot b o e n hb (by simp)) (fun b o _ e n => u.free b o e n (by simp)) (fun b o _ e => u.there b o e (by simp)) u.tups u.frzs u.tbls (fun m' hm => by
  obtain ⟨o', es', ep', ho', r'⟩ := hm
  rw [ho] at ho'; cases ho'
  exact ⟨_, es', ep', hL, r'⟩) hok I.bare
theorem Inv.call {g' : Array GenState} {t' : Nat} {d' : Drawn} {ch : List Addr} (I : Inv X pins σ H s) (u : Un (frs X.stack) ch H H' s.heap h') (hok : HOk X.prog X.w H' h') (hg : AllBare g')
  (hch : ∀ b ∈ ch, (b ∈ X.ex ∨ X.s₀.heap.objs.size ≤ b) ∧ b ≠ X.env.locals ∧ (∀ x c, X.env.cells.lookup x = some c → c ≠ b) ∧ ∀ p ∈ X.pn ++ pins, p.1 ≠ b) :
  Inv X pins σ H' { s with heap := h', gens := g', drawn := d', toks := t' } := by
 obtain ⟨m, ⟨o, es, ep, ho, r⟩, _⟩ := id I.loc
 obtain ⟨sl, hL⟩ := u.any ho I.free fun z => (hch _ z).2.1 rfl
 exact I.step (ch := ch) hch (fun b o hL hb hc e n => u.keep b o e n (fun z => (List.mem_cons.mp (I.stkSub b z)).elim hL hb) hc) (fun b o _ _ hc e n => u.any e n hc) (fun b o hc e n => u.free b o e n hc) (fun b o hc e => u.there b o e hc) u.tups u.frzs u.tbls (fun m' hm => by
  obtain ⟨o', es', ep', ho', r'⟩ := hm
  rw [ho] at ho'; cases ho'
  exact ⟨_, es', ep', hL, r'⟩) hok hg
theorem Inv.turned {t' : Nat} {it : Addr} (I : Inv X pins σ H s) (k : ∀ b o, b ≠ it → s.heap.get? b = some o → h'.get? b = some o) (hn : H it = none) (hL : it ≠ X.env.locals)
  (h1 : it ∈ X.ex ∨ X.s₀.heap.objs.size ≤ it) (h2 : ∀ x c, X.env.cells.lookup x = some c → c ≠ it) (h3 : ∀ p ∈ X.pn ++ pins, p.1 ≠ it) : Inv X pins σ H { s with heap := h', toks := t' } := by
 have nit : ∀ b u, H b = some u → b ≠ it := fun b u e z => by rw [z, hn] at e; cases e
 refine I.step (g' := s.gens) (d' := s.drawn) (ch := [it]) (fun b hb => ?_) (fun b o _ _ hc e _ => k b o (fun z => hc (by simp [z])) e) (fun b o _ _ hc e _ => ⟨o.slots, k b o (fun z => hc (by simp [z])) e⟩) (fun _ _ _ _ n => n)
  (fun b o hc e => ⟨o, k b o (fun z => hc (by simp [z])) e⟩) (fun _ _ e => e) (fun _ _ _ e => e) (fun b ps e => ⟨#[], by rw [e]; simp⟩) (fun m hm => ?_) (fun b u e => ?_) I.bare
 ·have e : b = it := by simpa using hb
  subst e
  exact ⟨h1, hL, h2, h3⟩
 ·obtain ⟨o, es, ep, ho, r⟩ := hm
  exact ⟨o, es, ep, k _ o (Ne.symm hL) ho, r⟩
 ·refine (I.hok b u e).stay (fun c v hc q => k c v ?_ q) (fun _ q => q) fun _ _ q => q
  rcases hc with z | z
  ·rw [z]; exact nit b u e
  ·exact nit c _ z
theorem Inv.tok (I : Inv X pins σ H s) (t : Nat) : Inv X pins σ H { s with toks := t } := I.un (h' := s.heap) (t' := t) Un.refl I.hok
theorem Inv.kept {t' : Nat} (I : Inv X pins σ H s) (k : ∀ b u, s.heap.get? b = some u → h'.get? b = some u) : Inv X pins σ H { s with heap := h', toks := t' } := I.un (Un.kept k) (I.hok.kept k)
theorem Inv.laid {a : Addr} {o : HO} {t' : Nat} (I : Inv X pins σ H s) (k : ∀ b u, s.heap.get? b = some u → h'.get? b = some u) (hp : s.heap.objs.size ≤ a) (new : ObjOk X.prog X.w (upd H a o) h' a o) :
  Inv X pins σ (upd H a o) { s with heap := h', toks := t' } := I.un (Un.laid k hp (I.hok.fresh hp)) (I.hok.laid k hp new)
theorem Inv.write {x e : Addr} {o : HO} {t' : Nat} (I : Inv X pins σ H s) (mu : Mut (H x)) (he : e = x ∨ H e = some (.own x)) (k : ∀ b u, b ≠ e → s.heap.get? b = some u → h'.get? b = some u) (heo : ∃ u, h'.get? e = some u)
  (new : ObjOk X.prog X.w (upd H x o) h' x o) : Inv X pins σ (upd H x o) { s with heap := h', toks := t' } := I.un (Un.write mu he k heo) (I.hok.write mu he k heo new)
theorem Inv.pins_of {pins' : List (Addr × Obj)} (I : Inv X pins σ H s) (h : ∀ p ∈ pins', s.heap.get? p.1 = some p.2 ∧ H p.1 = none ∧ p.1 ≠ X.env.locals ∧ p.1 ∉ X.fs ∧ ∀ v, p.2.data ≠ .cell v) : Inv X pins' σ H s :=
 ⟨I.ok, I.os, I.bare, I.base, I.loc, I.cell, I.free, I.freeC, fun p hp => (List.mem_append.mp hp).elim (fun z => I.pin p (List.mem_append_left _ z)) (h p), I.hok, I.len⟩
theorem nodup_ix {N : List Str} (hN : N.Nodup) {i j : Nat} {x : Str} (a : N[i]? = some x) (b : N[j]? = some x) : i = j := by
 obtain ⟨h1, e1⟩ := List.getElem?_eq_some_iff.mp a
 obtain ⟨h2, e2⟩ := List.getElem?_eq_some_iff.mp b
 exact (List.getElem_inj hN).mp (e1.trans e2.symm)
theorem store_ok2 {M : Model} {A : Around} {E : Value → Shared → Prop} {i : Nat} {x : Str} {v : V} {u : Value} {Q : Unit → Shared → Prop} (I : Inv X pins σ H s) (hN : X.N.Nodup) (hi : X.N[i]? = some x) (hx : Loc X.env.scope x) (r : RelV v u)
  (h : ∀ s', Inv X pins (σ.set i (some v)) H s' → (∃ a, Heap.SameBut a s.heap s'.heap ∧ (a = X.env.locals ∨ X.env.cells.lookup x = some a)) → Q () s') (hf : X.fn x = true ∨ X.env.scope.names.lookup x = some .local := by first | exact .inl rfl | exact .inr rfl | assumption) : wpAny M A (storeName X.env x u) Q E s := by
 obtain ⟨m, hn, hl⟩ := id I.loc
 have hcls : (X.env.scope.kind == .class || (X.env.scope.kind == .module && X.env.locals != X.env.globals)) = false := by rw [I.ok.kind]; rfl
 have hiσ : i < σ.length := by rw [I.len]; exact (List.getElem?_eq_some_iff.mp hi).1
 have cne := I.cne
 have tracked : ∀ {a : Addr} {h' : Heap}, (∃ o, s.heap.get? a = some o ∧ H a = none) → Heap.SameBut a s.heap h' → HOk X.prog X.w H h' := fun {a h'} ha hs b ob e => by
  obtain ⟨_, _, hfree⟩ := ha
  refine (I.hok b ob e).stay (fun c w' hc q => (hs.2 c ?_).trans q) (fun _ q => q) fun _ _ q => q
  rintro rfl
  rcases hc with rfl | hc
  ·rw [hfree] at e; cases e
  ·rw [hfree] at hc; cases hc
 rcases hx with hk | hk
 ·refine wpAny_storeName_local hk hn (fun h' hn' hs => ?_) hcls
  obtain ⟨oL, _, _, hoL, _⟩ := id hn
  refine h _ ⟨I.ok, I.os, I.bare, ⟨fun b o e n hb hx => ?_, fun b o e n hb hx => ?_, I.base.free, fun b o e hx => ?_, I.base.tups, I.base.frzs, I.base.tbls⟩, ⟨_, hn', fun j y v' e1 e2 e3 => ?_⟩, fun y c e => ?_, I.free, I.freeC, fun p hp => ?_, tracked ⟨oL, hoL, I.free⟩ hs, by simpa using I.len⟩ ⟨_, hs, .inl rfl⟩
  ·exact (hs.2 b (Nat.ne_of_lt (Nat.lt_of_lt_of_le (Heap.lt_size e) I.ok.above))).trans (I.base.keep b o e n hb hx)
  ·obtain ⟨sl, e1⟩ := I.base.slot b o e n hb hx
   exact ⟨sl, (hs.2 b (Nat.ne_of_lt (Nat.lt_of_lt_of_le (Heap.lt_size e) I.ok.above))).trans e1⟩
  ·obtain ⟨o', e1⟩ := I.base.there b o e hx
   exact ⟨o', (hs.2 b (Nat.ne_of_lt (Nat.lt_of_lt_of_le (Heap.lt_size e) I.ok.above))).trans e1⟩
  ·by_cases hj : j = i
   ·subst hj
    rw [hi] at e1; cases e1
    rw [List.getElem?_set_self hiσ] at e2
    cases e2
    exact ⟨u, r, .inl ⟨hk, by simp⟩⟩
   ·rw [List.getElem?_set_ne (Ne.symm hj)] at e2
    obtain ⟨u', r', q⟩ := hl j y v' e1 e2 e3
    refine ⟨u', r', ?_⟩
    rcases q with ⟨k, e⟩ | ⟨k, c, e, z⟩
    ·refine .inl ⟨k, ?_⟩
     have : y ≠ x := fun e => hj (nodup_ix hN e1 (e ▸ hi))
     simp [this, e]
    ·exact .inr ⟨k, c, e, z.sameBut hs (cne y c e)⟩
  ·obtain ⟨w', z⟩ := I.cell y c e
   exact ⟨w', z.sameBut hs (cne y c e)⟩
  ·obtain ⟨e, n, ne, nf, d⟩ := I.pin p hp
   exact ⟨(hs.2 p.1 ne).trans e, n, ne, nf, d⟩
 ·have hfn : X.fn x = true := by
   rcases hf with z | z
   ·exact z
   ·rw [z] at hk; cases hk
  obtain ⟨c, hc⟩ := I.ok.has x (.inl hk)
  obtain ⟨w', z⟩ := I.cell x c hc
  refine wpAny_storeName_cell I.ok.kind hk hc z (fun h' hc' hs => ?_)
  obtain ⟨oc, hoc, hocd⟩ := id z
  refine h { s with heap := h' } ⟨I.ok, I.os, I.bare, ⟨fun b o e n hb hx => ?_, fun b o e n hb hx => ?_, I.base.free, fun b o e hx => ?_, I.base.tups, I.base.frzs, I.base.tbls⟩, ⟨m, hn.sameBut hs (Ne.symm (cne x c hc)), fun j y v' e1 e2 e3 => ?_⟩, fun y c' e => ?_, I.free, I.freeC, fun p hp => ?_, tracked ⟨oc, hoc, I.freeC x c hc⟩ hs, by simpa using I.len⟩ ⟨c, hs, .inr hc⟩
  ·exact (hs.2 b (Nat.ne_of_lt (Nat.lt_of_lt_of_le (Heap.lt_size e) (I.ok.cab x c hfn hc)))).trans (I.base.keep b o e n hb hx)
  ·obtain ⟨sl, e1⟩ := I.base.slot b o e n hb hx
   exact ⟨sl, (hs.2 b (Nat.ne_of_lt (Nat.lt_of_lt_of_le (Heap.lt_size e) (I.ok.cab x c hfn hc)))).trans e1⟩
  ·obtain ⟨o', e1⟩ := I.base.there b o e hx
   exact ⟨o', (hs.2 b (Nat.ne_of_lt (Nat.lt_of_lt_of_le (Heap.lt_size e) (I.ok.cab x c hfn hc)))).trans e1⟩
  ·by_cases hj : j = i
   ·subst hj
    rw [hi] at e1; cases e1
    rw [List.getElem?_set_self hiσ] at e2
    cases e2
    exact ⟨u, r, .inr ⟨.inl hk, c, hc, hc'⟩⟩
   ·rw [List.getElem?_set_ne (Ne.symm hj)] at e2
    obtain ⟨u', r', q⟩ := hl j y v' e1 e2 e3
    refine ⟨u', r', ?_⟩
    rcases q with q | ⟨k, c', e, z'⟩
    ·exact .inl q
    ·refine .inr ⟨k, c', e, z'.sameBut hs ?_⟩
     rintro rfl
     exact hj (nodup_ix hN e1 (I.ok.inj _ _ _ e hc ▸ hi))
  ·by_cases hcc : c' = c
   ·subst hcc; exact ⟨_, hc'⟩
   ·obtain ⟨w2, z2⟩ := I.cell y c' e
    exact ⟨w2, z2.sameBut hs hcc⟩
  ·obtain ⟨e, n, ne, nf, d⟩ := I.pin p hp
   refine ⟨(hs.2 p.1 ?_).trans e, n, ne, nf, d⟩
   intro q
   rw [q, hoc] at e
   have q' : oc = p.2 := Option.some.inj e
   exact d w' (by rw [← q']; exact hocd)
theorem store_ok {M : Model} {A : Around} {E : Value → Shared → Prop} {i : Nat} {x : Str} {v : V} {u : Value} {Q : Unit → Shared → Prop} (I : Inv X pins σ H s) (hN : X.N.Nodup) (hi : X.N[i]? = some x) (hx : Loc X.env.scope x) (r : RelV v u)
  (h : ∀ s', Inv X pins (σ.set i (some v)) H s' → Q () s') (hf : X.fn x = true ∨ X.env.scope.names.lookup x = some .local := by first | exact .inl rfl | exact .inr rfl | assumption) : wpAny M A (storeName X.env x u) Q E s :=
 store_ok2 I hN hi hx r (fun s' I' _ => h s' I') hf
theorem Inv.call' {s' : Shared} {ch : List Addr} (I : Inv X pins σ H s) (ho : s'.os = s.os) (u : Un (frs X.stack) ch H H' s.heap s'.heap) (hok : HOk X.prog X.w H' s'.heap) (hg : AllBare s'.gens)
  (hch : ∀ b ∈ ch, (b ∈ X.ex ∨ X.s₀.heap.objs.size ≤ b) ∧ b ≠ X.env.locals ∧ (∀ x c, X.env.cells.lookup x = some c → c ≠ b) ∧ ∀ p ∈ X.pn ++ pins, p.1 ≠ b) : Inv X pins σ H' s' := by
 obtain ⟨h', g', d', t', o'⟩ := s'
 have e : o' = s.os := ho
 subst e
 exact I.call (g' := g') (t' := t') (d' := d') u hok hg hch
end
abbrev XK := Value → Option Addr → Hp → Prop
abbrev St := List (Option V)
abbrev VK := V → Hp → Prop
abbrev TE := St → Hp → VK → Prop
abbrev TT := St → Hp → (Bool → Hp → Prop) → Prop
abbrev TA := St → Hp → (List V → Hp → Prop) → Prop
structure Ends where
 nx : St → Hp → Prop
 rt : VK
 bk : St → Hp → Prop := fun _ _ => False
 ct : St → Hp → Prop := fun _ _ => False
abbrev TS := Ends → St → Hp → Prop
def EP (X : Cx) (pins : List (Addr × Obj)) (σ : St) (Q : VK) (u : Value) (s' : Shared) : Prop := ∃ v H', Inv X pins σ H' s' ∧ RelV v u ∧ Q v H'
def TP (X : Cx) (pins : List (Addr × Obj)) (σ : St) (Q : Bool → Hp → Prop) (b : Bool) (s' : Shared) : Prop := ∃ H', Inv X pins σ H' s' ∧ Q b H'
def AP (X : Cx) (pins : List (Addr × Obj)) (σ : St) (Q : List V → Hp → Prop) (us : List Value) (s' : Shared) : Prop := ∃ vs H', Inv X pins σ H' s' ∧ Vals vs us ∧ Q vs H'
def SP (X : Cx) (pins : List (Addr × Obj)) (D : Ends) (f : Flow) (s' : Shared) : Prop :=
 match f with
 | .next => ∃ σ' H', Inv X pins σ' H' s' ∧ D.nx σ' H'
 | .brk => ∃ σ' H', Inv X pins σ' H' s' ∧ D.bk σ' H'
 | .cont => ∃ σ' H', Inv X pins σ' H' s' ∧ D.ct σ' H'
 | .ret u => ∃ v σ' H', Inv X pins σ' H' s' ∧ RelV v u ∧ D.rt v H'
def PE (X : Cx) (e : Expr) (t : TE) : Prop :=
 ∀ (pins : List (Addr × Obj)) (s : Shared) (σ : St) (H : Hp) (Q : VK), Inv X pins σ H s → t σ H Q → wpAny (model X.prog X.w) X.A (eval e X.env) (EP X pins σ Q) X.xe s
def PT (X : Cx) (e : Expr) (t : TT) : Prop :=
 ∀ (pins : List (Addr × Obj)) (s : Shared) (σ : St) (H : Hp) (Q : Bool → Hp → Prop), Inv X pins σ H s → t σ H Q → wpAny (model X.prog X.w) X.A (isTrue e X.env (eval e X.env)) (TP X pins σ Q) X.xe s
def PW (X : Cx) (e : Expr) (t : TT) : Prop :=
 ∀ (whole : Sem Value) (pins : List (Addr × Obj)) (s : Shared) (σ : St) (H : Hp) (Q : Bool → Hp → Prop), Inv X pins σ H s → t σ H Q → wpAny (model X.prog X.w) X.A (isTrue e X.env whole) (TP X pins σ Q) X.xe s
theorem PW.pt {X : Cx} {e : Expr} {t : TT} (h : PW X e t) : PT X e t := h _
def PA (X : Cx) (es : List Expr) (t : TA) : Prop :=
 ∀ (pos : Pos) (pins : List (Addr × Obj)) (s : Shared) (σ : St) (H : Hp) (Q : List V → Hp → Prop), Inv X pins σ H s → t σ H Q → wpAny (model X.prog X.w) X.A (spliced (backTo pos (starEach es X.env))) (AP X pins σ Q) X.xe s
def PS (X : Cx) (st : Stmt) (t : TS) : Prop :=
 ∀ (pins : List (Addr × Obj)) (s : Shared) (σ : St) (H : Hp) (D : Ends), Inv X pins σ H s → t D σ H → wpAny (model X.prog X.w) X.A (exec st X.env) (SP X pins D) X.xe s
def PSs (X : Cx) (st : List Stmt) (t : TS) : Prop :=
 ∀ (pins : List (Addr × Obj)) (s : Shared) (σ : St) (H : Hp) (D : Ends), Inv X pins σ H s → t D σ H → wpAny (model X.prog X.w) X.A (execs st X.env) (SP X pins D) X.xe s
theorem thn {α : Type} {t : Sem α} {Q Q' : α → Shared → Prop} {M : Model} {A : Around} {E : Value → Shared → Prop} {s : Shared} (h : wpAny M A t Q E s) (hQ : ∀ a s, Q a s → Q' a s) : wpAny M A t Q' E s := wpAny_mono h hQ fun _ _ x => x
end L2
namespace L2
open PySem PySem.Spec PyProof.Rows
section
variable {X : Cx}
def tVar (i : Nat) : TE := fun σ H Q => ∃ v, σ[i]? = some (some v) ∧ Q v H
def tC (v : V) : TE := fun _ H Q => Q v H
theorem pe_var {i : Nat} {x : Str} {pos : Pos} (hN : X.N[i]? = some x) (hv : Vis X.env.scope x) (hd : (x == ("__debug__" : Str)) = false := by decide) (hcd : (x == ("__classdict__" : Str)) = false := by decide) : PE X (.Name x pos) (tVar i) := by
 intro pins s σ H Q I h
 obtain ⟨v, e, h⟩ := h
 obtain ⟨m, hn, hl⟩ := I.loc
 obtain ⟨u, r, l⟩ := hl i x v hN e hv
 have fin : EP X pins σ Q u s := ⟨v, H, I, r, h⟩
 rcases l with ⟨hk, hm⟩ | ⟨hk, c, hc, hcell⟩
 ·exact wpAny_Name (wpAny_loadName_local I.ok.kind hk hn hm fin) hd
 ·rcases hk with hk | hk
  ·exact wpAny_Name (wpAny_loadName_cell I.ok.kind hk hc hcell fin) hd
  ·exact wpAny_Name (wpAny_loadName_free I.ok.kind hk hc hcell fin hcd) hd
theorem pe_int {i j pos} : PE X (.Constant (.int i) j pos) (tC (.int i)) := fun _ _ _ H _ I h => wpAny_Constant_int ⟨.int i, H, I.tok _, ⟨_, rfl⟩, h⟩
theorem pe_bl {b j pos} : PE X (.Constant (.bool b) j pos) (tC (.bl b)) := fun _ _ _ H _ I h => Constant_bool ⟨.bl b, H, I, rfl, h⟩
theorem pe_non {j pos} : PE X (.Constant .none j pos) (tC .non) := fun _ _ _ H _ I h => Constant_none ⟨.non, H, I, rfl, h⟩
def Gl (X : Cx) (x : Str) : Prop := X.env.kindOf x = some .globalImplicit
theorem ld_glob {E : Value → Shared → Prop} {pins : List (Addr × Obj)} {s : Shared} {σ : St} {H : Hp} {x : Str} {u : Value} {pos : Pos} {Q : Value → Shared → Prop} (I : Inv X pins σ H s) (hg : Gl X x) (hm : X.mg x = some u) (h : Q u s)
  (hd : (x == ("__debug__" : Str)) = false := by decide) : wpAny (model X.prog X.w) X.A (eval (.Name x pos) X.env) Q E s :=
 Calls.Name_function_global I.ok.kind hg (Calls.loadGlobal_global (by rw [I.ok.glob]; exact I.mod.glob.keeps I.bk) hm h) hd
theorem ld_blt {E : Value → Shared → Prop} {pins : List (Addr × Obj)} {s : Shared} {σ : St} {H : Hp} {x : Str} {u : Value} {pos : Pos} {Q : Value → Shared → Prop} (I : Inv X pins σ H s) (hg : Gl X x) (hm : X.mg x = none) (hv : bootBuiltins x = some u) (h : Q u s)
  (hn : x ≠ "__name__" := by decide) (hd : (x == ("__debug__" : Str)) = false := by decide) : wpAny (model X.prog X.w) X.A (eval (.Name x pos) X.env) Q E s := by
 obtain ⟨mb, h1, h2⟩ := I.mod.blt
 exact Calls.Name_function_global I.ok.kind hg (Calls.loadGlobal_builtin (by rw [I.ok.glob]; exact I.mod.glob.keeps I.bk) hm (by rw [I.ok.blt]; exact h1.keeps I.bk) ((h2 x hn).trans hv) h) hd
theorem pe_glob {x : Str} {v : V} {u : Value} {pos : Pos} (hg : Gl X x) (hm : X.mg x = some u) (r : RelV v u) (hd : (x == ("__debug__" : Str)) = false := by decide) : PE X (.Name x pos) (tC v) :=
 fun _ _ _ H _ I h => ld_glob I hg hm ⟨v, H, I, r, h⟩ hd
theorem pe_bltn {x : Str} {v : V} {u : Value} {pos : Pos} (hg : Gl X x) (hm : X.mg x = none) (hv : bootBuiltins x = some u) (r : RelV v u) (hn : x ≠ "__name__" := by decide) (hd : (x == ("__debug__" : Str)) = false := by decide) : PE X (.Name x pos) (tC v) :=
 fun _ _ _ H _ I h => ld_blt I hg hm hv ⟨v, H, I, r, h⟩ hn hd
variable {a b : Expr} {ta tb : TE} {pos : Pos}
def tB (t : TE) : TT := fun σ H Q => t σ H fun x H1 => ∃ c, x = .bl c ∧ Q c H1
theorem pt_val {e : Expr} {t : TE} (h : PE X e t) (he : ∀ whole, isTrue e X.env whole = (do let v ← whole; standAt e.pos; holding [v] (truthy v)) := by intro _; rfl) : PT X e (tB t) := by
 intro pins s σ H Q I hw
 refine isTrue_plain (thn (h pins s σ H _ I hw) fun v s1 ⟨x, H1, I1, r1, q1⟩ => ?_) (he _)
 obtain ⟨d, rfl, q⟩ := q1
 cases r1
 exact wpAny_truthy_bool ⟨H1, I1, q⟩
variable {tA tB' : TT} {rest : List Expr}
def tAnd (t u : TT) : TT := fun σ H Q => t σ H fun c H1 => if c = true then u σ H1 Q else Q false H1
def tOr (t u : TT) : TT := fun σ H Q => t σ H fun c H1 => if c = true then Q true H1 else u σ H1 Q
def tNot (t : TT) : TT := fun σ H Q => t σ H fun c H1 => Q (!c) H1
theorem pw_and1 (ha : PT X a tA) : PW X (.BoolOp .And [a] pos) tA := by
 intro wh pins s σ H Q I h
 refine isTrue_and (thn (ha pins s σ H Q I h) fun c s1 e => ?_)
 cases c with
 | true => exact isTrue_and_nil e
 | false => exact e
theorem pw_or1 (ha : PT X a tA) : PW X (.BoolOp .Or [a] pos) tA := by
 intro wh pins s σ H Q I h
 refine isTrue_or (thn (ha pins s σ H Q I h) fun c s1 e => ?_)
 cases c with
 | false => exact isTrue_or_nil e
 | true => exact e
theorem pw_and (ha : PT X a tA) (hb : PW X (.BoolOp .And (b :: rest) pos) tB') : PW X (.BoolOp .And (a :: b :: rest) pos) (tAnd tA tB') := by
 intro wh pins s σ H Q I h
 refine isTrue_and (thn (ha pins s σ H _ I h) fun c s1 ⟨H1, I1, q1⟩ => ?_)
 cases c with
 | true => exact hb wh pins s1 σ H1 Q I1 q1
 | false => exact ⟨H1, I1, q1⟩
theorem pw_or (ha : PT X a tA) (hb : PW X (.BoolOp .Or (b :: rest) pos) tB') : PW X (.BoolOp .Or (a :: b :: rest) pos) (tOr tA tB') := by
 intro wh pins s σ H Q I h
 refine isTrue_or (thn (ha pins s σ H _ I h) fun c s1 ⟨H1, I1, q1⟩ => ?_)
 cases c with
 | true => exact ⟨H1, I1, q1⟩
 | false => exact hb wh pins s1 σ H1 Q I1 q1
theorem pt_not (ha : PT X a tA) : PT X (.UnaryOp .Not a pos) (tNot tA) := by
 intro pins s σ H Q I h
 exact isTrue_not (ha pins s σ H (fun c H1 => Q (!c) H1) I h)
def tAndV (ta tb : TE) : TE := fun σ H Q => ta σ H fun x H1 => ∃ c, x = .bl c ∧ if c = true then tb σ H1 Q else Q (.bl false) H1
def tNotV (ta : TE) : TE := fun σ H Q => ta σ H fun x H1 => ∃ c, x = .bl c ∧ Q (.bl (!c)) H1
theorem pe_one {op} {t : TE} (h : PE X a t) : PE X (.BoolOp op [a] pos) t := fun pins s σ H Q I hw => BoolOp_one (h pins s σ H Q I hw)
theorem pe_and (ha : PE X a ta) (hb : PE X (.BoolOp .And (b :: rest) pos) tb) : PE X (.BoolOp .And (a :: b :: rest) pos) (tAndV ta tb) := by
 intro pins s σ H Q I h
 refine BoolOp_and (thn (ha pins s σ H _ I h) fun v s1 ⟨x, H1, I1, r1, q1⟩ => ?_)
 obtain ⟨c, rfl, q1⟩ := q1
 cases r1
 refine wpAny_truthy_bool ?_
 cases c with
 | true => exact hb pins s1 σ H1 Q I1 q1
 | false => exact ⟨.bl false, H1, I1, rfl, q1⟩
theorem pe_not (ha : PE X a ta) : PE X (.UnaryOp .Not a pos) (tNotV ta) := by
 intro pins s σ H Q I h
 refine UnaryOp_ (thn (ha pins s σ H _ I h) fun v s1 ⟨x, H1, I1, r1, q1⟩ => ?_)
 obtain ⟨c, rfl, q1⟩ := q1
 cases r1
 exact not_of (wpAny_truthy_bool ⟨.bl (!c), H1, I1, rfl, q1⟩)
def tIf (t : TT) (ta tb : TE) : TE := fun σ H Q => t σ H fun c H1 => if c = true then ta σ H1 Q else tb σ H1 Q
theorem pe_ifExp {c : Expr} (hc : PT X c tA) (ha : PE X a ta) (hb : PE X b tb) : PE X (.IfExp c a b pos) (tIf tA ta tb) := by
 intro pins s σ H Q I h
 refine wpAny_IfExp (thn (hc pins s σ H _ I h) fun d s1 ⟨H1, I1, q1⟩ => ?_)
 cases d with
 | true => exact ha pins s1 σ H1 Q I1 q1
 | false => exact hb pins s1 σ H1 Q I1 q1
end
end L2
namespace L2
open PySem PySem.Spec PyProof.Rows
def SqL (K : PySem.W.Frag) (H : Hp) (a : Addr) (xs : List V) : Prop :=
 Rd H a (.lst xs) ∨
  ∃ (o : Obj) (its : Array Value) (n : Nat), K.lookup a = some o ∧ o.cls = .type "list" ∧ o.dict = none ∧ o.data = .seq its n ∧ its.size ≤ sizeLine ∧ Vals xs its.toList
def SqT (K : PySem.W.Frag) (H : Hp) (a : Addr) (xs : List V) : Prop :=
 Rd H a (.tup xs) ∨
  ∃ (o : Obj) (its : Array Value) (n : Nat), K.lookup a = some o ∧ o.cls = .type "tuple" ∧ o.data = .seq its n ∧ its.size ≤ sizeLine ∧ Vals xs its.toList
def absV : Value → Option V
 | .none => some .non
 | .bool b => some (.bl b)
 | .int i _ => some (.int i)
 | .str x _ => some (.str x)
 | .bytes b _ => some (.byt b)
 | .float b _ => some (.flt b)
 | .ref a => some (.ref a)
 | .type n => some (.ty n)
 | _ => none
theorem RelV.abs {x : V} {u : Value} (r : RelV x u) : absV u = some x := by
 cases x with
 | non => cases r; rfl
 | bl _ => cases r; rfl
 | int _ => obtain ⟨t, rfl⟩ := r; rfl
 | str _ => obtain ⟨t, rfl⟩ := r; rfl
 | byt _ => obtain ⟨t, rfl⟩ := r; rfl
 | flt _ => obtain ⟨t, rfl⟩ := r; rfl
 | ref _ => cases r; rfl
 | ty _ => cases r; rfl
theorem RelV.inj {x y : V} {u : Value} (r : RelV x u) (q : RelV y u) : x = y := Option.some.inj (r.abs.symm.trans q.abs)
theorem Vals.inj : ∀ {xs ys : List V} {us : List Value}, Vals xs us → Vals ys us → xs = ys
 | _, _, _, .nil, .nil => rfl
 | _, _, _, .cons r t, .cons r' t' => by rw [r.inj r', Vals.inj t t']
section
variable {X : Cx} {pins : List (Addr × Obj)} {σ : St} {H : Hp} {s : Shared} {a : Addr} {xs ys : List V}
theorem SqT.of {K : PySem.W.Frag} (h : H a = some (.tup xs)) : SqT K H a xs := .inl (.inl h)
theorem Inv.list (I : Inv X pins σ H s) (h : SqL X.K H a xs) : ∃ its : List Value, Vals xs its ∧ PlainL s.heap a its.toArray ∧ xs.length ≤ sizeLine := by
 rcases h with h | ⟨o, its, n, hk, hc, hd, hs, hz, r⟩
 ·obtain ⟨z, its, n, r, e⟩ := h.ok I.hok
  exact ⟨its, r, ⟨_, n, e, rfl, rfl, rfl⟩, z⟩
 ·refine ⟨its.toList, r, ⟨o, n, I.kIn a o hk, hc, hd, by simpa using hs⟩, ?_⟩
  have e := r.length
  simp only [Array.length_toList] at e
  omega
theorem Inv.tuple (I : Inv X pins σ H s) (h : SqT X.K H a xs) : ∃ its : List Value, Vals xs its ∧ IsTup s.heap a its.toArray ∧ xs.length ≤ sizeLine := by
 rcases h with h | ⟨o, its, n, hk, hc, hs, hz, r⟩
 ·obtain ⟨z, its, r, p⟩ := h.ok I.hok
  exact ⟨its, r, p, z⟩
 ·refine ⟨its.toList, r, ⟨o, I.kIn a o hk, hc, n, by simpa using hs⟩, ?_⟩
  have e := r.length
  simp only [Array.length_toList] at e
  omega
theorem Inv.list_inj (I : Inv X pins σ H s) (h : SqL X.K H a xs) (h' : SqL X.K H a ys) : xs = ys := by
 obtain ⟨its, r, ⟨o, n, e, _, _, d⟩, _⟩ := I.list h
 obtain ⟨its', r', ⟨o', n', e', _, _, d'⟩, _⟩ := I.list h'
 rw [e] at e'; cases e'
 rw [d] at d'
 injection d' with d1 _
 have : its = its' := by simpa using congrArg Array.toList d1
 subst this
 exact r.inj r'
theorem Inv.tuple_inj (I : Inv X pins σ H s) (h : SqT X.K H a xs) (h' : SqT X.K H a ys) : xs = ys := by
 obtain ⟨its, r, ⟨o, e, _, n, d⟩, _⟩ := I.tuple h
 obtain ⟨its', r', ⟨o', e', _, n', d'⟩, _⟩ := I.tuple h'
 rw [e] at e'; cases e'
 rw [d] at d'
 injection d' with d1 _
 have : its = its' := by simpa using congrArg Array.toList d1
 subst this
 exact r.inj r'
end
abbrev Cx.wish (X : Cx) (E : Value → Shared → Prop) : Cx := { X with xe := E }
abbrev Cx.nox (X : Cx) : Cx := X.wish fun _ _ => False
theorem Cx.Ok.wish {X : Cx} (ok : X.Ok) (E : Value → Shared → Prop) : (X.wish E).Ok :=
 ⟨ok.mod, ok.kind, ok.glob, ok.blt, ok.above, ok.inj, ok.has, ok.cab, ok.hd, ok.frames, ok.stk, ok.exf, ok.bs, ok.bsz, ok.noex, ok.exfs, ok.funs, ok.frf⟩
theorem Cx.Ok.unwish {X : Cx} {E : Value → Shared → Prop} (ok : (X.wish E).Ok) : X.Ok :=
 ⟨ok.mod, ok.kind, ok.glob, ok.blt, ok.above, ok.inj, ok.has, ok.cab, ok.hd, ok.frames, ok.stk, ok.exf, ok.bs, ok.bsz, ok.noex, ok.exfs, ok.funs, ok.frf⟩
section
variable {X : Cx} {pins : List (Addr × Obj)} {σ : St} {H : Hp} {s : Shared} {E : Value → Shared → Prop}
theorem Inv.wish (I : Inv X pins σ H s) (E : Value → Shared → Prop) : Inv (X.wish E) pins σ H s := ⟨I.ok.wish E, I.os, I.bare, I.base, I.loc, I.cell, I.free, I.freeC, I.pin, I.hok, I.len⟩
theorem Inv.unwish (I : Inv (X.wish E) pins σ H s) : Inv X pins σ H s := ⟨I.ok.unwish, I.os, I.bare, I.base, I.loc, I.cell, I.free, I.freeC, I.pin, I.hok, I.len⟩
theorem SP.unwish {D : Ends} {f : Flow} {s' : Shared} (h : SP (X.wish E) pins D f s') : SP X pins D f s' := by
 cases f with
 | next => obtain ⟨σ', H', I, q⟩ := h; exact ⟨σ', H', I.unwish, q⟩
 | brk => obtain ⟨σ', H', I, q⟩ := h; exact ⟨σ', H', I.unwish, q⟩
 | cont => obtain ⟨σ', H', I, q⟩ := h; exact ⟨σ', H', I.unwish, q⟩
 | ret u => obtain ⟨v, σ', H', I, r, q⟩ := h; exact ⟨v, σ', H', I.unwish, r, q⟩
theorem PE.nox {e : Expr} {t : TE} (h : PE X.nox e t) : PE X e t := fun pins s σ H Q I hw =>
 wpAny_mono (h pins s σ H Q (I.wish _) hw) (fun _ _ ⟨v, H', I', r, q⟩ => ⟨v, H', I'.unwish, r, q⟩) fun _ _ z => False.elim z
theorem PT.nox {e : Expr} {t : TT} (h : PT X.nox e t) : PT X e t := fun pins s σ H Q I hw =>
 wpAny_mono (h pins s σ H Q (I.wish _) hw) (fun _ _ ⟨H', I', q⟩ => ⟨H', I'.unwish, q⟩) fun _ _ z => False.elim z
theorem PSs.nox {st : List Stmt} {t : TS} (h : PSs X.nox st t) : PSs X st t := fun pins s σ H D I hw =>
 wpAny_mono (h pins s σ H D (I.wish _) hw) (fun _ _ q => q.unwish) fun _ _ z => False.elim z
end
section
variable {X : Cx} {st : Stmt} {rest : List Stmt} {t u : TS} {e : Expr} {te : TE} {pos : Pos}
def tNext : TS := fun D σ H => D.nx σ H
def tSeq (t u : TS) : TS := fun D σ H => t { D with nx := u D } σ H
theorem pss_nil : PSs X [] tNext := fun _ _ σ H _ I h => wpAny_execs_nil ⟨σ, H, I, h⟩
theorem pss_cons (h1 : PS X st t) (h2 : PSs X rest u) : PSs X (st :: rest) (tSeq t u) := by
 intro pins s σ H D I h
 refine wpAny_execs_cons (thn (h1 pins s σ H { D with nx := u D } I h) fun f s1 q => ?_)
 cases f with
 | next =>
  obtain ⟨σ', H', I', q⟩ := q
  exact h2 pins s1 σ' H' D I' q
 | ret v => exact q
 | brk => exact q
 | cont => exact q
theorem pss_one (h1 : PS X st t) : PSs X [st] t := by
 intro pins s σ H D I h
 refine wpAny_execs_cons (thn (h1 pins s σ H D I h) fun f s1 q => ?_)
 cases f with
 | next => exact wpAny_execs_nil q
 | ret v => exact q
 | brk => exact q
 | cont => exact q
theorem Inv.quiet {pins : List (Addr × Obj)} {σ : St} {H : Hp} {s : Shared} (I : Inv X pins σ H s) : interactive X.env = false := by simp [interactive, I.ok.kind]
def tDrop (te : TE) : TS := fun D σ H => te σ H fun _ H1 => D.nx σ H1
theorem ps_expr (he : PE X e te) (hs : swapsWith e none pos.line X.env = pure false := by rfl) : PS X (.Expr e pos) (tDrop te) := by
 intro pins s σ H D I h
 exact wpAny_Expr_any (thn (he pins s σ H _ I h) fun v s1 ⟨x, H1, I1, r1, q1⟩ => ⟨σ, H1, I1, q1⟩) I.quiet hs
def tRet (te : TE) : TS := fun D σ H => te σ H D.rt
theorem ps_ret (he : PE X e te) : PS X (.Return (some e) pos) (tRet te) := by
 intro pins s σ H D I h
 exact wpAny_Return_some (thn (he pins s σ H _ I h) fun v s1 ⟨x, H1, I1, r1, q1⟩ => ⟨x, σ, H1, I1, r1, q1⟩)
def tIfS (c : TT) (t u : TS) : TS := fun D σ H => c σ H fun b H1 => if b = true then t D σ H1 else u D σ H1
theorem ps_if {c : Expr} {a b : List Stmt} {tc : TT} (hc : PT X c tc) (ha : PSs X a t) (hb : PSs X b u) : PS X (.If c a b pos) (tIfS tc t u) := by
 intro pins s σ H D I h
 refine wpAny_If (thn (hc pins s σ H _ I h) fun d s1 ⟨H1, I1, q1⟩ => ?_)
 cases d with
 | true => exact ha pins s1 σ H1 D I1 q1
 | false => exact hb pins s1 σ H1 D I1 q1
def tNever : TS := fun _ _ _ => False
theorem ps_never : PS X st tNever := fun _ _ _ _ _ _ h => h.elim
theorem pss_never {sts : List Stmt} : PSs X sts tNever := fun _ _ _ _ _ _ h => h.elim
end
abbrev TG := V → St → Hp → (St → Hp → Prop) → Prop
abbrev TGs := List V → St → Hp → (St → Hp → Prop) → Prop
def PG (X : Cx) (target : Expr) (t : TG) : Prop :=
 ∀ (pins : List (Addr × Obj)) (s : Shared) (σ : St) (H : Hp) (v : V) (u : Value) (Q : St → Hp → Prop), Inv X pins σ H s → RelV v u → t v σ H Q →
  wpAny (model X.prog X.w) X.A (assign target X.env u) (fun _ s' => ∃ σ' H', Inv X pins σ' H' s' ∧ Q σ' H') X.xe s
def PGs (X : Cx) (ts : List Expr) (t : TGs) : Prop :=
 ∀ (pins : List (Addr × Obj)) (s : Shared) (σ : St) (H : Hp) (vs : List V) (us : List Value) (Q : St → Hp → Prop), Inv X pins σ H s → Vals vs us → t vs σ H Q →
  wpAny (model X.prog X.w) X.A (assignInOrder ((assignEach ts X.env).map (·.2)) us) (fun _ s' => ∃ σ' H', Inv X pins σ' H' s' ∧ Q σ' H') X.xe s
abbrev TSet := V → V → V → Hp → (Hp → Prop) → Prop
def PSet (X : Cx) (t : TSet) : Prop :=
 ∀ (pins : List (Addr × Obj)) (s : Shared) (σ : St) (H : Hp) (o i v : V) (ov iv u : Value) (Q : Hp → Prop), Inv X pins σ H s → RelV o ov → RelV i iv → RelV v u → t o i v H Q →
  wpAny (model X.prog X.w) X.A (setItem ov iv u) (fun _ s' => ∃ H', Inv X pins σ H' s' ∧ Q H') X.xe s
section
variable {X : Cx} {pos : Pos}
def gName (i : Nat) : TG := fun v σ H Q => Q (σ.set i (some v)) H
theorem pg_name {i : Nat} {x : Str} (hN : X.N.Nodup) (hi : X.N[i]? = some x) (hx : Loc X.env.scope x) (hf : X.fn x = true ∨ X.env.scope.names.lookup x = some .local := by first | exact .inl rfl | exact .inr rfl | assumption) : PG X (.Name x pos) (gName i) := by
 intro pins s σ H v u Q I r h
 exact wpAny_assign_Name (store_ok I hN hi hx r (fun s' I' => ⟨_, H, I', h⟩) hf)
def gNil : TGs := fun vs σ H Q => vs = [] ∧ Q σ H
def gCons (t : TG) (u : TGs) : TGs := fun vs σ H Q => ∃ v r, vs = v :: r ∧ t v σ H fun σ' H' => u r σ' H' Q
theorem pgs_nil : PGs X [] gNil := by
 intro pins s σ H vs us Q I r h
 obtain ⟨e, h⟩ := h
 subst e
 cases r
 exact assignInOrder_nil ⟨σ, H, I, h⟩
theorem pgs_cons {e : Expr} {es : List Expr} {t : TG} {u : TGs} (h1 : PG X e t) (h2 : PGs X es u)
  (hs : (assignEach (e :: es) X.env).map (·.2) = assign e X.env :: (assignEach es X.env).map (·.2) := by rfl) : PGs X (e :: es) (gCons t u) := by
 intro pins s σ H vs us Q I r h
 obtain ⟨v, vr, e1, h⟩ := h
 subst e1
 cases r with
 | cons r rr =>
  rw [hs]
  refine assignInOrder_cons (thn (h1 pins s σ H _ _ _ I r h) fun _ s1 ⟨σ1, H1, I1, q1⟩ => ?_)
  exact h2 pins s1 σ1 H1 _ _ Q I1 rr q1
def gTup (K : PySem.W.Frag) (n : Nat) (t : TGs) : TG := fun v σ H Q => ∃ a xs, v = .ref a ∧ SqT K H a xs ∧ xs.length = n ∧ t xs σ H Q
theorem pg_tup {es : List Expr} {k : Nat} {t : TGs} {n : Nat} (hc : X.calm = true) (h : PGs X es t)
  (hn : (assignEach es X.env).length = n := by rfl) (hst : (assignEach es X.env).findIdx? (·.1) = none := by rfl) : PG X (.Tuple es k pos) (gTup X.K n t) := by
 intro pins s σ H v u Q I r hw
 obtain ⟨a, xs, e1, hq, hl, hw⟩ := hw
 subst e1
 cases r
 obtain ⟨its, rv, ht, hz⟩ := I.tuple hq
 refine assign_Tuple_tuple (I.ok.hd hc) ht (by simp [hn, ← hl, rv.length]) hst fun h' hx => ?_
 have I1 : Inv X pins σ H { s with heap := h' } := I.kept (t' := s.toks) fun b o e => hx b o (Nat.ne_of_lt (Heap.lt_size e)) e
 exact h pins _ σ H xs _ Q I1 (by simpa using rv) hw
def gSub (to ti : TE) (t : TSet) : TG := fun v σ H Q => to σ H fun o H1 => ti σ H1 fun i H2 => t o i v H2 fun H3 => Q σ H3
theorem pg_sub {o i : Expr} {to ti : TE} {t : TSet} (ho : PE X o to) (hi : PE X i ti) (hs : PSet X t)
  (ha : ∀ v, assign (.Subscript o i pos) X.env v = (do
   let ov ← holding [v] (eval o X.env)
   let iv ← holding [v, ov] (eval i X.env)
   standAt pos
   holding [v, ov, iv] (setItem ov iv v)
   release [v, ov, iv] []) := by intro _; rfl) : PG X (.Subscript o i pos) (gSub to ti t) := by
 intro pins s σ H v u Q I r h
 rw [ha]
 refine wpAny_bind (wpAny_holding (thn (ho pins s σ H _ I h) fun ov s1 ⟨x, H1, I1, r1, q1⟩ => ?_))
 refine wpAny_bind (wpAny_holding (thn (hi pins s1 σ H1 _ I1 q1) fun iv s2 ⟨y, H2, I2, r2, q2⟩ => ?_))
 refine wpAny_bind (wpAny_standAt (wpAny_bind (wpAny_holding (thn (hs pins s2 σ H2 x y v ov iv u _ I2 r1 r2 r q2) fun _ s3 ⟨H3, I3, q3⟩ => ?_))))
 exact wpAny_release ⟨σ, H3, I3, q3⟩
def tAsg (te : TE) (g : TG) : TS := fun D σ H => te σ H fun x H1 => g x σ H1 D.nx
theorem ps_asg {tg e : Expr} {te : TE} {g : TG} (he : PE X e te) (hg : PG X tg g) (hs : swapsWithSole [tg] e pos.line X.env = pure false := by rfl) (hw : swappedStores [tg] e X.env = pure none := by rfl)
  (h1 : (assignEach [tg] X.env).map (·.2) = [assign tg X.env] := by rfl) : PS X (.Assign [tg] e pos) (tAsg te g) := by
 intro pins s σ H D I h
 refine wpAny_Assign_stores (thn (he pins s σ H _ I h) fun v s1 ⟨x, H1, I1, r1, q1⟩ => ?_) hs hw
 rw [h1]
 exact thn (hg pins s1 σ H1 x v _ I1 r1 q1) fun _ s2 q => q
theorem ps_set {i : Nat} {x : Str} {e : Expr} {te : TE} {pos' : Pos} (hN : X.N.Nodup) (hi : X.N[i]? = some x) (hx : Loc X.env.scope x) (he : PE X e te) (hs : swapsWith e (some (.Name x pos')) pos.line X.env = pure false := by rfl) (hf : X.fn x = true ∨ X.env.scope.names.lookup x = some .local := by first | exact .inl rfl | exact .inr rfl | assumption) :
  PS X (.Assign [.Name x pos'] e pos) (tAsg te (gName i)) := by
 intro pins s σ H D I h
 refine wpAny_Assign_Name (thn (he pins s σ H _ I h) fun v s1 ⟨y, H1, I1, r1, q1⟩ => ?_) hs
 exact store_ok I1 hN hi hx r1 (fun s2 I2 => ⟨_, H1, I2, q1⟩) hf
def tPar (i j : Nat) (ta : TA) : TS := fun D σ H => ta σ H fun vs H1 => ∃ v w, vs = [v, w] ∧ D.nx ((σ.set i (some v)).set j (some w)) H1
theorem ps_par {i j : Nat} {x y : Str} {a b : Expr} {ta : TA} {px py pt : Pos} {kt k2 pt2} (hc : X.calm = true) (hN : X.N.Nodup) (hi : X.N[i]? = some x) (hj : X.N[j]? = some y) (hij : i ≠ j)
  (hx : X.env.scope.names.lookup x = some .local) (hy : X.env.scope.names.lookup y = some .local) (ha : PA X [a, b] ta)
  (hw : swappedStores [.Tuple [.Name x px, .Name y py] kt pt] (.Tuple [a, b] k2 pt2) X.env = pure (some [x, y]))
  (hs : swapsWithSole [.Tuple [.Name x px, .Name y py] kt pt] (.Tuple [a, b] k2 pt2) pos.line X.env = pure false := by rfl) :
  PS X (.Assign [.Tuple [.Name x px, .Name y py] kt pt] (.Tuple [a, b] k2 pt2) pos) (tPar i j ta) := by
 intro pins s σ H D I h
 rw [exec_Assign_arm]
 refine wpAny_bind (wpAny_standAt ?_)
 rw [hs]
 refine wpAny_bind (wpAny_pure ?_)
 rw [if_neg (by decide)]
 refine wpAny_bind (Tuple_ (thn (ha _ pins s σ H _ I h) fun us s1 ⟨vs, H1, I1, r1, q1⟩ => ?_))
 obtain ⟨v, w, e1, q1⟩ := q1
 subst e1
 obtain ⟨u1, u2, rfl, rv, rw'⟩ : ∃ u1 u2, us = [u1, u2] ∧ RelV v u1 ∧ RelV w u2 := by
  cases r1 with
  | cons p q =>
   cases q with
   | cons p' q' =>
    cases q'
    exact ⟨_, _, rfl, p, p'⟩
 refine wpAny_newObj_type ?_ (by show 2 ≤ sizeLine; decide)
 have I2 : Inv X pins σ H1 { s1 with heap := s1.heap.push { cls := .type "tuple", data := .seq [u1, u2].toArray } } := I1.kept (t' := s1.toks) fun b o e => Heap.get?_push_of_some _ e
 rw [hw]
 refine wpAny_bind (wpAny_pure ?_)
 show wpAny (model X.prog X.w) X.A (do rule "assign.swapped-stores"; let items ← unpackItems (.ref s1.heap.objs.size) 2 none; assignInOrder [fun v => bindName X.env y v, fun v => bindName X.env x v] items.reverse; pure Flow.next) _ _ _
 refine wpAny_bind (wpAny_rule (wpAny_bind (unpackItems_tuple (items := #[u1, u2]) (I.ok.hd hc) (IsTup.new s1.heap _) fun h' hx' => ?_)))
 have I3 := I2.kept (h' := h') (t' := s1.toks) fun b o e => hx' b o (Nat.ne_of_lt (Heap.lt_size e)) e
 show wpAny _ _ (assignInOrder [fun v => bindName X.env y v, fun v => bindName X.env x v] [u2, u1] >>= fun _ => pure Flow.next) _ _ _
 refine wpAny_bind (assignInOrder_cons (wpAny_bindName (store_ok I3 hN hj (.inl hy) rw' (fun s2 I4 => ?_) (.inr hy))))
 refine assignInOrder_cons (wpAny_bindName (store_ok I4 hN hi (.inl hx) rv (fun s3 I5 => assignInOrder_nil (wpAny_pure ?_)) (.inr hx)))
 rw [List.set_comm _ _ (Ne.symm hij)] at I5
 exact ⟨_, H1, I5, q1⟩
end
section
variable {X : Cx} {pos : Pos}
def tWhile (c : TT) (tb : TS) : TS := fun D σ H => ∃ W : Nat → St → Hp → Prop, (∃ m, W m σ H) ∧ ∀ m σ H, W m σ H →
 c σ H fun b H1 => if b = true then ∃ N : St → Hp → Prop, (∀ σ' H', N σ' H' → ∃ m', m' < m ∧ W m' σ' H') ∧ tb { D with nx := N, ct := N, bk := D.nx } σ H1 else D.nx σ H1
theorem ps_while {c : Expr} {body : List Stmt} {tc : TT} {tb : TS} (hp : PassesOwn (model X.prog X.w) X.A X.env X.xe) (hc : PT X c tc) (hb : PSs X body tb) : PS X (.While c body [] pos) (tWhile tc tb) := by
 intro pins s σ H D I h
 obtain ⟨W, ⟨m0, w0⟩, turn⟩ := h
 refine wpAny_While (codeAny_whileLoop (fun n s' => ∃ σ' H', Inv X pins σ' H' s' ∧ W n σ' H') ?_ m0 ⟨σ, H, I, w0⟩)
 rintro n s1 ⟨σ1, H1, I1, w1⟩
 refine wpAny_passesOwn hp (thn (hc pins s1 σ1 H1 _ I1 (turn n σ1 H1 w1)) fun b s2 ⟨H2, I2, q2⟩ => ?_)
 cases b with
 | true =>
  obtain ⟨N, hN, q2⟩ := q2
  rw [if_pos rfl]
  refine wpAny_passesOwn hp (thn (hb pins s2 σ1 H2 _ I2 q2) fun f s3 q3 => ?_)
  cases f with
  | next =>
   obtain ⟨σ3, H3, I3, n3⟩ := q3
   obtain ⟨m', hm, w3⟩ := hN σ3 H3 n3
   exact ⟨m', hm, σ3, H3, I3, w3⟩
  | cont =>
   obtain ⟨σ3, H3, I3, n3⟩ := q3
   obtain ⟨m', hm, w3⟩ := hN σ3 H3 n3
   exact ⟨m', hm, σ3, H3, I3, w3⟩
  | brk => exact q3
  | ret v => exact q3
 | false =>
  rw [if_neg Bool.false_ne_true]
  exact wpAny_execs_nil ⟨σ1, H2, I2, q2⟩
end
structure It where
 go : Nat → Hp → Prop
 yld : Nat → Hp → V → Hp → Prop
 stop : Nat → Hp → Prop
def FpOk (X : Cx) (pins : List (Addr × Obj)) (H : Hp) (b : Addr) : Prop :=
 H b = none ∧ b ≠ X.env.locals ∧ b ∉ X.fs ∧ (b ∈ X.ex ∨ X.s₀.heap.objs.size ≤ b) ∧ (∀ x c, X.env.cells.lookup x = some c → c ≠ b) ∧ ∀ p ∈ X.pn ++ pins, p.1 ≠ b
theorem Inv.fpOk {X : Cx} {pins : List (Addr × Obj)} {σ : St} {H H' : Hp} {s : Shared} {b : Addr} (I : Inv X pins σ H s) (hb : s.heap.objs.size ≤ b) (hn : H' b = none) : FpOk X pins H' b := by
 refine ⟨hn, Nat.ne_of_gt (Nat.lt_of_lt_of_le I.lt hb), I.nofs hb, .inr (Nat.le_trans I.sz hb), fun x c e z => ?_, fun p hp z => ?_⟩
 ·obtain ⟨v, q⟩ := I.cell x c e
  exact absurd (Nat.lt_of_lt_of_le q.lt (by rw [z]; exact hb)) (Nat.lt_irrefl _)
 ·exact absurd (Nat.lt_of_lt_of_le (Heap.lt_size (I.pin p hp).1) (by rw [z]; exact hb)) (Nat.lt_irrefl _)
structure Turn (P : Program) (w : World) (K : PySem.W.Frag) (tg : Expr) (J : It) (fp : List Addr) (it : Addr) (tn : Nat → Heap → Prop) : Prop where
 mem : it ∈ fp
 obj : ∀ i h, tn i h → ∀ b ∈ fp, ∃ o, h.get? b = some o ∧ ∀ v, o.data ≠ .cell v
 keep : ∀ i h h', tn i h → (∀ b ∈ fp, ∀ o, h.get? b = some o → h'.get? b = some o) → tn i h'
 item : ∀ (X : Cx), X.prog = P → X.w = w → X.K = K → X.calm = true → ∀ (i : Nat) (pins : List (Addr × Obj)) (s : Shared) (σ : St) (H : Hp) (E : Value → Shared → Prop), Inv X pins σ H s → (∀ b ∈ fp, FpOk X pins H b) → tn i s.heap → J.go i H →
  wpAny (model P w) X.A (pyNext (.ref it)) (fun r s1 => ∃ u, r = some u ∧
   wpAny (model P w) X.A (letOwnedTupleGo tg (.ref it) u) (fun _ s2 => ∃ x H', Inv X pins σ H' s2 ∧ RelV x u ∧ J.yld i H x H' ∧ tn (i + 1) s2.heap ∧ ∀ b ∈ fp, H' b = none) E s1) E s
 done : ∀ (X : Cx), X.prog = P → X.w = w → X.K = K → X.calm = true → ∀ (i : Nat) (pins : List (Addr × Obj)) (s : Shared) (σ : St) (H : Hp) (E : Value → Shared → Prop), Inv X pins σ H s → (∀ b ∈ fp, FpOk X pins H b) → tn i s.heap → J.stop i H →
  wpAny (model P w) X.A (pyNext (.ref it)) (fun r s1 => r = none ∧ Inv X pins σ H s1) E s
 self : ∀ (A : Around) (i : Nat) (s : Shared) (Q : Value → Shared → Prop) (E : Value → Shared → Prop), tn i s.heap → Q (.ref it) s → wpAny (model P w) A (pyIter (.ref it)) Q E s
abbrev TI := St → Hp → (It → Hp → Prop) → Prop
def PIE (X : Cx) (pins : List (Addr × Obj)) (σ : St) (tg : Expr) (R : It → Hp → Prop) (itv : Value) (s2 : Shared) : Prop :=
 ∃ (it : Addr) (fp : List Addr) (tn : Nat → Heap → Prop) (J : It) (H' : Hp), itv = .ref it ∧ Inv X pins σ H' s2 ∧ Turn X.prog X.w X.K tg J fp it tn ∧ tn 0 s2.heap ∧ (∀ b ∈ fp, FpOk X pins H' b) ∧ R J H'
def PI (X : Cx) (tg iter : Expr) (wi : TI) : Prop :=
 ∀ (pins : List (Addr × Obj)) (s : Shared) (σ : St) (H : Hp) (R : It → Hp → Prop), Inv X pins σ H s → wi σ H R →
  wpAny (model X.prog X.w) X.A (eval iter X.env) (fun v s1 => wpAny (model X.prog X.w) X.A (pyIter v) (PIE X pins σ tg R) X.xe s1) X.xe s
theorem go_of {M : Model} {A : Around} {E : Value → Shared → Prop} {s : Shared} {tg : Expr} {it : Addr} {u : Value} {o : Obj} {n : String} {vs : Array Value} {Q : Unit → Shared → Prop} (ho : s.heap.get? it = some o) (hc : o.cls = .type n) (hd : o.data = .fields vs)
    (hn : ["enumerate", "zip", "dict_itemiterator", "dict_reverseitemiterator", "odict_iterator", "itertools.zip_longest", "itertools.pairwise"].contains n = false) (hQ : Q () s) : wpAny M A (letOwnedTupleGo tg (.ref it) u) Q E s := by
  unfold letOwnedTupleGo
  cases tg <;> first
    | exact wpAny_pure hQ
    | (cases u <;> first
        | exact wpAny_pure hQ
        | (refine wpAny_bind (wpAny_load ho ?_)
           rw [hc, hd]
           show wpAny M A (if (["enumerate", "zip", "dict_itemiterator", "dict_reverseitemiterator", "odict_iterator", "itertools.zip_longest", "itertools.pairwise"].contains n && vs[0]? == some (rawInt _)) = true then _ else _) Q E s
           rw [if_neg (by intro h; rw [hn, Bool.false_and] at h; cases h)]
           exact wpAny_pure hQ))
def Itl (K : PySem.W.Frag) (a : Addr) : It :=
 ⟨fun i H => ∃ xs x, SqL K H a xs ∧ xs[i]? = some x, fun i H x H' => H' = H ∧ ∀ xs, SqL K H a xs → xs[i]? = some x, fun i H => ∃ xs, SqL K H a xs ∧ xs.length ≤ i⟩
def Itr (lo : Int) (n : Nat) : It := ⟨fun i _ => i < n, fun i H x H' => H' = H ∧ x = .int (lo + i), fun i _ => n ≤ i⟩
theorem turn_list {P : Program} {w : World} {K : PySem.W.Frag} {tg : Expr} (a it : Addr) : Turn P w K tg (Itl K a) [it] it (fun i h => h.IsListIter it a i) where
 mem := by simp
 obj := fun i h st b hb => by
  have e : b = it := by simpa using hb
  subst e
  obtain ⟨o, e, c, d⟩ := st
  exact ⟨o, e, fun v z => by rw [d] at z; cases z⟩
 keep := fun i h h' st k => st.at fun o e => k it (by simp) o e
 item := by
  intro X hP hw hK hc i pins s σ H E I hf st hg
  subst hP hw hK
  obtain ⟨xs, x, hq, hx⟩ := hg
  obtain ⟨its, rv, p, hz⟩ := I.list hq
  obtain ⟨u, hu, ru⟩ := rv.get hx
  obtain ⟨f0, f1, f2, f3, f4, f5⟩ := hf it (by simp)
  refine wpAny_pyNext_list_item st p.isList (x := u) (by simpa using hu) fun h' st' sb => ?_
  have I1 : Inv X pins σ H { s with heap := h' } := I.turned (t' := s.toks) (fun b o hb e => (sb.2 b hb).trans e) f0 f1 f3 f4 f5
  obtain ⟨o, e, c, d⟩ := id st'
  exact ⟨u, rfl, go_of (s := { s with heap := h' }) e c d (by decide) ⟨x, H, I1, ru, ⟨rfl, fun ys hy => by rw [I.list_inj hy hq]; exact hx⟩, st', fun b hb => (hf b hb).1⟩⟩
 done := by
  intro X hP hw hK hc i pins s σ H E I hf st hg
  subst hP hw hK
  obtain ⟨xs, hq, hx⟩ := hg
  obtain ⟨its, rv, p, hz⟩ := I.list hq
  obtain ⟨f0, f1, f2, f3, f4, f5⟩ := hf it (by simp)
  have hl := rv.length
  exact wpAny_pyNext_list_end (I.ok.hd hc) st p.isList (by simp; omega) fun h' eb => ⟨rfl, I.turned (t' := s.toks) (fun b o hb e => eb b o hb e) f0 f1 f3 f4 f5⟩
 self := fun _ _ _ _ _ st h => wpAny_pyIter_listiter st h
theorem turn_range {P : Program} {w : World} {K : PySem.W.Frag} {tg : Expr} (it : Addr) (lo : Int) (n : Nat) : Turn P w K tg (Itr lo n) [it] it (fun i h => IsRangeIter h it (lo + (i : Nat) * 1) ((n : Int) - (i : Nat)) 1) where
 mem := by simp
 obj := fun i h st b hb => by
  have e : b = it := by simpa using hb
  subst e
  exact ⟨_, st, fun v z => by
   have z' : Data.fields _ = Data.cell v := z
   cases z'⟩
 keep := fun i h h' st k => k it (by simp) _ st
 item := by
  intro X hP hw hK hc i pins s σ H E I hf st hg
  subst hP hw hK
  obtain ⟨f0, f1, f2, f3, f4, f5⟩ := hf it (by simp)
  have W := Walks.range (prog := X.prog) (w := X.w) (I.ok.hd hc) it lo 1 n
  refine W.item i s _ _ hg st fun v h' tk hv st' kk => ?_
  obtain ⟨t, rfl⟩ := hv
  have I1 : Inv X pins σ H { s with heap := h', toks := tk } := I.turned (fun b o hb e => kk b o (by simpa using hb) e) f0 f1 f3 f4 f5
  refine ⟨_, rfl, go_of (s := { s with heap := h', toks := tk }) (n := "range_iterator") st' rfl rfl (by decide) ⟨.int (lo + i), H, I1, ⟨t, ?_⟩, ⟨rfl, rfl⟩, st', fun b hb => (hf b hb).1⟩⟩
  rw [Int.mul_one]
 done := by
  intro X hP hw hK hc i pins s σ H E I hf st hg
  subst hP hw hK
  obtain ⟨f0, f1, f2, f3, f4, f5⟩ := hf it (by simp)
  exact wpAny_pyNext_range_end (I.ok.hd hc) st (by have : n ≤ i := hg; omega) fun h' eb => ⟨rfl, I.turned (t' := s.toks) (fun b o hb e => eb b o hb e) f0 f1 f3 f4 f5⟩
 self := fun _ _ _ _ _ st h => wpAny_pyIter_rangeiter st h
end L2
namespace L2
open PySem PySem.Spec PyProof.Rows
section
variable {X : Cx} {tg : Expr}
def iList (K : PySem.W.Frag) (tl : TE) : TI := fun σ H R => tl σ H fun x H1 => ∃ a, x = .ref a ∧ (∃ xs, SqL K H1 a xs) ∧ R (Itl K a) H1
theorem pi_list {l : Expr} {tl : TE} (hl : PE X l tl) : PI X tg l (iList X.K tl) := by
 intro pins s σ H R I h
 refine thn (hl pins s σ H _ I h) fun v s1 ⟨x, H1, I1, r1, q1⟩ => ?_
 obtain ⟨a, e, ⟨xs, hq⟩, q⟩ := q1
 subst e
 cases r1
 obtain ⟨its, rv, p, hz⟩ := I1.list hq
 refine wpAny_pyIter_list p.isList ?_
 refine ⟨s1.heap.objs.size, [s1.heap.objs.size], _, _, H1, rfl, I1.kept (t' := s1.toks) fun b o e => Heap.get?_push_of_some _ e, turn_list a _, ⟨_, Heap.get?_push_size _ rfl, rfl, rfl⟩, fun b hb => ?_, q⟩
 have e : b = s1.heap.objs.size := by simpa using hb
 subst e
 exact I1.fpOk (Nat.le_refl _) (I1.hok.fresh (Nat.le_refl _))
theorem range_it {pins : List (Addr × Obj)} {σ : St} {H : Hp} {s : Shared} {R : It → Hp → Prop} {E : Value → Shared → Prop} {lo hi : Int} {t u v : Tok} {tk : Nat} (I : Inv X pins σ H s) (h1 : -(2 ^ 62) ≤ lo) (h2 : lo < 2 ^ 62) (h3 : -(2 ^ 62) ≤ hi) (h4 : hi < 2 ^ 62)
  (q : R (Itr lo (hi - lo).toNat) H) : wpAny (model X.prog X.w) X.A (pyIter (.ref s.heap.objs.size)) (PIE X pins σ tg R) E { s with heap := s.heap.push { cls := .type "range", data := .fields #[.int lo t, .int hi u, .int 1 v] }, toks := tk } := by
 refine wpAny_pyIter_range (IsRange.new ..) (small_one h1 h2 h3 h4) ?_
 have I1 : Inv X pins σ H { s with heap := s.heap.push { cls := .type "range", data := .fields #[.int lo t, .int hi u, .int 1 v] }, toks := tk } := I.kept fun b o e => Heap.get?_push_of_some _ e
 refine ⟨(s.heap.push { cls := .type "range", data := .fields #[.int lo t, .int hi u, .int 1 v] }).objs.size, [(s.heap.push { cls := .type "range", data := .fields #[.int lo t, .int hi u, .int 1 v] }).objs.size], _, _, H, rfl,
  I1.kept (t' := tk) fun b o e => Heap.get?_push_of_some _ e, turn_range _ lo (hi - lo).toNat, ?_, fun b hb => ?_, q⟩
 ·have e1 : lo + ((0 : Nat) : Int) * 1 = lo := by simp
  have e2 : (((hi - lo).toNat : Nat) : Int) - ((0 : Nat) : Int) = Builtin.Range.rangeSize lo hi 1 := by rw [rangeSize_one]; split <;> omega
  show IsRangeIter _ _ (lo + ((0 : Nat) : Int) * 1) ((((hi - lo).toNat : Nat) : Int) - ((0 : Nat) : Int)) 1
  rw [e1, e2]
  exact Heap.get?_push_size _ rfl
 ·have e : b = (s.heap.push { cls := .type "range", data := .fields #[.int lo t, .int hi u, .int 1 v] }).objs.size := by simpa using hb
  subst e
  exact I1.fpOk (Nat.le_refl _) (I1.hok.fresh (Nat.le_refl _))
def iRng1 (ta : TA) : TI := fun σ H R => ta σ H fun vs H1 => ∃ j : Int, vs = [.int j] ∧ -(2 ^ 62) ≤ j ∧ j < 2 ^ 62 ∧ R (Itr 0 j.toNat) H1
def iRng2 (ta : TA) : TI := fun σ H R => ta σ H fun vs H1 => ∃ i j : Int, vs = [.int i, .int j] ∧ (-(2 ^ 62) ≤ i ∧ i < 2 ^ 62 ∧ -(2 ^ 62) ≤ j ∧ j < 2 ^ 62) ∧ R (Itr i (j - i).toNat) H1
theorem pi_range1 {a : Expr} {ta : TA} {p pos : Pos} (hg : Gl X "range") (hm : X.mg "range" = none) (ha : PA X [a] ta) (hs : starEach [a] X.env = [(false, eval a X.env)] := by rfl) : PI X tg (.Call (.Name "range" p) [a] [] pos) (iRng1 ta) := by
 intro pins s σ H R I h
 refine Call_ (ld_blt I hg hm boot_range (PyProof.Rows.callWith_type1 (thn (ha pos pins s σ H _ I h) fun us s1 ⟨vs, H1, I1, r1, q1⟩ => ?_) hs rfl))
 obtain ⟨j, e, q1, q2, q⟩ := q1
 subst e
 cases r1 with
 | cons r rr =>
  cases rr
  obtain ⟨t, rfl⟩ := r
  exact call_range_1 (range_it I1 (by omega) (by omega) q1 q2 (by simpa using q))
theorem pi_range2 {a b : Expr} {ta : TA} {p pos : Pos} (hg : Gl X "range") (hm : X.mg "range" = none) (ha : PA X [a, b] ta) (hs : starEach [a, b] X.env = [(false, eval a X.env), (false, eval b X.env)] := by rfl) (hs2 : starEach [b] X.env = [(false, eval b X.env)] := by rfl) :
  PI X tg (.Call (.Name "range" p) [a, b] [] pos) (iRng2 ta) := by
 intro pins s σ H R I h
 refine Call_ (ld_blt I hg hm boot_range (PyProof.Rows.callWith_type1 (thn (ha pos pins s σ H _ I h) fun us s1 ⟨vs, H1, I1, r1, q1⟩ => ?_) (by rw [hs, hs2]) (by rw [hs2]; rfl)))
 obtain ⟨i, j, e, ⟨q1, q2, q3, q4⟩, q⟩ := q1
 subst e
 cases r1 with
 | cons r rr =>
  cases rr with
  | cons r' rr =>
   cases rr
   obtain ⟨t, rfl⟩ := r
   obtain ⟨t', rfl⟩ := r'
   exact call_range_2 (range_it I1 q1 q2 q3 q4 q)
def tFor (wi : TI) (g : TG) (tb : TS) : TS := fun D σ H => wi σ H fun J H1 => ∃ W : Nat → Nat → St → Hp → Prop, (∃ m, W 0 m σ H1) ∧ ∀ i m σ H, W i m σ H →
 (J.stop i H ∧ D.nx σ H) ∨ (J.go i H ∧ ∃ N : St → Hp → Prop, (∀ σ' H', N σ' H' → ∃ m', m' < m ∧ W (i + 1) m' σ' H') ∧ ∀ x H', J.yld i H x H' → g x σ H' fun σ2 H2 => tb { D with nx := N, ct := N, bk := D.nx } σ2 H2)
def pinsAt (fp : List Addr) (h : Heap) : List (Addr × Obj) := fp.filterMap fun b => (h.get? b).map fun o => (b, o)
theorem mem_pinsAt {fp : List Addr} {h : Heap} {b : Addr} {o : Obj} (hb : b ∈ fp) (e : h.get? b = some o) : (b, o) ∈ pinsAt fp h := List.mem_filterMap.mpr ⟨b, hb, by rw [e]; rfl⟩
theorem of_pinsAt {fp : List Addr} {h : Heap} {p : Addr × Obj} (hp : p ∈ pinsAt fp h) : p.1 ∈ fp ∧ h.get? p.1 = some p.2 := by
 obtain ⟨b, hb, e⟩ := List.mem_filterMap.mp hp
 cases q : h.get? b with
 | none => rw [q] at e; cases e
 | some o =>
  rw [q] at e
  have e' : (b, o) = p := Option.some.inj e
  subst e'
  exact ⟨hb, q⟩
theorem Inv.pinned {pins : List (Addr × Obj)} {σ : St} {H : Hp} {s : Shared} {fp : List Addr} (I : Inv X pins σ H s) (hf : ∀ b ∈ fp, FpOk X pins H b) (ho : ∀ b ∈ fp, ∃ o, s.heap.get? b = some o ∧ ∀ v, o.data ≠ .cell v) : Inv X (pins ++ pinsAt fp s.heap) σ H s :=
 I.pins_of fun p hp => (List.mem_append.mp hp).elim (fun z => I.pin p (List.mem_append_right _ z)) fun z => by
  obtain ⟨hb, e⟩ := of_pinsAt z
  obtain ⟨f0, f1, f2, _⟩ := hf p.1 hb
  obtain ⟨o, e', d⟩ := ho p.1 hb
  rw [e] at e'; cases e'
  exact ⟨e, f0, f1, f2, d⟩
theorem Inv.unpinned {pins pl : List (Addr × Obj)} {σ : St} {H : Hp} {s : Shared} (I : Inv X (pins ++ pl) σ H s) : Inv X pins σ H s := I.pins_of fun p hp => I.pin p (List.mem_append_right _ (List.mem_append_left _ hp))
theorem ps_for {iter : Expr} {body : List Stmt} {wi : TI} {g : TG} {tb : TS} {pos : Pos} (hp : PassesOwn (model X.prog X.w) X.A X.env X.xe) (hc : X.calm = true) (hi : PI X tg iter wi) (hg : PG X tg g) (hb : PSs X body tb)
  (hs : ∀ x, foldedSetIterable iter X.env x = pure x := by intro _; rfl) : PS X (.For tg iter body [] pos) (tFor wi g tb) := by
 intro pins s σ H D I h
 refine wpAny_For (thn (hi pins s σ H _ I h) fun v s1 h1 => thn h1 fun itv s2 h2 => ?_) hs
 obtain ⟨it, fp, tn, J, H2, e, I2, T, st2, f2, W, ⟨m0, w0⟩, turn⟩ := h2
 subst e
 -- what stays true of the iterator's objects through the loop
 have stat : ∀ {H' : Hp}, (∀ b ∈ fp, H' b = none) → ∀ b ∈ fp, FpOk X pins H' b := fun hn b hb => ⟨hn b hb, (f2 b hb).2⟩
 refine codeAny_forLoop_any (fun n s' => ∃ i σ' H', Inv X pins σ' H' s' ∧ tn i s'.heap ∧ (∀ b ∈ fp, H' b = none) ∧ W i n σ' H') ?_ m0 ⟨0, σ, H2, I2, st2, fun b hb => (f2 b hb).1, w0⟩
 rintro n s3 ⟨i, σ3, H3, I3, st3, fr3, w3⟩
 rcases turn i n σ3 H3 w3 with ⟨stop, qn⟩ | ⟨go, N, hN, step⟩
 ·refine wpAny_passesOwn hp (thn (T.done X rfl rfl rfl hc i pins s3 σ3 H3 X.xe I3 (stat fr3) st3 stop) fun r s4 ⟨hr, I4⟩ => ?_)
  subst hr
  exact wpAny_execs_nil ⟨σ3, H3, I4, qn⟩
 ·refine wpAny_passesOwn hp (thn (T.item X rfl rfl rfl hc i pins s3 σ3 H3 X.xe I3 (stat fr3) st3 go) fun r s4 ⟨u, hr, h4⟩ => ?_)
  subst hr
  refine wpAny_passesOwn hp (thn h4 fun _ s5 ⟨x, H5, I5, r5, y5, st5, fr5⟩ => ?_)
  have I5' := I5.pinned (stat fr5) (T.obj _ _ st5)
  refine wpAny_passesOwn hp (thn (hg _ s5 σ3 H5 x u _ I5' r5 (step x H5 y5)) fun _ s6 ⟨σ6, H6, I6, q6⟩ => ?_)
  refine wpAny_passesOwn hp (thn (hb _ s6 σ6 H6 _ I6 q6) fun f s7 q7 => ?_)
  have again : ∀ {σ7 : St} {H7 : Hp}, Inv X (pins ++ pinsAt fp s5.heap) σ7 H7 s7 → N σ7 H7 → ∃ m, m < n ∧ ∃ i σ' H', Inv X pins σ' H' s7 ∧ tn i s7.heap ∧ (∀ b ∈ fp, H' b = none) ∧ W i m σ' H' := fun {σ7 H7} I7 n7 => by
   obtain ⟨m', hm, w7⟩ := hN σ7 H7 n7
   refine ⟨m', hm, i + 1, σ7, H7, I7.unpinned, T.keep _ _ _ st5 fun b hb o e => (I7.pin (b, o) (List.mem_append_right _ (List.mem_append_right _ (mem_pinsAt hb e)))).1, fun b hb => ?_, w7⟩
   obtain ⟨o, e, d⟩ := T.obj _ _ st5 b hb
   exact (I7.pin (b, o) (List.mem_append_right _ (List.mem_append_right _ (mem_pinsAt hb e)))).2.1
  cases f with
  | next => obtain ⟨σ7, H7, I7, n7⟩ := q7; exact again I7 n7
  | cont => obtain ⟨σ7, H7, I7, n7⟩ := q7; exact again I7 n7
  | brk => obtain ⟨σ7, H7, I7, q7⟩ := q7; exact ⟨σ7, H7, I7.unpinned, q7⟩
  | ret v => obtain ⟨x7, σ7, H7, I7, r7, q7⟩ := q7; exact ⟨x7, σ7, H7, I7.unpinned, r7, q7⟩
end
end L2
namespace L2
open PySem PySem.Spec PyProof.Rows
abbrev R2 := V → V → Hp → VK → Prop
def OpR (X : Cx) (f : Value → Value → Sem Value) (r : R2) : Prop :=
 ∀ (pins : List (Addr × Obj)) (s : Shared) (σ : St) (H : Hp) (x y : V) (v u : Value) (Q : VK), Inv X pins σ H s → RelV x v → RelV y u → r x y H Q →
  wpAny (model X.prog X.w) X.A (f v u) (EP X pins σ Q) X.xe s
def UnR (X : Cx) (f : Value → Sem Value) (r : V → Hp → VK → Prop) : Prop :=
 ∀ (pins : List (Addr × Obj)) (s : Shared) (σ : St) (H : Hp) (x : V) (v : Value) (Q : VK), Inv X pins σ H s → RelV x v → r x H Q →
  wpAny (model X.prog X.w) X.A (f v) (EP X pins σ Q) X.xe s
def CallR (X : Cx) (f : Value) (r : List V → Hp → VK → Prop) : Prop :=
 ∀ (pins : List (Addr × Obj)) (s : Shared) (σ : St) (H : Hp) (xs : List V) (us : List Value) (Q : VK), Inv X pins σ H s → Vals xs us → r xs H Q →
  wpAny (model X.prog X.w) X.A (call f us) (EP X pins σ Q) X.xe s
def tOp (r : R2) (ta tb : TE) : TE := fun σ H Q => ta σ H fun x H1 => tb σ H1 fun y H2 => r x y H2 Q
def tUn (r : V → Hp → VK → Prop) (ta : TE) : TE := fun σ H Q => ta σ H fun x H1 => r x H1 Q
def rI (C : Int → Int → Prop) (g : Int → Int → V) : R2 := fun x y H Q => ∃ i j, x = .int i ∧ y = .int j ∧ C i j ∧ Q (g i j) H
def rI0 (g : Int → Int → V) : R2 := fun x y H Q => ∃ i j, x = .int i ∧ y = .int j ∧ Q (g i j) H
def rU (g : Int → V) : V → Hp → VK → Prop := fun x H Q => ∃ i, x = .int i ∧ Q (g i) H
section
variable {X : Cx} {a b c : Expr} {ta tb tc : TE} {pos : Pos}
theorem binT (ha : PE X a ta) (hb : PE X b tb) {pins : List (Addr × Obj)} {s : Shared} {σ : St} {H : Hp} {R : V → V → Hp → Prop} (I : Inv X pins σ H s)
  (h : ta σ H fun x H1 => tb σ H1 fun y H2 => R x y H2) {Q : Value → Shared → Prop} {f : Value → Value → Sem Value}
  (hf : ∀ v u s2 x y H2, Inv X pins σ H2 s2 → RelV x v → RelV y u → R x y H2 → wpAny (model X.prog X.w) X.A (f v u) Q X.xe s2) :
  wpAny (model X.prog X.w) X.A (eval a X.env) (fun v s₁ => wpAny (model X.prog X.w) X.A (eval b X.env) (fun u s₂ => wpAny (model X.prog X.w) X.A (f v u) Q X.xe s₂) X.xe s₁) X.xe s := by
 refine thn (ha pins s σ H _ I h) fun v s1 ⟨x, H1, I1, r1, q1⟩ => ?_
 refine thn (hb pins s1 σ H1 _ I1 q1) fun u s2 ⟨y, H2, I2, r2, q2⟩ => ?_
 exact hf v u s2 x y H2 I2 r1 r2 q2
theorem pe_op {op : Operator} {r : R2} (ho : OpR X (binaryOp op) r) (ha : PE X a ta) (hb : PE X b tb) : PE X (.BinOp a op b pos) (tOp r ta tb) := by
 intro pins s σ H Q I h
 exact wpAny_BinOp (binT ha hb I h fun v u s2 x y H2 I2 rx ry q => ho pins s2 σ H2 x y v u Q I2 rx ry q)
theorem pe_un {op : UnaryOp} {r : V → Hp → VK → Prop} (ho : UnR X (unaryOp op) r) (ha : PE X a ta) : PE X (.UnaryOp op a pos) (tUn r ta) := by
 intro pins s σ H Q I h
 exact UnaryOp_ (thn (ha pins s σ H _ I h) fun v s1 ⟨x, H1, I1, r1, q1⟩ => ho pins s1 σ H1 x v Q I1 r1 q1)
theorem opI {f : Value → Value → Sem Value} {C : Int → Int → Prop} {g : Int → Int → Int}
  (rule : ∀ (i j : Int) (t u : Tok) (s : Shared) (Q : Value → Shared → Prop) (E : Value → Shared → Prop), C i j → Q (.int (g i j) s.toks) { s with toks := s.toks + 1 } → wpAny (model X.prog X.w) X.A (f (.int i t) (.int j u)) Q E s) :
  OpR X f (rI C fun i j => .int (g i j)) := by
 intro pins s σ H x y v u Q I rx ry h
 obtain ⟨i, j, rfl, rfl, hc, q⟩ := h
 obtain ⟨t, rfl⟩ := rx
 obtain ⟨t', rfl⟩ := ry
 exact rule i j t t' s _ _ hc ⟨.int (g i j), H, I.tok _, ⟨_, rfl⟩, q⟩
theorem opI0 {f : Value → Value → Sem Value} {g : Int → Int → Int}
  (rule : ∀ (i j : Int) (t u : Tok) (s : Shared) (Q : Value → Shared → Prop) (E : Value → Shared → Prop), Q (.int (g i j) s.toks) { s with toks := s.toks + 1 } → wpAny (model X.prog X.w) X.A (f (.int i t) (.int j u)) Q E s) :
  OpR X f (rI0 fun i j => .int (g i j)) := by
 intro pins s σ H x y v u Q I rx ry h
 obtain ⟨i, j, rfl, rfl, q⟩ := h
 obtain ⟨t, rfl⟩ := rx
 obtain ⟨t', rfl⟩ := ry
 exact rule i j t t' s _ _ ⟨.int (g i j), H, I.tok _, ⟨_, rfl⟩, q⟩
theorem opB0 {f : Value → Value → Sem Value} {g : Int → Int → Bool}
  (rule : ∀ (i j : Int) (t u : Tok) (s : Shared) (Q : Value → Shared → Prop) (E : Value → Shared → Prop), Q (.bool (g i j)) s → wpAny (model X.prog X.w) X.A (f (.int i t) (.int j u)) Q E s) :
  OpR X f (rI0 fun i j => .bl (g i j)) := by
 intro pins s σ H x y v u Q I rx ry h
 obtain ⟨i, j, rfl, rfl, q⟩ := h
 obtain ⟨t, rfl⟩ := rx
 obtain ⟨t', rfl⟩ := ry
 exact rule i j t t' s _ _ ⟨.bl (g i j), H, I, rfl, q⟩
def CPow (i j : Int) : Prop := 0 ≤ j ∧ j ≤ 1000000 ∧ i.natAbs < 2 ^ 64
def CMul (i j : Int) : Prop := (-(2 ^ 64) < i ∧ i < 2 ^ 64) ∨ (-(2 ^ 64) < j ∧ j < 2 ^ 64)
theorem CMul.ok {i j : Int} (h : CMul i j) : IntMulOk i j := by
 rcases h with ⟨h1, h2⟩ | ⟨h1, h2⟩
 ·exact .of_left (intBits_le_64 h1 h2)
 ·exact .of_right (intBits_le_64 h1 h2)
theorem op_add : OpR X (binaryOp .Add) (rI0 fun i j => .int (i + j)) := opI0 fun _ _ _ _ _ _ _ q => add_int q
theorem op_sub : OpR X (binaryOp .Sub) (rI0 fun i j => .int (i - j)) := opI0 fun _ _ _ _ _ _ _ q => sub_int q
theorem op_modN : OpR X (binaryOp .Mod) (rI (fun _ j => j ≠ 0) fun i j => .int (i.fmod j)) := opI fun _ _ _ _ _ _ _ hc q => mod_int' hc q
theorem op_pow : OpR X (binaryOp .Pow) (rI CPow fun i j => .int (i ^ j.toNat)) := opI fun _ _ _ _ _ _ _ hc q => pow_int_small hc.1 hc.2.1 hc.2.2 q
theorem unI {f : Value → Sem Value} {g : Int → Int}
  (rule : ∀ (i : Int) (t : Tok) (s : Shared) (Q : Value → Shared → Prop) (E : Value → Shared → Prop), Q (.int (g i) s.toks) { s with toks := s.toks + 1 } → wpAny (model X.prog X.w) X.A (f (.int i t)) Q E s) :
  UnR X f (rU fun i => .int (g i)) := by
 intro pins s σ H x v Q I rx h
 obtain ⟨i, rfl, q⟩ := h
 obtain ⟨t, rfl⟩ := rx
 exact rule i t s _ _ ⟨.int (g i), H, I.tok _, ⟨_, rfl⟩, q⟩
theorem un_neg : UnR X (unaryOp .USub) (rU fun i => .int (-i)) := unI fun _ _ _ _ _ q => neg_int q
end
section
variable {X : Cx} {a b c : Expr} {ta tb tc : TE} {pos : Pos}
theorem fin_bl {pins : List (Addr × Obj)} {σ : St} {H : Hp} {s : Shared} {Q : VK} {k k' : Bool} (I : Inv X pins σ H s) (q : Q (.bl k) H) (e : k = k') : EP X pins σ Q (.bool k') s := by
 subst e
 exact ⟨.bl k, H, I, rfl, q⟩
theorem op_lt : OpR X (compareOp .Lt) (rI0 fun i j => .bl (decide (i < j))) := opB0 fun _ _ _ _ _ _ _ q => lt_int q
theorem op_le : OpR X (compareOp .LtE) (rI0 fun i j => .bl (decide (i ≤ j))) := opB0 fun _ _ _ _ _ _ _ q => le_int q
theorem op_gt : OpR X (compareOp .Gt) (rI0 fun i j => .bl (decide (j < i))) := opB0 fun _ _ _ _ _ _ _ q => gt_int q
theorem op_ge : OpR X (compareOp .GtE) (rI0 fun i j => .bl (decide (j ≤ i))) := opB0 fun _ _ _ _ _ _ _ q => ge_int q
theorem op_isN : OpR X (compareOp .Is) (fun x y H Q => y = .non ∧ Q (.bl (decide (x = .non))) H) := by
 intro pins s σ H x y v u Q I rx ry h
 obtain ⟨rfl, q⟩ := h
 cases ry
 refine is_none_gen (fin_bl I q ?_)
 cases x <;> first
  | (cases rx; rfl)
  | (obtain ⟨t, rfl⟩ := rx; rfl)
theorem OpR.or {f : Value → Value → Sem Value} {r r' : R2} (h : OpR X f r) (h' : OpR X f r') : OpR X f (fun x y H Q => r x y H Q ∨ r' x y H Q) := by
 intro pins s σ H x y v u Q I rx ry q
 rcases q with q | q
 ·exact h pins s σ H x y v u Q I rx ry q
 ·exact h' pins s σ H x y v u Q I rx ry q
theorem zZ (b : Expr) {op : CmpOp} (h : op ≠ .In := by decide) (h2 : op ≠ .NotIn := by decide) : behindInMarks op b = false := by
 have e1 : (op == CmpOp.In) = false := by cases op <;> first | rfl | exact absurd rfl h
 have e2 : (op == CmpOp.NotIn) = false := by cases op <;> first | rfl | exact absurd rfl h2
 cases b <;> simp [behindInMarks, e1, e2]
theorem pe_cmpR {op : CmpOp} {r : R2} (ho : OpR X (compareOp op) r) (ha : PE X a ta) (hb : PE X b tb) (hm : behindInMarks op b = false) : PE X (.Compare a [op] [b] pos) (tOp r ta tb) := by
 intro pins s σ H Q I h
 exact wpAny_Compare1 (binT ha hb I h fun v u s2 x y H2 I2 rx ry q => ho pins s2 σ H2 x y v u Q I2 rx ry q) hm
def tTest (t : TE) : TT := fun σ H Q => t σ H fun x H' => ∃ k, x = .bl k ∧ Q k H'
theorem pt_cmpR {op : CmpOp} {r : R2} (ho : OpR X (compareOp op) r) (ha : PE X a ta) (hb : PE X b tb) (hm : behindInMarks op b = false) : PT X (.Compare a [op] [b] pos) (tTest (tOp r ta tb)) := by
 intro pins s σ H Q I h
 refine wpAny_isTrue_Compare1 (thn (ha pins s σ H _ I h) fun v s1 ⟨x, H1, I1, r1, q1⟩ => thn (hb pins s1 σ H1 _ I1 q1) fun u s2 ⟨y, H2, I2, r2, q2⟩ =>
  thn (ho pins s2 σ H2 x y v u _ I2 r1 r2 q2) fun c s3 ⟨z, H3, I3, r3, k, e, q3⟩ => ?_) hm
 subst e
 cases r3
 exact wpAny_truthy_bool ⟨H3, I3, q3⟩
def tChain (r r' : R2) (ta tb tc : TE) : TE := fun σ H Q => ta σ H fun x H1 => tb σ H1 fun y H2 => r x y H2 fun z H3 => ∃ k, z = .bl k ∧
 (if k = true then tc σ H3 fun w' H4 => r' y w' H4 Q else Q (.bl false) H3)
theorem pe_chain {op op' : CmpOp} {r r' : R2} (ho : OpR X (compareOp op) r) (ho' : OpR X (compareOp op') r') (ha : PE X a ta) (hb : PE X b tb) (hc : PE X c tc)
  (hm : lastMarks [op, op'] [b, c] = false := by with_unfolding_all rfl) : PE X (.Compare a [op, op'] [b, c] pos) (tChain r r' ta tb tc) := by
 intro pins s σ H Q I h
 refine Compare_chain (thn (ha pins s σ H _ I h) fun v s1 ⟨x, H1, I1, r1, q1⟩ => chain_link (thn (hb pins s1 σ H1 _ I1 q1) fun u s2 ⟨y, H2, I2, r2, q2⟩ =>
  thn (ho pins s2 σ H2 x y v u _ I2 r1 r2 q2) fun d s3 ⟨z, H3, I3, r3, k, e, q3⟩ => ?_)) hm
 subst e
 cases r3
 refine wpAny_truthy_bool ?_
 cases k with
 | false => exact ite_ff ⟨.bl false, H3, I3, rfl, q3⟩
 | true => exact ite_tt (chain_last (thn (hc pins s3 σ H3 _ I3 q3) fun w' s4 ⟨z', H4, I4, r4, q4⟩ => ho' pins s4 σ H4 y z' u w' Q I4 r2 r4 q4))
theorem line63 : (sizeLine : Nat) < 2 ^ 63 := by rw [sizeLine_eq]; decide
theorem op_add_str : OpR X (binaryOp .Add) (fun x y H Q => ∃ i j, x = .str i ∧ y = .str j ∧ i.length + j.length ≤ sizeLine ∧ Q (.str (i ++ j)) H) := by
 intro pins s σ H x y v u Q I rx ry h
 obtain ⟨i, j, rfl, rfl, hz, q⟩ := h
 obtain ⟨t, rfl⟩ := rx
 obtain ⟨t', rfl⟩ := ry
 exact add_str (fun t' tk => ⟨.str (i ++ j), H, I.tok _, ⟨_, rfl⟩, q⟩) hz
theorem vals1 {x : V} {us : List Value} (r : Vals [x] us) : ∃ u, us = [u] ∧ RelV x u := by
 cases r with
 | cons r1 r2 => cases r2; exact ⟨_, rfl, r1⟩
theorem vals2 {x y : V} {us : List Value} (r : Vals [x, y] us) : ∃ u w', us = [u, w'] ∧ RelV x u ∧ RelV y w' := by
 cases r with
 | cons r1 r2 =>
  cases r2 with
  | cons r3 r4 => cases r4; exact ⟨_, _, rfl, r1, r3⟩
theorem call_abs : CallR X (.builtin "abs") (fun xs H Q => ∃ i, xs = [.int i] ∧ Q (.int (if i < 0 then -i else i)) H) := by
 intro pins s σ H xs us Q I r h
 obtain ⟨i, rfl, q⟩ := h
 obtain ⟨u, rfl, t, rfl⟩ := vals1 r
 exact call_abs_int fun u tk => ⟨.int (if i < 0 then -i else i), H, I.tok _, ⟨_, rfl⟩, q⟩
theorem call_min2 (hc : X.calm = true) : CallR X (.builtin "min") (fun xs H Q => ∃ i j, xs = [.int i, .int j] ∧ Q (.int (if j < i then j else i)) H) := by
 intro pins s σ H xs us Q I r h
 obtain ⟨i, j, rfl, q⟩ := h
 obtain ⟨u, w', rfl, ⟨t, rfl⟩, ⟨t', rfl⟩⟩ := vals2 r
 refine min_two_ints (I.ok.hd hc) fun h' tk k => ⟨_, H, I.kept k, ?_, q⟩
 by_cases hj : j < i
 ·rw [if_pos hj, if_pos hj]; exact ⟨_, rfl⟩
 ·rw [if_neg hj, if_neg hj]; exact ⟨_, rfl⟩
end
end L2
namespace L2
open PySem PySem.Spec PyProof.Rows
structure ObjM (h : Heap) (x dx C : Addr) (mA : Str → Option Value) : Prop where
 obj : h.get? x = some (PySem.W.instObj C dx)
 ns : h.Ns1 dx mA
 ne : dx ≠ x
theorem lookIn_ns {h : Heap} {dx : Addr} {mA : Str → Option Value} (n : h.Ns1 dx mA) : ∃ od, h.get? dx = some od ∧ ∀ name, PySem.W.lookIn name od = some (mA name) := by
 obtain ⟨o, es, ep, ho, hd, hk, _, hm⟩ := n
 refine ⟨o, ho, fun name => ?_⟩
 have e := hm name
 unfold nsFind findBy at e
 rw [← Array.find?_toList] at e
 unfold PySem.W.lookIn
 rw [hd]
 dsimp only
 split
 ·rename_i y q
  rw [q] at e
  exact congrArg some e
 ·rename_i q
  rw [q] at e
  have a : es.toList.any (·.refKey) = false := by
   rw [List.any_eq_false]
   intro y hy
   obtain ⟨z, t, hkey⟩ := hk y (Array.mem_toList_iff.mp hy)
   simp [DictEntry.refKey, hkey]
  have a' : ¬ es.toList.any (·.refKey) = true := by rw [a]; exact Bool.false_ne_true
  rw [if_neg a']
  exact congrArg some e
theorem ObjM.look {h : Heap} {x dx C : Addr} {mA : Str → Option Value} (I : ObjM h x dx C mA) : ∃ od, PySem.W.InstAt h x (PySem.W.instObj C dx) C (some od) ∧ ∀ name, PySem.W.lookIn name od = some (mA name) :=
 let ⟨od, ho, hl⟩ := lookIn_ns I.ns
 ⟨od, ⟨I.obj, rfl, rfl, ho⟩, hl⟩
section
variable {prog : Program} {w : World} {A : Around} {E : Value → Shared → Prop} {s : Shared} {K : PySem.W.Frag} {x dx C f : Addr} {mA : Str → Option Value} {name : Str} {v : Value}
theorem get_map {expr : Bool} {Q : Value → Shared → Prop} (X : K.In s.heap) (I : ObjM s.heap x dx C mA) (hg : PySem.W.plainGet K C name = true) (hh : PySem.W.hasDictIn K C = true)
  (ha : PySem.W.findIn K (.ref C) name = some none) (hv : mA name = some v) (hv' : PySem.W.handedIn v = true) (h : Q v { s with toks := s.toks + 1 }) :
  wpAny (model prog w) A (getAttr (.ref x) name expr) Q E s := by
 obtain ⟨od, J, hl⟩ := I.look
 exact PySem.W.get_value X J (PySem.W.plainGet_of hg).1 (PySem.W.findObj_own hh ha rfl (by rw [hl, hv])) hv' h
theorem get_meth {pl : Sem Bool} {Q : Value × List Value → Shared → Prop} (X : K.In s.heap) (I : ObjM s.heap x dx C mA) (hg : PySem.W.plainGet K C name = true)
  (hf : PySem.W.findIn K (.ref C) name = some (some (.ref f))) (ht : PySem.W.isFn K (.ref f) = true) (hv : mA name = none) (h : Q (.ref f, [.ref x]) s) :
  wpAny (model prog w) A (getMethod (.ref x) name pl) Q E s := by
 obtain ⟨od, J, hl⟩ := I.look
 exact PySem.W.method_fn X J (PySem.W.plainGet_of hg).1 (PySem.W.plainGet_of hg).2 hf (beq_iff_eq.mp ht) (by show (PySem.W.lookIn name od).map (·.isSome) = some false; rw [hl, hv]; rfl) h
theorem set_map {ns : List Str} {Q : Unit → Shared → Prop} (X : K.In s.heap) (I : ObjM s.heap x dx C mA)
  (hs : PySem.W.findIn K (.ref C) "__setattr__" = some (some (.builtin "object.__setattr__"))) (hp : PySem.W.plainOver K C = true) (ht : PySem.W.takerIn K C name = some none) (hh : PySem.W.hasDictIn K C = true)
  (hw : PySem.Within mA ns) (hsz : ns.length ≤ sizeLine)
  (h : ∀ h', ObjM h' x dx C (fun y => if y = name then some v else mA y) → Heap.SameBut dx s.heap h' → Q () { s with heap := h', toks := s.toks + 2 }) :
  wpAny (model prog w) A (setAttr (.ref x) name v) Q E s := by
 obtain ⟨od, J, hl⟩ := I.look
 refine PySem.W.set_plain X J hs (PySem.W.osa_open (s := { s with toks := s.toks + 1 }) (r := none) X J hp ht fun b => ?_)
 obtain ⟨cd, hc, hd'⟩ := PySem.W.any_some hh
 have hx : s.heap.get? x = some ⟨.ref C, some dx, .plain, #[]⟩ := I.obj
 refine wpAny_bind (wpAny_pure (wpAny_bind (wpAny_bind (wpAny_loadPart hx (wpAny_bind (PySem.W.Looks.here (s := { s with toks := s.toks + 1 }) (PySem.W.looks_clsIn X hc) ?_))))))
 rw [hd']
 refine wpAny_pure (a := some dx) (wpAny_bind (wpAny_pure (wpAny_bind ?_)))
 refine wpAny_nsSet1 (s := { s with toks := s.toks + 1 }) I.ns fun h' hn2 hs2 => ?_
 obtain ⟨oD, esD, epD, hoD, hdD, hcD⟩ := hn2.count (PySem.Within.cons name v hw)
 refine wpAny_bind (wpAny_lookBehind hoD (by rw [hdD]; exact pastItsLine_dict (Nat.le_trans hcD (by rw [List.length_cons]; omega))) ?_)
 exact wpAny_pure (h _ ⟨(hs2.2 _ (Ne.symm I.ne)).trans I.obj, hn2, I.ne⟩ hs2)
theorem make_map {R : Result → Shared → Prop} {vs : List Value} {kw : List (Str × Value)} (X : K.In s.heap) (hm : PySem.W.makesIn K C = true)
  (hi : PySem.W.findIn K (.ref C) "__init__" = some (some (.ref f))) (hf : PySem.W.typeIn K (.ref f) = some (.type "function"))
  (h : codeAny (model prog w) (A.under (.builtin "type.__call__" ⟨.ref C :: vs, kw⟩)) (.call (.ref f) ⟨.ref (s.heap.objs.size + 1) :: vs, kw⟩) (PySem.W.InitBack (s.heap.objs.size + 1) R)
   { s with heap := (s.heap.push PySem.W.emptyDict).push (PySem.W.instObj C s.heap.objs.size) }) :
  codeAny (model prog w) A (.call (.ref C) ⟨vs, kw⟩) R s := by
 obtain ⟨hh, g, d, t, os⟩ := s
 exact PySem.W.make_core (PySem.W.makes_of X hm) (PySem.W.looks_findIn X hi) (fun self => PySem.W.bind_fn X self hf) (.inl rfl) h
end
def putF (f : Str) (v : V) : List (Str × V) → List (Str × V)
 | [] => [(f, v)]
 | (g, x) :: r => if g = f then (g, v) :: r else (g, x) :: putF f v r
theorem lookup_putF (f g : Str) (v : V) : ∀ fs : List (Str × V), (putF f v fs).lookup g = if g = f then some v else fs.lookup g
 | [] => by
  show List.lookup g [(f, v)] = _
  by_cases h : g = f
  ·have hb : (g == f) = true := beq_iff_eq.mpr h
   simp only [List.lookup, hb, if_pos h]
  ·have hb : (g == f) = false := beq_eq_false_iff_ne.mpr h
   simp only [List.lookup, hb, if_neg h]
 | (k, x) :: r => by
  have ih := lookup_putF f g v r
  rw [show putF f v ((k, x) :: r) = (if k = f then (k, v) :: r else (k, x) :: putF f v r) from rfl]
  by_cases hk : k = f
  ·rw [if_pos hk]
   by_cases h : g = k
   ·have hb : (g == k) = true := beq_iff_eq.mpr h
    simp only [List.lookup, hb, if_pos (h.trans hk)]
   ·have hb : (g == k) = false := beq_eq_false_iff_ne.mpr h
    simp only [List.lookup, hb, if_neg (fun e : g = f => h (e.trans hk.symm))]
  ·rw [if_neg hk]
   by_cases h : g = k
   ·have hb : (g == k) = true := beq_iff_eq.mpr h
    simp only [List.lookup, hb, if_neg (fun e : g = f => hk (h.symm.trans e))]
   ·have hb : (g == k) = false := beq_eq_false_iff_ne.mpr h
    simp only [List.lookup, hb]
    exact ih
theorem keys_putF (f : Str) (v : V) : ∀ fs : List (Str × V), f ∈ (putF f v fs).map (·.1) ∧ ∀ g, g ∈ fs.map (·.1) → g ∈ (putF f v fs).map (·.1)
 | [] => ⟨by simp [putF], fun g h => by simp at h⟩
 | (k, x) :: r => by
  obtain ⟨i1, i2⟩ := keys_putF f v r
  rw [show putF f v ((k, x) :: r) = (if k = f then (k, v) :: r else (k, x) :: putF f v r) from rfl]
  by_cases hk : k = f
  ·rw [if_pos hk]
   subst hk
   exact ⟨by simp, fun g h => by simpa using h⟩
  ·rw [if_neg hk]
   refine ⟨?_, fun g h => ?_⟩
   ·rw [List.map_cons]
    exact List.mem_cons_of_mem _ i1
   ·rw [List.map_cons] at h ⊢
    rcases List.mem_cons.mp h with e | e
    ·exact List.mem_cons.mpr (.inl e)
    ·exact List.mem_cons_of_mem _ (i2 g e)
theorem length_putF (f : Str) (v : V) : ∀ fs : List (Str × V), (putF f v fs).length ≤ fs.length + 1
 | [] => by simp [putF]
 | (k, x) :: r => by
  have ih := length_putF f v r
  rw [show putF f v ((k, x) :: r) = (if k = f then (k, v) :: r else (k, x) :: putF f v r) from rfl]
  by_cases hk : k = f
  ·rw [if_pos hk, List.length_cons, List.length_cons]; omega
  ·rw [if_neg hk, List.length_cons, List.length_cons]; omega
theorem RelO.some_of {v : V} {o : Option Value} (r : RelO (some v) o) : ∃ u, o = some u ∧ RelV v u := by
 cases o with
 | none => exact (show False from r).elim
 | some u => exact ⟨u, rfl, r⟩
theorem RelO.none_of {o : Option Value} (r : RelO none o) : o = none := by
 cases o with
 | none => rfl
 | some u => exact (show False from r).elim
theorem handed_of {v : V} {u : Value} (r : RelV v u) : PySem.W.handedIn u = true := by
 cases v with
 | non => cases (show u = Value.none from r); rfl
 | bl b => cases (show u = Value.bool b from r); rfl
 | int i => obtain ⟨t, e⟩ := (show ∃ t, u = Value.int i t from r); cases e; rfl
 | str x => obtain ⟨t, e⟩ := (show ∃ t, u = Value.str x t from r); cases e; rfl
 | byt b => obtain ⟨t, e⟩ := (show ∃ t, u = Value.bytes b t from r); cases e; rfl
 | flt b => obtain ⟨t, e⟩ := (show ∃ t, u = Value.float b t from r); cases e; rfl
 | ref a => cases (show u = Value.ref a from r); rfl
 | ty n => cases (show u = Value.type n from r); rfl
section
variable {P : Program} {w : World} {H H' : Hp} {h h' : Heap} {a C dx : Addr} {fs fs' : List (Str × V)}
theorem ins_get (hok : HOk P w H h) (e : H a = some (.ins C dx fs)) : ∃ mA, ObjM h a dx C mA ∧ (∀ f, RelO (fs.lookup f) (mA f)) ∧ PySem.Within mA (fs.map (·.1)) ∧ fs.length ≤ 1000 ∧ H dx = some (.own a) := by
 obtain ⟨d, z, ne, ob, mA, n, r, q⟩ := (show ObjOk P w H h a (.ins C dx fs) from hok a _ e)
 exact ⟨mA, ⟨ob, n, ne⟩, r, q, z, d⟩
end
structure Cls (K : PySem.W.Frag) (C : Addr) : Prop where
 pg : PySem.W.plainGet K C Str.empty = true
 hd : PySem.W.hasDictIn K C = true
 po : PySem.W.plainOver K C = true
 sa : PySem.W.findIn K (.ref C) "__setattr__" = some (some (.builtin "object.__setattr__"))
theorem Cls.get {K : PySem.W.Frag} {C : Addr} (c : Cls K C) (f : Str) : PySem.W.plainGet K C f = true := c.pg
def NoAttr (K : PySem.W.Frag) (C : Addr) (f : Str) : Prop := PySem.W.findIn K (.ref C) f = some none
theorem NoAttr.taker {K : PySem.W.Frag} {C : Addr} {f : Str} (n : NoAttr K C f) : PySem.W.takerIn K C f = some none := by
 unfold PySem.W.takerIn
 rw [show PySem.W.findIn K (.ref C) f = some none from n]
 rfl
structure Meth (K : PySem.W.Frag) (C : Addr) (m : Str) (f : Addr) : Prop where
 at_ : PySem.W.findIn K (.ref C) m = some (some (.ref f))
 fn : PySem.W.isFn K (.ref f) = true
 kp : PySem.W.keepIn K (.ref f) = true
section
variable {X : Cx} {pins : List (Addr × Obj)} {σ : St} {H : Hp} {s : Shared} {a C dx : Addr} {fs : List (Str × V)} {f : Str} {v : V} {A : Around} {E : Value → Shared → Prop}
theorem getattr_ok {b : Bool} {Q : Value → Shared → Prop} (I : Inv X pins σ H s) (e : H a = some (.ins C dx fs)) (c : Cls X.K C) (n : NoAttr X.K C f) (l : fs.lookup f = some v)
  (h : ∀ u s', Inv X pins σ H s' → RelV v u → Q u s') : wpAny (model X.prog X.w) A (getAttr (.ref a) f b) Q E s := by
 obtain ⟨mA, O, r, _, _, _⟩ := ins_get I.hok e
 obtain ⟨u, hu, ru⟩ := RelO.some_of (v := v) (o := mA f) (by rw [← l]; exact r f)
 exact get_map I.kIn O (c.get f) c.hd n hu (handed_of ru) (h u _ (I.tok _) ru)
theorem getmeth_ok {m : Str} {g : Addr} {pl : Sem Bool} {Q : Value × List Value → Shared → Prop} (I : Inv X pins σ H s) (e : H a = some (.ins C dx fs)) (c : Cls X.K C) (k : Meth X.K C m g) (l : fs.lookup m = none)
  (h : Q (.ref g, [.ref a]) s) : wpAny (model X.prog X.w) A (getMethod (.ref a) m pl) Q E s := by
 obtain ⟨mA, O, r, _, _, _⟩ := ins_get I.hok e
 have hn : mA m = none := RelO.none_of (by rw [← l]; exact r m)
 exact get_meth I.kIn O (c.get m) k.at_ k.fn hn h
theorem setattr_ok {y : V} {u : Value} {Q : Unit → Shared → Prop} (I : Inv X pins σ H s) (e : H a = some (.ins C dx fs)) (c : Cls X.K C) (n : NoAttr X.K C f) (hl : fs.length < 1000) (ry : RelV y u)
  (h : ∀ s', Inv X pins σ (upd H a (.ins C dx (putF f y fs))) s' → Q () s') : wpAny (model X.prog X.w) A (setAttr (.ref a) f u) Q E s := by
 obtain ⟨mA, O, r, wi, _, ho⟩ := ins_get I.hok e
 have hz : (fs.map (·.1)).length ≤ sizeLine := by rw [List.length_map, sizeLine_eq]; omega
 refine set_map I.kIn O c.sa c.po n.taker c.hd wi hz fun h' O' sb => h _ ?_
 have hd : ∃ o, h'.get? dx = some o := let ⟨o, _, _, e', _⟩ := O'.ns; ⟨o, e'⟩
 refine I.write (x := a) (e := dx) (by rw [e]; exact True.intro) (.inr ho) (fun b q hb z => (sb.2 b hb).trans z) hd ?_
 refine ⟨by rw [zO O.ne]; exact ho, ?_, O.ne, O'.obj, _, O'.ns, fun g => ?_, fun g hg => ?_⟩
 ·have := length_putF f y fs; omega
 ·show RelO ((putF f y fs).lookup g) (if g = f then some u else mA g)
  rw [lookup_putF]
  by_cases q : g = f
  ·rw [if_pos q, if_pos q]; exact ry
  ·rw [if_neg q, if_neg q]; exact r g
 ·by_cases q : g = f
  ·rw [q]; exact (keys_putF f y fs).1
  ·refine (keys_putF f y fs).2 g (wi g fun z => hg ?_)
   show (if g = f then some u else mA g) = none
   rw [if_neg q]; exact z
theorem Inv.made (I : Inv X pins σ H s) : Inv X pins σ (upd (upd H s.heap.objs.size (.own (s.heap.objs.size + 1))) (s.heap.objs.size + 1) (.ins C s.heap.objs.size []))
  { s with heap := (s.heap.push PySem.W.emptyDict).push (PySem.W.instObj C s.heap.objs.size) } := by
 have e1 : (s.heap.push PySem.W.emptyDict).get? s.heap.objs.size = some PySem.W.emptyDict := Heap.get?_push_size s.heap rfl
 have e2 : ((s.heap.push PySem.W.emptyDict).push (PySem.W.instObj C s.heap.objs.size)).get? (s.heap.objs.size + 1) = some (PySem.W.instObj C s.heap.objs.size) := by
  have := Heap.get?_push_size (s.heap.push PySem.W.emptyDict) (o := PySem.W.instObj C s.heap.objs.size) rfl
  rwa [Heap.size_push] at this
 have e3 : (s.heap.push PySem.W.emptyDict).Ns s.heap.objs.size (fun _ => none) := ⟨PySem.W.emptyDict, #[], _, e1, rfl, (fun e he => absurd he (by simp)), fun _ => rfl⟩
 have I1 := I.laid (a := s.heap.objs.size) (o := .own (s.heap.objs.size + 1)) (h' := s.heap.push PySem.W.emptyDict) (t' := s.toks) (fun b u q => Heap.get?_push_of_some _ q) (Nat.le_refl _) ⟨_, e1⟩
 refine I1.laid (a := s.heap.objs.size + 1) (o := .ins C s.heap.objs.size []) (t' := s.toks) (fun b u q => Heap.get?_push_of_some _ q) (Nat.le_of_eq (Heap.size_push _ _)) ?_
 have ne : s.heap.objs.size ≠ s.heap.objs.size + 1 := Nat.ne_of_lt (Nat.lt_succ_self _)
 refine ⟨by rw [zO ne, zW], Nat.zero_le _, ne, e2, fun _ => none, (Heap.Ns1.of_empty e3).at fun o q => Heap.get?_push_of_some _ q, fun _ => True.intro, fun y hy => absurd rfl hy⟩
theorem attr_of {prog : Program} {w : World} {env : Env} {e : Expr} {f : Str} {pos : Pos} {s : Shared} {Q : Value → Shared → Prop} (hb : attributeBase e f env (eval e env) = eval e env)
  (h : wpAny (model prog w) A (eval e env) (fun o s₁ => wpAny (model prog w) A (getAttr o f true) Q E s₁) E s) : wpAny (model prog w) A (eval (.Attribute e f pos) env) Q E s :=
 Attribute_any_ h (by rw [arm_eval_Attribute, hb])
end
def tFld (K : PySem.W.Frag) (ta : TE) (f : Str) : TE := fun σ H Q => ta σ H fun x H1 => ∃ a C dx fs v, x = .ref a ∧ H1 a = some (.ins C dx fs) ∧ Cls K C ∧ NoAttr K C f ∧ fs.lookup f = some v ∧ Q v H1
def sFld (K : PySem.W.Frag) (ta tv : TE) (f : Str) : TS := fun D σ H => tv σ H fun y H1 => ta σ H1 fun x H2 => ∃ a C dx fs, x = .ref a ∧ H2 a = some (.ins C dx fs) ∧ Cls K C ∧ NoAttr K C f ∧ fs.length < 1000 ∧
 D.nx σ (upd H2 a (.ins C dx (putF f y fs)))
section
variable {X : Cx} {o e value : Expr} {f : Str} {pos pos' tpos : Pos} {ta tv : TE}
theorem pe_fld (he : PE X e ta) (hb : attributeBase e f X.env (eval e X.env) = eval e X.env) : PE X (.Attribute e f pos) (tFld X.K ta f) := by
 intro pins s σ H Q I h
 refine attr_of hb (thn (he pins s σ H _ I h) fun u s1 ⟨x, H1, I1, rx, a, C, dx, fs, v, ex, ea, c, n, l, q⟩ => ?_)
 subst ex
 obtain rfl : u = Value.ref a := rx
 exact getattr_ok I1 ea c n l fun u' s2 I2 ru => ⟨v, H1, I2, ru, q⟩
theorem ps_fld (ha : PE X o ta) (hv : PE X value tv) (hs : swapsWith value (some (.Attribute o f pos')) pos.line X.env = pure false) : PS X (.Assign [.Attribute o f pos'] value pos) (sFld X.K ta tv f) := by
 intro pins s σ H D I h
 refine plainObj_wpAny_Assign_Attribute (thn (hv pins s σ H _ I h) fun u s1 ⟨y, H1, I1, ry, q⟩ => thn (ha pins s1 σ H1 _ I1 q) fun ov s2 ⟨x, H2, I2, rx, a, C, dx, fs, ex, ea, c, n, l, q2⟩ => ?_) hs
 subst ex
 obtain rfl : ov = Value.ref a := rx
 exact setattr_ok I2 ea c n l ry fun s3 I3 => ⟨σ, _, I3, q2⟩
end
section
variable {X : Cx} {pins : List (Addr × Obj)} {σ : St} {H : Hp} {s : Shared} {A : Around} {E : Value → Shared → Prop} {Q : Value → Shared → Prop} {c : Value} {b : Bool}
end
end L2
namespace L2
open PySem PySem.Spec PyProof.Rows
structure Room (k : Nat) (A : Around) : Prop where
 hd : A.handled = none
 dp : A.depth + 3 * k + 120 < recursionLimit
 un : A.units + 16 * k + 200 < cLine
theorem Room.mono {j k : Nat} {A : Around} (r : Room k A) (h : j ≤ k) : Room j A := ⟨r.hd, by have := r.dp; omega, by have := r.un; omega⟩
theorem Room.deeper {k : Nat} {A : Around} (r : Room (k + 1) A) (env : Env) : Room k (A.deeper env) :=
 ⟨r.hd, by have := r.dp; show A.depth + 1 + 3 * k + 120 < _; omega, by have := r.un; show A.units + 3 + 16 * k + 200 < _; omega⟩
theorem make_depth {A : Around} {C : Addr} {us : List Value} {kw : List (Str × Value)} : (A.under (.builtin "type.__call__" ⟨.ref C :: us, kw⟩)).depth = A.depth + 1 := by
 first | rfl | simp [Around.under, Code.weight, Code.isCreation, Code.isGuard, Code.isCaller, Code.frames, Code.isFrame, guardIds]
theorem make_units {A : Around} {C : Addr} {us : List Value} {kw : List (Str × Value)} : (A.under (.builtin "type.__call__" ⟨.ref C :: us, kw⟩)).units = A.units + 1 := by
 first | rfl | simp [Around.under, Code.cUnits, Code.frames, Code.isFrame]
theorem Room.make {k : Nat} {A : Around} (r : Room (k + 1) A) (C : Addr) (us : List Value) (kw : List (Str × Value)) : Room k (A.under (.builtin "type.__call__" ⟨.ref C :: us, kw⟩)) :=
 ⟨r.hd, by have := r.dp; rw [make_depth]; omega, by have := r.un; rw [make_units]; omega⟩
theorem Room.depth {k : Nat} {A : Around} (r : Room k A) : A.depth < recursionLimit := by have := r.dp; omega
theorem Room.units {k : Nat} {A : Around} (r : Room k A) : A.units + 64 < cLine := by have := r.un; omega
def tNil : TA := fun _ H Q => Q [] H
def tCons (ta : TE) (tr : TA) : TA := fun σ H Q => ta σ H fun x H1 => tr σ H1 fun xs H2 => Q (x :: xs) H2
section
variable {X : Cx} {e : Expr} {es : List Expr} {te : TE} {t : TA} {pos : Pos}
theorem pa_nil : PA X [] tNil := fun _ _ _ _ H Q I h => Calls.spliced_nil ⟨[], H, I, .nil, h⟩
theorem pa_cons (ha : PE X e te) (hr : PA X es t) (hs : starEach (e :: es) X.env = (false, eval e X.env) :: starEach es X.env := by rfl) : PA X (e :: es) (tCons te t) := by
 intro pos pins s σ H Q I h
 rw [hs]
 show wpAny _ _ (spliced ((false, eval e X.env) :: backTo pos (starEach es X.env))) _ _ s
 refine Calls.spliced_cons (thn (ha pins s σ H _ I h) fun u s1 ⟨x, H1, I1, r1, q1⟩ => ?_)
 exact thn (hr pos pins s1 σ H1 _ I1 q1) fun us s2 ⟨xs, H2, I2, r2, q2⟩ => ⟨x :: xs, H2, I2, .cons r1 r2, q2⟩
def tTup (t : TA) : TE := fun σ H Q => t σ H fun xs H1 => xs.length ≤ sizeLine ∧ ∀ p, H1 p = none → Q (.ref p) (upd H1 p (.tup xs))
def tLst (t : TA) : TE := fun σ H Q => t σ H fun xs H1 => xs.length ≤ sizeLine ∧ ∀ p, H1 p = none → Q (.ref p) (upd H1 p (.lst xs))
theorem pe_tup {x1} (h : PA X es t) : PE X (.Tuple es x1 pos) (tTup t) := by
 intro pins s σ H Q I hq
 refine wpAny_Tuple_spliced (thn (h pos pins s σ H _ I hq) fun us s1 ⟨xs, H1, I1, r, z, q⟩ => ⟨by rw [← r.length]; exact z, ?_⟩)
 have hf : H1 s1.heap.objs.size = none := I1.hok.fresh (Nat.le_refl _)
 refine ⟨.ref s1.heap.objs.size, upd H1 s1.heap.objs.size (.tup xs), I1.laid (t' := s1.toks) (fun b u e => Heap.get?_push_of_some _ e) (Nat.le_refl _) ?_, rfl, q _ hf⟩
 exact ⟨z, us, r, ⟨_, Heap.get?_push_size _ rfl, rfl, _, rfl⟩⟩
theorem pe_lst (h : PA X es t) : PE X (.List es pos) (tLst t) := by
 intro pins s σ H Q I hq
 refine wpAny_List_spliced (thn (h pos pins s σ H _ I hq) fun us s1 ⟨xs, H1, I1, r, z, q⟩ => ⟨by rw [← r.length]; exact z, ?_⟩)
 have hf : H1 s1.heap.objs.size = none := I1.hok.fresh (Nat.le_refl _)
 refine ⟨.ref s1.heap.objs.size, upd H1 s1.heap.objs.size (.lst xs), I1.laid (t' := s1.toks) (fun b u e => Heap.get?_push_of_some _ e) (Nat.le_refl _) ?_, rfl, q _ hf⟩
 exact ⟨z, us, 0, r, Heap.get?_push_size _ rfl⟩
end
abbrev Sp := List V → Hp → VK → XK → Prop
abbrev CXT := List Env → Hp → Shared → XK → Value → Shared → Prop
structure Env0 (P : Program) (w : World) (K : PySem.W.Frag) (mg : Str → Option Value) (base : Heap) (A : Around) (outer : List Env) (s : Shared) (H : Hp) : Prop where
 frames : A.frames = some outer
 mod : Mod K mg base
 bs : ∀ b o, base.get? b = some o → s.heap.get? b = some o ∧ H b = none
 bsz : base.objs.size ≤ s.heap.objs.size
 funs : s.heap.FunFrames base outer
 frf : ∀ b ∈ frs outer, H b = none
 hok : HOk P w H s.heap
 bare : AllBare s.gens
def CE (outer : List Env) (P : Program) (w : World) (H : Hp) (s : Shared) (Q : VK) (u : Value) (s' : Shared) : Prop :=
 ∃ v H', s'.os = s.os ∧ AllBare s'.gens ∧ Un (frs outer) [] H H' s.heap s'.heap ∧ HOk P w H' s'.heap ∧ RelV v u ∧ Q v H'
def CR (CX : CXT) (outer : List Env) (P : Program) (w : World) (H : Hp) (s : Shared) (Q : VK) (E : XK) (r : Result) (s' : Shared) : Prop :=
 match r with
 | .ok (.ret u) => CE outer P w H s Q u s'
 | .ok _ => False
 | .error e => CX outer H s E e s'
structure FnOk (P : Program) (w : World) (K : PySem.W.Frag) (mg : Str → Option Value) (base : Heap) (CX : CXT) (k : Nat) (f : Addr) (fd : FuncData) (ps : List Str) (sp : Sp) : Prop where
 len : ∀ vs H Q E, sp vs H Q E → vs.length = ps.length
 run : ∀ (A : Around) (outer : List Env) (s : Shared) (H : Hp) (args : Args) (us : List Value) (vs : List V) (Q : VK) (E : XK), Room k A → Env0 P w K mg base A outer s H → BindsTo s fd args (ps.zip us) → Vals vs us → sp vs H Q E →
  codeAny (model P w) A (.call (.ref f) args) (CR CX outer P w H s Q E) s
theorem FnOk.mono {P : Program} {w : World} {K : PySem.W.Frag} {mg : Str → Option Value} {base : Heap} {CX : CXT} {j k : Nat} {f : Addr} {fd : FuncData} {ps : List Str} {sp : Sp} (F : FnOk P w K mg base CX j f fd ps sp) (h : j ≤ k) :
  FnOk P w K mg base CX k f fd ps sp := ⟨F.len, fun A outer s H args us vs Q E hr => F.run A outer s H args us vs Q E (hr.mono h)⟩
theorem FnOk.imp {P : Program} {w : World} {K : PySem.W.Frag} {mg : Str → Option Value} {base : Heap} {CX : CXT} {k : Nat} {f : Addr} {fd : FuncData} {ps : List Str} {sp sp' : Sp} (F : FnOk P w K mg base CX k f fd ps sp)
  (h : ∀ vs H Q E, sp' vs H Q E → sp vs H Q E) : FnOk P w K mg base CX k f fd ps sp' :=
 ⟨fun vs H Q E q => F.len vs H Q E (h _ _ _ _ q), fun A outer s H args us vs Q E hr he hb hv hs => F.run A outer s H args us vs Q E hr he hb hv (h _ _ _ _ hs)⟩
theorem Env0.make {P : Program} {w : World} {K : PySem.W.Frag} {mg : Str → Option Value} {base : Heap} {A : Around} {outer : List Env} {s : Shared} {H : Hp} (e : Env0 P w K mg base A outer s H) (C : Addr) (us : List Value) (kw : List (Str × Value)) :
  Env0 P w K mg base (A.under (.builtin "type.__call__" ⟨.ref C :: us, kw⟩)) outer s H := ⟨by first | exact e.frames | (simpa [Around.under, Code.envs, Code.isFrame, pushEnvs] using e.frames), e.mod, e.bs, e.bsz, e.funs, e.frf, e.hok, e.bare⟩
section
variable {X : Cx} {pins : List (Addr × Obj)} {σ : St} {H : Hp} {s s' : Shared}
theorem Inv.env0 (I : Inv X pins σ H s) : Env0 X.prog X.w X.K X.mg X.base X.A X.stack s H :=
 ⟨I.ok.frames, I.ok.mod, I.bs, Nat.le_trans I.ok.bsz I.sz, I.stack, I.stkFree, I.hok, I.bare⟩
theorem Inv.after {Q : VK} {u : Value} (I : Inv X pins σ H s) (h : CE X.stack X.prog X.w H s Q u s') : EP X pins σ Q u s' := by
 obtain ⟨v, H', os, bare, un, hok, r, q⟩ := h
 obtain ⟨hh, g, d, t, os'⟩ := s'
 obtain rfl : os' = s.os := os
 exact ⟨v, H', I.call (h' := hh) (g' := g) (d' := d) (t' := t) (ch := []) un hok bare (fun b z => absurd z (by simp)), r, q⟩
end
def tCall (sp : Sp) (dvs : List V) (E : XK) (t : TA) : TE := fun σ H Q => t σ H fun vs H1 => sp (vs ++ dvs) H1 Q E
def tMeth (C : Addr) (m : Str) (sp : Sp) (dvs : List V) (E : XK) (ta : TE) (t : TA) : TE := fun σ H Q => ta σ H fun x H1 => ∃ a dx fs, x = .ref a ∧ H1 a = some (.ins C dx fs) ∧ fs.lookup m = none ∧
 t σ H1 fun vs H2 => sp (x :: (vs ++ dvs)) H2 Q E
def tMake (C : Addr) (sp : Sp) (dvs : List V) (E : XK) (t : TA) : TE := fun σ H Q => t σ H fun vs H1 => ∀ x dx, H1 x = none → H1 dx = none → dx ≠ x →
 sp (.ref x :: (vs ++ dvs)) (upd (upd H1 dx (.own x)) x (.ins C dx [])) (fun v H2 => v = .non ∧ Q (.ref x) H2) E
def zV (K : PySem.W.Frag) (fd : FuncData) (ps : List Str) (ds : List Value) : Prop :=
 ∀ (s : Shared) (us : List Value), K.In s.heap → (us ++ ds).length = ps.length → BindsTo s fd ⟨us, []⟩ (ps.zip (us ++ ds))
theorem zV.all {K : PySem.W.Frag} {fd : FuncData} {ps : List Str} (h : ∀ us : List Value, us.length = ps.length → bindArgs fd ⟨us, []⟩ = pure (ps.zip us)) : zV K fd ps [] := fun s us _ hl => by
 rw [List.append_nil] at hl ⊢
 exact .of_eq (h us hl)
def Passes (CX : CXT) (X : Cx) (E : XK) : Prop := ∀ (pins : List (Addr × Obj)) (σ : St) (H : Hp) (s : Shared) (e : Value) (s' : Shared), Inv X pins σ H s → CX X.stack H s E e s' → X.xe e s'
section
variable {X : Cx} {CX : CXT} {k : Nat} {f C : Addr} {fd : FuncData} {ps : List Str} {sp : Sp} {dvs : List V} {ds : List Value} {E : XK} {x m : Str} {p pos apos : Pos} {e o : Expr} {es : List Expr} {ta : TE} {t : TA}
theorem run_fn {pins : List (Addr × Obj)} {σ : St} {H : Hp} {s : Shared} {Q : VK} {us : List Value} {vs : List V} (F : FnOk X.prog X.w X.K X.mg X.base CX k f fd ps sp) (hr : Room k X.A) (hb : zV X.K fd ps ds) (hd : Vals dvs ds) (hx : Passes CX X E)
  (I : Inv X pins σ H s) (r : Vals vs us) (h : sp (vs ++ dvs) H Q E) : wpAny (model X.prog X.w) X.A (call (.ref f) us) (EP X pins σ Q) X.xe s := by
 have r2 : Vals (vs ++ dvs) (us ++ ds) := r.append hd
 have hl : (us ++ ds).length = ps.length := by rw [← r2.length]; exact F.len _ _ _ _ h
 refine wpAny_call (codeAny_mono (F.run X.A X.stack s H ⟨us, []⟩ (us ++ ds) (vs ++ dvs) Q E hr I.env0 (hb s us I.kIn hl) r2 h) fun r s' hq => ?_)
 cases r with
 | error e => exact hx pins σ H s e s' I hq
 | ok fl =>
  cases fl with
  | ret u => exact I.after hq
  | next => exact False.elim hq
  | brk => exact False.elim hq
  | cont => exact False.elim hq
theorem pe_call (F : FnOk X.prog X.w X.K X.mg X.base CX k f fd ps sp) (hr : Room k X.A) (hg : Gl X x) (hm : X.mg x = some (.ref f)) (hk : PySem.W.keepIn X.K (.ref f) = true) (hb : zV X.K fd ps ds) (hd : Vals dvs ds) (hx : Passes CX X E)
  (ha : PA X (e :: es) t) (hdb : (x == ("__debug__" : Str)) = false := by decide) (he : starEach (e :: es) X.env = (false, eval e X.env) :: starEach es X.env := by rfl) (hpl : (backTo pos (starEach es X.env)).any (·.1) = false := by rfl) :
  PE X (.Call (.Name x p) (e :: es) [] pos) (tCall sp dvs E t) := by
 intro pins s σ H Q I h
 refine wpAny_Call_Name_kw (ld_glob I hg hm ?_ hdb)
 refine PySem.W.callWith_K (h₀ := X.base) I.ok.mod.kin hk (thn (ha pos pins s σ H _ I h) fun us s1 ⟨vs, H1, I1, r, q⟩ => ⟨I1.kIn, ?_⟩) he hpl
 exact run_fn F hr hb hd hx I1 r q
theorem pe_meth {pl : Sem Bool} (he : PE X o ta) (c : Cls X.K C) (hm : Meth X.K C m f) (F : FnOk X.prog X.w X.K X.mg X.base CX k f fd ps sp) (hr : Room k X.A) (hb : zV X.K fd ps ds) (hd : Vals dvs ds) (hx : Passes CX X E) (ha : PA X (e :: es) t)
  (hst : starEach (e :: es) X.env = (false, eval e X.env) :: starEach es X.env := by rfl) (hpl : (backTo pos (starEach es X.env)).any (·.1) = false := by rfl)
  (ht : eval (.Call (.Attribute o m apos) (e :: es) [] pos) X.env = (do
   let ov ← eval o X.env
   standAt apos.atName
   let (f, first) ← holding [ov] (getMethod ov m pl)
   callWith pos f first (backTo pos (starEach (e :: es) X.env)) (backToKw pos (keywordEach [] X.env))) := by rfl) :
  PE X (.Call (.Attribute o m apos) (e :: es) [] pos) (tMeth C m sp dvs E ta t) := by
 intro pins s σ H Q I h
 refine PySem.W.methodCall_KW (pl := pl) (thn (he pins s σ H _ I h) fun u s1 ⟨x, H1, I1, rx, a, dx, fs, ex, ea, l, q⟩ => ?_) ht
 subst ex
 obtain rfl : u = Value.ref a := rx
 refine getmeth_ok I1 ea c hm l ?_
 refine PySem.W.callWith_K (first := [.ref a]) (h₀ := X.base) I.ok.mod.kin hm.kp (thn (ha pos pins s1 σ H1 _ I1 q) fun us s2 ⟨vs, H2, I2, r, q2⟩ => ⟨I2.kIn, ?_⟩) hst hpl
 exact run_fn (us := .ref a :: us) (vs := .ref a :: vs) F hr hb hd hx I2 (.cons rfl r) q2
theorem pe_meth0 {pl : Sem Bool} (he : PE X o ta) (c : Cls X.K C) (hm : Meth X.K C m f) (F : FnOk X.prog X.w X.K X.mg X.base CX k f fd ps sp) (hr : Room k X.A) (hb : zV X.K fd ps ds) (hd : Vals dvs ds) (hx : Passes CX X E)
  (ht : eval (.Call (.Attribute o m apos) [] [] pos) X.env = (do
   let ov ← eval o X.env
   standAt apos.atName
   let (f, first) ← holding [ov] (getMethod ov m pl)
   callWith pos f first (backTo pos (starEach [] X.env)) (backToKw pos (keywordEach [] X.env))) := by rfl) :
  PE X (.Call (.Attribute o m apos) [] [] pos) (tMeth C m sp dvs E ta tNil) := by
 intro pins s σ H Q I h
 refine PySem.W.methodCall_KW (pl := pl) (thn (he pins s σ H _ I h) fun u s1 ⟨x, H1, I1, rx, a, dx, fs, ex, ea, l, q⟩ => ?_) ht
 subst ex
 obtain rfl : u = Value.ref a := rx
 refine getmeth_ok I1 ea c hm l ?_
 exact PySem.W.callWith_K0 (first := [.ref a]) I1.kIn hm.kp (run_fn (us := [.ref a]) (vs := [.ref a]) F hr hb hd hx I1 (.cons rfl .nil) q)
structure Mk (K : PySem.W.Frag) (C f : Addr) : Prop where
 makes : PySem.W.makesIn K C = true
 init : PySem.W.findIn K (.ref C) "__init__" = some (some (.ref f))
 fn : PySem.W.isFn K (.ref f) = true
 kp : PySem.W.keepIn K (.ref C) = true
theorem run_make {pins : List (Addr × Obj)} {σ : St} {H : Hp} {s : Shared} {Q : VK} {us : List Value} {vs : List V} (M : Mk X.K C f) (F : FnOk X.prog X.w X.K X.mg X.base CX k f fd ps sp) (hr : Room (k + 1) X.A) (hb : zV X.K fd ps ds) (hd : Vals dvs ds)
  (hx : Passes CX X E) (I : Inv X pins σ H s) (r : Vals vs us)
  (h : ∀ x dx, H x = none → H dx = none → dx ≠ x → sp (.ref x :: (vs ++ dvs)) (upd (upd H dx (.own x)) x (.ins C dx [])) (fun v H2 => v = .non ∧ Q (.ref x) H2) E) :
  wpAny (model X.prog X.w) X.A (call (.ref C) us) (EP X pins σ Q) X.xe s := by
 have hq := h (s.heap.objs.size + 1) s.heap.objs.size (I.hok.fresh (Nat.le_succ _)) (I.hok.fresh (Nat.le_refl _)) (Nat.ne_of_lt (Nat.lt_succ_self _))
 have I2 := Inv.made (C := C) I
 have r2 : Vals (V.ref (s.heap.objs.size + 1) :: (vs ++ dvs)) (Value.ref (s.heap.objs.size + 1) :: (us ++ ds)) := .cons rfl (r.append hd)
 have hl : (Value.ref (s.heap.objs.size + 1) :: us ++ ds).length = ps.length := by
  have e := r2.length
  rw [F.len _ _ _ _ hq] at e
  exact e.symm
 refine wpAny_call (make_map (f := f) I.kIn M.makes M.init (beq_iff_eq.mp M.fn) (codeAny_mono (F.run _ X.stack _ _ ⟨Value.ref (s.heap.objs.size + 1) :: us, []⟩ (Value.ref (s.heap.objs.size + 1) :: (us ++ ds)) _ _ E (hr.make C us [])
  (I2.env0.make C us []) (hb _ (Value.ref (s.heap.objs.size + 1) :: us) I2.kIn hl) r2 hq) fun r s' hq' => ?_))
 cases r with
 | error e => exact hx pins σ _ _ e s' I2 hq'
 | ok fl =>
  cases fl with
  | ret u =>
   obtain ⟨v, H', I3, rv, ev, q3⟩ := I2.after hq'
   subst ev
   exact ⟨rv, ⟨V.ref (s.heap.objs.size + 1), H', I3, rfl, q3⟩⟩
  | next => exact False.elim hq'
  | brk => exact False.elim hq'
  | cont => exact False.elim hq'
theorem pe_make (M : Mk X.K C f) (F : FnOk X.prog X.w X.K X.mg X.base CX k f fd ps sp) (hr : Room (k + 1) X.A) (hg : Gl X x) (hm : X.mg x = some (.ref C)) (hb : zV X.K fd ps ds) (hd : Vals dvs ds) (hx : Passes CX X E)
  (ha : PA X (e :: es) t) (hdb : (x == ("__debug__" : Str)) = false := by decide) (he : starEach (e :: es) X.env = (false, eval e X.env) :: starEach es X.env := by rfl) (hpl : (backTo pos (starEach es X.env)).any (·.1) = false := by rfl) :
  PE X (.Call (.Name x p) (e :: es) [] pos) (tMake C sp dvs E t) := by
 intro pins s σ H Q I h
 refine wpAny_Call_Name_kw (ld_glob I hg hm ?_ hdb)
 refine PySem.W.callWith_K (h₀ := X.base) I.ok.mod.kin M.kp (thn (ha pos pins s σ H _ I h) fun us s1 ⟨vs, H1, I1, r, q⟩ => ⟨I1.kIn, ?_⟩) he hpl
 exact run_make M F hr hb hd hx I1 r q
end
section
variable {X : Cx} {CX : CXT} {k : Nat} {f C : Addr} {fd : FuncData} {ps ks : List Str} {sp : Sp} {E : XK} {x m : Str} {p pos apos kpos : Pos} {e o : Expr} {es : List Expr} {kws : List Keyword} {te ta : TE} {t tk : TA} {nm : Option Str}
variable {g : List Value → List Value → List Value} {gV : List V → List V → List V}
end
structure zN (N P : List Str) (sc : Scope) : Prop where
 kind : sc.kind = .function
 co : sc.isCoroutine = false
 gen : sc.isGenerator = false
 nd : N.Nodup
 pre : N.take P.length = P
 par : ∀ x ∈ P, sc.names.lookup x = some .local ∨ sc.names.lookup x = some .cell
 nofree : ∀ y ∈ sc.names, y.2 ≠ .free
theorem bindL_out {kindOf : Str → Option NameKind} {x : Str} : ∀ {binds : List (Str × Value)} {m : Str → Option Value}, (∀ v, (x, v) ∉ binds) → bindL kindOf binds m x = m x
 | [], _, _ => rfl
 | (n, v) :: r, m, h => by
  unfold bindL
  rw [bindL_out fun w hw => h w (List.mem_cons_of_mem _ hw)]
  split
  ·have : x ≠ n := by rintro rfl; exact h v List.mem_cons_self
   simp [this]
  ·rfl
theorem bindC_out {kindOf : Str → Option NameKind} {x : Str} : ∀ {binds : List (Str × Value)} {m : Str → Option Value}, (∀ v, (x, v) ∉ binds) → bindC kindOf binds m x = m x
 | [], _, _ => rfl
 | (n, v) :: r, m, h => by
  unfold bindC
  rw [bindC_out fun w hw => h w (List.mem_cons_of_mem _ hw)]
  split
  ·rfl
  ·have : x ≠ n := by rintro rfl; exact h v List.mem_cons_self
   simp [this]
theorem bindL_get {kindOf : Str → Option NameKind} {x : Str} {v : Value} : ∀ {P : List Str} {vs : List Value} {i : Nat} {m : Str → Option Value}, P.Nodup → P[i]? = some x → vs[i]? = some v → kindOf x = some .local →
  bindL kindOf (P.zip vs) m x = some v
 | [], _, _, _, _, h, _, _ => by simp at h
 | _ :: _, [], _, _, _, _, h, _ => by simp at h
 | p :: P, w :: vs, 0, m, nd, h1, h2, hk => by
  simp at h1 h2; subst h1; subst h2
  show bindL kindOf ((p, w) :: P.zip vs) m p = _
  unfold bindL
  rw [bindL_out fun v hv => (List.nodup_cons.mp nd).1 (List.of_mem_zip hv).1, if_pos hk]
  simp
 | p :: P, w :: vs, i + 1, m, nd, h1, h2, hk => by
  show bindL kindOf ((p, w) :: P.zip vs) m x = _
  unfold bindL
  exact bindL_get (i := i) (List.nodup_cons.mp nd).2 (by simpa using h1) (by simpa using h2) hk
theorem bindC_get {kindOf : Str → Option NameKind} {x : Str} {v : Value} : ∀ {P : List Str} {vs : List Value} {i : Nat} {m : Str → Option Value}, P.Nodup → P[i]? = some x → vs[i]? = some v → kindOf x ≠ some .local →
  bindC kindOf (P.zip vs) m x = some v
 | [], _, _, _, _, h, _, _ => by simp at h
 | _ :: _, [], _, _, _, _, h, _ => by simp at h
 | p :: P, w :: vs, 0, m, nd, h1, h2, hk => by
  simp at h1 h2; subst h1; subst h2
  show bindC kindOf ((p, w) :: P.zip vs) m p = _
  unfold bindC
  rw [bindC_out fun v hv => (List.nodup_cons.mp nd).1 (List.of_mem_zip hv).1, if_neg hk]
  simp
 | p :: P, w :: vs, i + 1, m, nd, h1, h2, hk => by
  show bindC kindOf ((p, w) :: P.zip vs) m x = _
  unfold bindC
  exact bindC_get (i := i) (List.nodup_cons.mp nd).2 (by simpa using h1) (by simpa using h2) hk
def start (N : List Str) (vs : List V) : St := vs.map some ++ List.replicate (N.length - vs.length) none
def cxOf (CX : CXT) (P : Program) (w : World) (K : PySem.W.Frag) (mg : Str → Option Value) (base : Heap) (N : List Str) (qual : Str) (scope : Scope) (f : Addr) (cd : Value) (A : Around) (outer : List Env) (s : Shared) (H : Hp) (E : XK) : Cx where
 prog := P
 w := w
 K := K
 mg := mg
 base := base
 A := A.deeper (envOfC qual scope s.heap.objs.size f cd)
 N := N
 s₀ := s
 H₀ := H
 env := envOfC qual scope s.heap.objs.size f cd
 outer := outer
 stack := envOfC qual scope s.heap.objs.size f cd :: outer
 ex := []
 calm := true
 fn := fun _ => true
 pn := []
 xe := fun e s' => wpAny (model P w) (A.deeper (envOfC qual scope s.heap.objs.size f cd)) (leaving (envOfC qual scope s.heap.objs.size f cd) e) (fun _ s'' => CX outer H s E e s'') (fun e' s'' => CX outer H s E e' s'') s'
theorem cell_has {sc : Scope} {n : Nat} {x : Str} (h : sc.names.lookup x = some .cell) : ∃ c, (cellsFrom n sc.names []).lookup x = some c := by
 have q := PySem.W.cellsFrom_some sc.names n [] (.inl h)
 exact Option.isSome_iff_exists.mp q
theorem inv_start {CX : CXT} {P : Program} {w : World} {K : PySem.W.Frag} {mg : Str → Option Value} {base : Heap} {N ps : List Str} {qual : Str} {scope : Scope} {f : Addr} {cd : Value} {A : Around} {outer : List Env} {s s1 : Shared} {H : Hp} {E : XK} {us : List Value} {vs : List V}
  (S : zN N ps scope) (hd : A.handled = none) (e0 : Env0 P w K mg base A outer s H) (hl : vs.length = ps.length) (r : Vals vs us)
  (x : InCallC s s.heap.objs.size (bindL (envOfC qual scope s.heap.objs.size f cd).kindOf (ps.zip us) fun _ => none) (cellsFrom (s.heap.objs.size + 1) scope.names []) (bindC (envOfC qual scope s.heap.objs.size f cd).kindOf (ps.zip us) fun _ => none) s1) :
  Inv (cxOf CX P w K mg base N qual scope f cd A outer s H E) [] (start N vs) H s1 := by
 have hpl : ps.length ≤ N.length := by have := congrArg List.length S.pre; rw [List.length_take] at this; omega
 obtain ⟨h1, tk, rfl, hk⟩ := x.done
 have noA : ∀ b : Addr, b ∉ (cxOf CX P w K mg base N qual scope f cd A outer s H E).ex := fun b z => absurd (show b ∈ ([] : List Addr) from z) (by simp)
 refine ⟨⟨e0.mod, S.kind, rfl, rfl, Nat.le_refl _, fun y z c h1 h2 => ?_, fun y hy => ?_, fun y c _ h => ?_, fun _ => hd, Around.frames_deeper e0.frames, .inr ⟨rfl, rfl⟩, fun b z => absurd z (noA b), e0.bs, e0.bsz, fun b _ _ => noA b, fun b z => absurd z (noA b), e0.funs, e0.frf⟩,
  rfl, e0.bare, Un.kept hk, ⟨_, x.toInCall.ns, fun i y v h1 h2 h3 => ?_⟩, fun y c h => ⟨_, x.cell y c h⟩, e0.hok.fresh (Nat.le_refl _), fun y c h => ?_, fun p hp => absurd (show p ∈ ([] : List (Addr × Obj)) from hp) (by simp), e0.hok.kept hk, ?_⟩
 ·exact name_of_addr x.apart (PySem.mem_of_lookup h1) (PySem.mem_of_lookup h2)
 ·have hy : scope.names.lookup y = some .cell ∨ scope.names.lookup y = some .free := hy
  rcases hy with hy | hy
  ·exact cell_has hy
  ·exact absurd rfl (S.nofree _ (PySem.mem_of_lookup hy))
 ·exact Nat.le_of_lt (x.above y c (PySem.mem_of_lookup h))
 ·have hi : i < vs.length := by
   unfold start at h2
   by_cases hi : i < vs.length
   ·exact hi
   ·rw [List.getElem?_append_right (by simpa using hi)] at h2
    rw [List.getElem?_replicate] at h2
    split at h2 <;> cases h2
  have ha : vs[i]? = some v := by
   unfold start at h2
   rw [List.getElem?_append_left (by simpa using hi), List.getElem?_map] at h2
   cases e : vs[i]? with
   | none => rw [e] at h2; cases h2
   | some a => rw [e] at h2; cases h2; rfl
  obtain ⟨u, hu, rv⟩ := r.get ha
  have hp : ps[i]? = some y := by
   rw [← S.pre, List.getElem?_take_of_lt (by omega)]; exact h1
  have ndP : ps.Nodup := by rw [← S.pre]; exact S.nd.sublist (List.take_sublist _ _)
  refine ⟨u, rv, ?_⟩
  rcases S.par y (List.mem_of_getElem? hp) with k | k
  ·exact .inl ⟨k, bindL_get ndP hp hu k⟩
  ·obtain ⟨c, e⟩ := cell_has (n := s.heap.objs.size + 1) k
   refine .inr ⟨.inl k, c, e, ?_⟩
   have q := x.cell y c e
   rw [bindC_get ndP hp hu (by show scope.names.lookup y ≠ _; rw [k]; decide)] at q
   exact q
 ·exact e0.hok.fresh (Nat.le_of_lt (x.above y c (PySem.mem_of_lookup h)))
 ·unfold start
  show _ = N.length
  rw [List.length_append, List.length_map, List.length_replicate]
  omega
theorem fn_of {CX : CXT} {P : Program} {w : World} {K : PySem.W.Frag} {mg : Str → Option Value} {base : Heap} {k : Nat} {f : Addr} {name qual : Str} {params : Arguments} {body : List Stmt} {scope : Scope} {dV kV doc pm cdv ct oc : Value} {an od : Option Addr}
  {osl : Array (Option Value)} {N ps : List Str} {sp : Sp} (lk : K.lookup f = some ⟨oc, od, .func (PySem.W.fnOf name qual params body scope dV kV doc pm an cdv ct), osl⟩) (hcd : PySem.W.codeIn K cdv qual = true) (S : zN N ps scope)
  (len : ∀ vs H Q E, sp vs H Q E → vs.length = ps.length)
  (hbody : ∀ (A : Around) (outer : List Env) (s : Shared) (H : Hp) (vs : List V) (Q : VK) (E : XK), Room k (A.deeper (envOfC qual scope s.heap.objs.size f cdv)) → sp vs H Q E →
   ∃ t, PSs (cxOf CX P w K mg base N qual scope f cdv A outer s H E) body t ∧ t { nx := fun _ H' => Q .non H', rt := Q } (start N vs) H) :
  FnOk P w K mg base CX (k + 1) f (PySem.W.fnOf name qual params body scope dV kV doc pm an cdv ct) ps sp := by
 refine ⟨len, fun A outer s H args us vs Q E hr e0 hb r hsp => ?_⟩
 have hl := len _ _ _ _ hsp
 have KX : K.In s.heap := e0.mod.kin.keeps fun b o e => (e0.bs b o e).1
 have lim : s.heap.NoLimit := e0.mod.nolimit.keeps fun b o e => (e0.bs b o e).1
 have hkind : ∀ y ∈ ps.zip us, scope.names.lookup y.1 = some .local ∨ (scope.names.lookup y.1 = some .cell ∧ ((cellsFrom (s.heap.objs.size + 1) scope.names []).lookup y.1).isSome = true) := fun ⟨n, v⟩ hy => by
  rcases S.par n (List.of_mem_zip hy).1 with q | q
  ·exact .inl q
  ·exact .inr ⟨q, PySem.W.cellsFrom_some _ _ _ (.inl q)⟩
 refine codeAny_call_function hr.depth (KX _ _ lk) rfl S.co S.gen rfl (PySem.W.codeRec_of KX hcd) (hb _ _ _ _ ?_)
 refine wpAny_newFunctionEnv_cells S.kind hkind fun env he s1 x => ?_
 subst he
 refine ⟨lim.keeps x.toInCall.keep, codeAny_func ?_⟩
 obtain ⟨t, ht, hq⟩ := hbody A outer s H vs Q E (hr.deeper _) hsp
 have I : Inv (cxOf CX P w K mg base N qual scope f cdv A outer s H E) [] (start N vs) H s1 := inv_start S hr.hd e0 hl r x
 refine wpAny_mono (ht [] s1 (start N vs) H _ I hq) (fun fl s' hs => ?_) fun e s' hs => hs
 have fin : ∀ {σ' : St} {H' : Hp} {v : V} {u : Value}, Inv (cxOf CX P w K mg base N qual scope f cdv A outer s H E) [] σ' H' s' → RelV v u → Q v H' → CE outer P w H s Q u s' :=
  fun {σ' H' v u} J rv q => ⟨v, H', J.os, J.bare, J.base, J.hok, rv, q⟩
 cases fl with
 | ret u =>
  obtain ⟨v, σ', H', J, rv, q⟩ := hs
  exact fin J rv q
 | next =>
  obtain ⟨σ', H', J, q⟩ := hs
  exact fin (v := V.non) (u := Value.none) J rfl q
 | brk =>
  obtain ⟨_, _, _, q⟩ := hs
  exact False.elim q
 | cont =>
  obtain ⟨_, _, _, q⟩ := hs
  exact False.elim q
end L2
namespace L2
open PySem PySem.Spec PyProof.Rows
section
variable {X : Cx} {x : Str} {p pos : Pos} {e : Expr} {es : List Expr} {t : TA} {id T : String} {r : List V → Hp → VK → Prop}
def tCB (r : List V → Hp → VK → Prop) (t : TA) : TE := fun σ H Q => t σ H fun vs H1 => r vs H1 Q
theorem pe_callB (hc : CallR X (.builtin id) r) (hg : Gl X x) (hm : X.mg x = none) (hv : bootBuiltins x = some (.builtin id)) (ha : PA X (e :: es) t) (hn : x ≠ "__name__" := by decide) (hdb : (x == ("__debug__" : Str)) = false := by decide)
  (he : starEach (e :: es) X.env = (false, eval e X.env) :: starEach es X.env := by rfl) (hpl : (backTo pos (starEach es X.env)).any (·.1) = false := by rfl) : PE X (.Call (.Name x p) (e :: es) [] pos) (tCB r t) := by
 intro pins s σ H Q I h
 refine wpAny_Call_Name_kw (ld_blt I hg hm hv ?_ hn hdb)
 exact PyProof.Rows.callWith_builtin1 (thn (ha pos pins s σ H _ I h) fun us s1 ⟨vs, H1, I1, r1, q1⟩ => hc pins s1 σ H1 vs us Q I1 r1 q1) he hpl
theorem pe_callTy (hc : CallR X (.type T) r) (hg : Gl X x) (hm : X.mg x = none) (hv : bootBuiltins x = some (.type T)) (ha : PA X (e :: es) t) (hn : x ≠ "__name__" := by decide) (hdb : (x == ("__debug__" : Str)) = false := by decide)
  (he : starEach (e :: es) X.env = (false, eval e X.env) :: starEach es X.env := by rfl) (hpl : (backTo pos (starEach es X.env)).any (·.1) = false := by rfl) : PE X (.Call (.Name x p) (e :: es) [] pos) (tCB r t) := by
 intro pins s σ H Q I h
 refine wpAny_Call_Name_kw (ld_blt I hg hm hv ?_ hn hdb)
 exact PyProof.Rows.callWith_type1 (thn (ha pos pins s σ H _ I h) fun us s1 ⟨vs, H1, I1, r1, q1⟩ => hc pins s1 σ H1 vs us Q I1 r1 q1) he hpl
end
end L2
namespace HT
open PySem PyProof.Rows
section
open PySem.SeqAt
open PySem.AutoSeq1 (wpAny_loadPart')
open PySem.MeetsSeq PySem.MeetsSeq2 PySem.MeetsSeq3
end
section
variable {prog : Program} {w : World} {A : Around} {E : Value → Shared → Prop} {s : Shared}
def sIx (n d : Nat) : Option Int → Nat
 | none => d
 | some v => if v < 0 then (v + (n : Int)).toNat else min v.toNat n
end
end HT
namespace L2
open PySem PySem.Spec PyProof.Rows
abbrev TO := St → Hp → (Option Int → Hp → Prop) → Prop
def PO (X : Cx) (e : Option Expr) (t : TO) : Prop :=
 ∀ (pins : List (Addr × Obj)) (s : Shared) (σ : St) (H : Hp) (Q : Option Int → Hp → Prop), Inv X pins σ H s → t σ H Q →
  wpAny (model X.prog X.w) X.A (evalPart e X.env) (fun u s' => ∃ o H', Inv X pins σ H' s' ∧ IsPart u o ∧ Q o H') X.xe s
section
variable {X : Cx} {e : Expr} {te : TE} {lo hi : Option Expr} {tl th : TO} {pos p2 : Pos}
def SlR (X : Cx) (r : V → Option Int → Option Int → Hp → VK → Prop) : Prop :=
 ∀ (pins : List (Addr × Obj)) (s : Shared) (σ : St) (H : Hp) (x : V) (v vl vu : Value) (lo hi : Option Int) (sl : Addr) (Q : VK), Inv X pins σ H s → RelV x v → s.heap.IsSliceOf sl vl vu .none → IsPart vl lo → IsPart vu hi → r x lo hi H Q →
  ∃ T id, typeLookup (.type T) "__getitem__" = pure (some (.builtin id)) ∧ s.TypeIs v T ∧ wpAny (model X.prog X.w) X.A (getItem v (.ref sl)) (EP X pins σ Q) X.xe s
def cutV (xs : List V) (lo hi : Option Int) : List V := (xs.drop (HT.sIx xs.length 0 lo)).take (HT.sIx xs.length xs.length hi - HT.sIx xs.length 0 lo)
end
end L2
namespace L2
open PySem PySem.Spec PyProof.Rows
def ixN (n : Nat) (i : Int) : Option Nat := if 0 ≤ i then (if i < n then some i.toNat else none) else if -(n : Int) ≤ i then some (i + n).toNat else none
def atI {α : Type} (xs : List α) (i : Int) : Option α := (ixN xs.length i).bind fun j => xs[j]?
theorem ixN_seq {n : Nat} {i : Int} {j : Nat} (h : ixN n i = some j) : seqIndex? i n = some j ∧ j < n ∧ -(n : Int) ≤ i ∧ i < n := by
 unfold ixN at h
 by_cases h0 : 0 ≤ i
 ·rw [if_pos h0] at h
  by_cases h1 : i < n
  ·rw [if_pos h1] at h
   have e : i.toNat = j := Option.some.inj h
   exact ⟨by rw [seqIndex_of h0 h1, e], by omega, by omega, h1⟩
  ·rw [if_neg h1] at h; cases h
 ·rw [if_neg h0] at h
  by_cases h1 : -(n : Int) ≤ i
  ·rw [if_pos h1] at h
   have e : (i + n).toNat = j := Option.some.inj h
   exact ⟨by rw [seqIndex_neg (by omega) h1, e], by omega, h1, by omega⟩
  ·rw [if_neg h1] at h; cases h
theorem atI_get {α : Type} {xs : List α} {i : Int} {v : α} (h : atI xs i = some v) : ∃ j, seqIndex? i xs.length = some j ∧ xs[j]? = some v ∧ j < xs.length ∧ -(xs.length : Int) ≤ i ∧ i < xs.length := by
 unfold atI at h
 cases e : ixN xs.length i with
 | none => rw [e] at h; cases h
 | some j =>
  rw [e] at h
  obtain ⟨h1, h2, h3, h4⟩ := ixN_seq e
  exact ⟨j, h1, h, h2, h3, h4⟩
def PlainIx (b : Expr) : Prop := ∀ o i, subscripted b false o i = operate [o, i] (getItem o i)
def IxR (X : Cx) (r : R2) : Prop :=
 ∀ (value slice : Expr) (pins : List (Addr × Obj)) (s : Shared) (σ : St) (H : Hp) (x y : V) (v u : Value) (Q : VK), Inv X pins σ H s → RelV x v → RelV y u → r x y H Q →
  subscripted slice false v u = operate [v, u] (getItem v u) → wpAny (model X.prog X.w) X.A (subscriptTail value slice v u) (EP X pins σ Q) X.xe s
def MtR (X : Cx) (id : String) (r : V → List V → Hp → VK → Prop) : Prop :=
 ∀ (pins : List (Addr × Obj)) (s : Shared) (σ : St) (H : Hp) (x : V) (xs : List V) (v : Value) (us : List Value) (Q : VK), Inv X pins σ H s → RelV x v → Vals xs us → r x xs H Q →
  wpAny (model X.prog X.w) X.A (call (.builtin id) (v :: us)) (EP X pins σ Q) X.xe s
section
variable {X : Cx} {a b : Expr} {ta tb : TE} {pos : Pos}
theorem IxR.or {r r' : R2} (h : IxR X r) (h' : IxR X r') : IxR X (fun x y H Q => r x y H Q ∨ r' x y H Q) := by
 intro value slice pins s σ H x y v u Q I rx ry q hs
 rcases q with q | q
 ·exact h value slice pins s σ H x y v u Q I rx ry q hs
 ·exact h' value slice pins s σ H x y v u Q I rx ry q hs
theorem pe_ix {r : R2} (hr : IxR X r) (ha : PE X a ta) (hb : PE X b tb) (hs : PlainIx b) : PE X (.Subscript a b pos) (tOp r ta tb) := by
 intro pins s σ H Q I h
 exact Subscript_ (binT ha hb I h fun v u s2 x y H2 I2 rx ry q => hr a b pins s2 σ H2 x y v u Q I2 rx ry q (hs _ _))
def rIxL (K : PySem.W.Frag) : R2 := fun x y H Q => ∃ p xs i v, x = .ref p ∧ y = .int i ∧ SqL K H p xs ∧ atI xs i = some v ∧ Q v H
def rIxT (K : PySem.W.Frag) : R2 := fun x y H Q => ∃ p xs i v, x = .ref p ∧ y = .int i ∧ SqT K H p xs ∧ atI xs i = some v ∧ Q v H
theorem ix_list : IxR X (rIxL X.K) := by
 intro value slice pins s σ H x y v u Q I rx ry h hs
 obtain ⟨p, xs, i, z, rfl, rfl, hq, he, q⟩ := h
 cases rx
 obtain ⟨t, rfl⟩ := ry
 obtain ⟨its, r, pl, hz⟩ := I.list hq
 obtain ⟨j, h1, h2, h3, h4, h5⟩ := atI_get he
 obtain ⟨w, ew, rw'⟩ := r.get h2
 have hl := r.length
 have hn := line63
 have fin : EP X pins σ Q w s := ⟨z, H, I, rw', q⟩
 by_cases h0 : 0 ≤ i
 ·have hj : i.toNat = j := by
   rw [seqIndex_of h0 h5] at h1
   exact Option.some.inj h1
  exact item_listR pl.isList h0 (by omega) (by rw [hj]; simpa using ew) fin hs
 ·have hj : (i + (its.toArray.size : Int)).toNat = j := by
   rw [seqIndex_neg (by omega) h4] at h1
   rw [List.size_toArray, ← hl]
   exact Option.some.inj h1
  exact subscriptTail_builtinR (x := w) pl.isList.typeIs slot_list_getitem.lookup
   (wpAny_getItem_list_neg (Q := fun r s' => r = w ∧ EP X pins σ Q r s') pl.isList (by omega) (by rw [List.size_toArray] <;> omega) (by omega) (by rw [hj]; simpa using ew) ⟨rfl, fin⟩) hs
theorem ix_tup : IxR X (rIxT X.K) := by
 intro value slice pins s σ H x y v u Q I rx ry h hs
 obtain ⟨p, xs, i, z, rfl, rfl, hq, he, q⟩ := h
 cases rx
 obtain ⟨t, rfl⟩ := ry
 obtain ⟨its, r, pl, hz⟩ := I.tuple hq
 obtain ⟨j, h1, h2, h3, h4, h5⟩ := atI_get he
 obtain ⟨w, ew, rw'⟩ := r.get h2
 have hl := r.length
 have hn := line63
 have fin : EP X pins σ Q w s := ⟨z, H, I, rw', q⟩
 exact subscriptTail_builtinR (x := w) pl.typeIs slot_tuple_getitem.lookup
  (getItem_tuple (j := j) (Q := fun r s' => r = w ∧ EP X pins σ Q r s') pl (by omega) (by omega) (by rw [List.size_toArray, ← hl]; exact h1) (by simpa using ew) ⟨rfl, fin⟩) hs
theorem mapSeq_set (its : List Value) (n j : Nat) (u : Value) : Obj.mapSeq (·.setIfInBounds j u) { cls := .type "list", data := .seq its.toArray n } = { cls := .type "list", data := .seq (its.set j u).toArray n } := by
 simp [Obj.mapSeq]
theorem Inv.lst {pins : List (Addr × Obj)} {σ : St} {H : Hp} {s : Shared} {p : Addr} {xs : List V} (I : Inv X pins σ H s) (h : H p = some (.lst xs)) :
  ∃ (its : List Value) (n : Nat), Vals xs its ∧ s.heap.get? p = some { cls := .type "list", data := .seq its.toArray n } ∧ xs.length ≤ sizeLine := by
 obtain ⟨z, its, n, r, e⟩ := I.hok p _ h
 exact ⟨its, n, r, e, z⟩
theorem Inv.lstUpd {pins : List (Addr × Obj)} {σ : St} {H : Hp} {s : Shared} {p : Addr} {xs ys : List V} {its its' : List Value} {n n' : Nat} {f : Obj → Obj} (I : Inv X pins σ H s) (h : H p = some (.lst xs))
  (ho : s.heap.get? p = some { cls := .type "list", data := .seq its.toArray n }) (hf : f { cls := .type "list", data := .seq its.toArray n } = { cls := .type "list", data := .seq its'.toArray n' }) (r : Vals ys its') (hz : ys.length ≤ sizeLine) (t : Nat) :
  Inv X pins σ (upd H p (.lst ys)) { s with heap := s.heap.update p f, toks := t } := by
 have e : (s.heap.update p f).get? p = some { cls := .type "list", data := .seq its'.toArray n' } := by
  rw [Heap.get?_update_self f ho (by rw [hf] <;> rfl), hf]
 refine I.write (x := p) (e := p) (by rw [h]; trivial) (.inl rfl) (fun b u hb q => (Heap.get?_update_other _ _ (Ne.symm hb)).trans q) ⟨_, e⟩ ?_
 exact ⟨hz, its', n', r, e⟩
def rSetL : V → V → V → Hp → (Hp → Prop) → Prop := fun o i v H Q => ∃ p xs k j, o = .ref p ∧ i = .int k ∧ H p = some (.lst xs) ∧ ixN xs.length k = some j ∧ Q (upd H p (.lst (xs.set j v)))
theorem set_list : PSet X rSetL := by
 intro pins s σ H o i v ov iv u Q I ro ri rv h
 obtain ⟨p, xs, k, j, rfl, rfl, hp, hj, q⟩ := h
 cases ro
 obtain ⟨t, rfl⟩ := ri
 obtain ⟨its, n, r, ho, hz⟩ := I.lst hp
 obtain ⟨h1, h2, h3, h4⟩ := ixN_seq hj
 have hl := r.length
 have hn := line63
 have I' : Inv X pins σ (upd H p (.lst (xs.set j v))) { s with heap := s.heap.update p (Obj.mapSeq (·.setIfInBounds j u)) } :=
  I.lstUpd hp ho (mapSeq_set its n j u) (r.set rv j) (by rw [List.length_set]; exact hz) s.toks
 by_cases h0 : 0 ≤ k
 ·have hk : k.toNat = j := by
   rw [seqIndex_of h0 h4] at h1
   exact Option.some.inj h1
  exact PySem.W.ki_setAt ho h0 (by omega) (by rw [List.size_toArray, ← hl]; exact h4) (by rw [hk]; exact ⟨_, I', q⟩)
 ·have hk : (k + (its.toArray.size : Int)).toNat = j := by
   rw [seqIndex_neg (by omega) h3] at h1
   rw [List.size_toArray, ← hl]
   exact Option.some.inj h1
  exact PySem.W.ki_setBack ho (by omega) (by rw [List.size_toArray, ← hl]; exact h3) (by omega) (by rw [hk]; exact ⟨_, I', q⟩)
theorem call_len_seq : CallR X (.builtin "len") (fun xs H Q => ∃ p ys, xs = [.ref p] ∧ (SqL X.K H p ys ∨ SqT X.K H p ys) ∧ Q (.int ys.length) H) := by
 intro pins s σ H xs us Q I r h
 obtain ⟨p, ys, rfl, hq, q⟩ := h
 obtain ⟨u, rfl, rx⟩ := vals1 r
 cases rx
 have hn := line63
 rcases hq with hq | hq
 ·obtain ⟨its, r', pl, hz⟩ := I.list hq
  have hlen := r'.length
  exact Calls.call_len_list pl.isList (by simp only [List.size_toArray] <;> omega) ⟨.int ys.length, H, I.tok _, ⟨s.toks + 1, by rw [List.size_toArray, hlen]⟩, q⟩
 ·obtain ⟨its, r', pl, hz⟩ := I.tuple hq
  have hlen := r'.length
  exact len_tuple pl (by simp only [List.size_toArray] <;> omega) ⟨.int ys.length, H, I.tok _, ⟨s.toks + 1, by rw [List.size_toArray, hlen]⟩, q⟩
theorem call_len_str : CallR X (.builtin "len") (fun xs H Q => ∃ z, xs = [.str z] ∧ z.length ≤ sizeLine ∧ Q (.int z.length) H) := by
 intro pins s σ H xs us Q I r h
 obtain ⟨z, rfl, hz, q⟩ := h
 obtain ⟨u, rfl, t, rfl⟩ := vals1 r
 have hn := line63
 exact len_str (by omega) ⟨.int z.length, H, I.tok _, ⟨_, rfl⟩, q⟩
theorem CallR.or {f : Value} {r r' : List V → Hp → VK → Prop} (h : CallR X f r) (h' : CallR X f r') : CallR X f (fun xs H Q => r xs H Q ∨ r' xs H Q) := by
 intro pins s σ H xs us Q I rs q
 rcases q with q | q
 ·exact h pins s σ H xs us Q I rs q
 ·exact h' pins s σ H xs us Q I rs q
theorem call_list_of : CallR X (.type "list") (fun xs H Q => ∃ p ys, xs = [.ref p] ∧ (SqL X.K H p ys ∨ SqT X.K H p ys) ∧ ∀ l, H l = none → Q (.ref l) (upd H l (.lst ys))) := by
 intro pins s σ H xs us Q I r h
 obtain ⟨p, ys, rfl, hq, q⟩ := h
 obtain ⟨u, rfl, rx⟩ := vals1 r
 cases rx
 have fin : ∀ (its : List Value), Vals ys its → ys.length ≤ sizeLine → ∀ (h' : Heap) (c' : Nat), (∀ b o', s.heap.get? b = some o' → h'.get? b = some o') →
   h'.get? s.heap.objs.size = some { cls := .type "list", dict := none, data := .seq its.toArray c', slots := #[] } → EP X pins σ Q (.ref s.heap.objs.size) { s with heap := h' } := fun its r' hz h' c' kp e =>
  ⟨.ref s.heap.objs.size, _, I.laid (t' := s.toks) kp (Nat.le_refl _) (show ObjOk X.prog X.w _ h' _ (.lst ys) from ⟨hz, its, c', r', e⟩), rfl, q _ (I.hok.fresh (Nat.le_refl _))⟩
 rcases hq with hq | hq
 ·obtain ⟨its, r', pl, hz⟩ := I.list hq
  have hlen := r'.length
  obtain ⟨o, ho, hc, n, hd⟩ := pl.isList
  exact call_list_seq p (.inl rfl) ho hc hd (fun h' c' kp e => fin its r' hz h' c' kp e) (by simp only [List.size_toArray] <;> omega)
 ·obtain ⟨its, r', pl, hz⟩ := I.tuple hq
  have hlen := r'.length
  obtain ⟨o, ho, hc, n, hd⟩ := pl
  exact call_list_seq p (.inr rfl) ho hc hd (fun h' c' kp e => fin its r' hz h' c' kp e) (by simp only [List.size_toArray] <;> omega)
def tyV (K : PySem.W.Frag) (T : String) (x : V) (H : Hp) : Prop := match x with
 | .str _ => T = "str"
 | .int _ => T = "int"
 | .ref p => (T = "list" ∧ ∃ xs, SqL K H p xs) ∨ (T = "tuple" ∧ ∃ o, K.lookup p = some o ∧ o.cls = .type "tuple" ∧ o.dict = none) ∨
   (T = "dict" ∧ ((∃ kvs, H p = some (.dK kvs)) ∨ ∃ kvs, H p = some (.dT kvs))) ∨ (T = "set" ∧ ∃ S n, H p = some (.set S n))
 | _ => False
theorem tyV_is {pins : List (Addr × Obj)} {σ : St} {H : Hp} {s : Shared} {T : String} {x : V} {v : Value} (I : Inv X pins σ H s) (r : RelV x v) (ty : tyV X.K T x H) :
  s.TypeIs v T ∧ ∀ a, v = .ref a → ∃ ob, s.heap.get? a = some ob ∧ ob.dict = none := by
 cases x with
 | str z =>
  obtain ⟨t, rfl⟩ := r
  cases (show T = "str" from ty)
  exact ⟨typeIs_str s z t, fun _ e => nomatch e⟩
 | int i =>
  obtain ⟨t, rfl⟩ := r
  cases (show T = "int" from ty)
  exact ⟨typeIs_int s i t, fun _ e => nomatch e⟩
 | ref p =>
  cases r
  rcases ty with ⟨rfl, xs, hq⟩ | ⟨rfl, o, hk, hc, hd⟩ | ⟨rfl, hk⟩ | ⟨rfl, S, n, hk⟩
  ·obtain ⟨its, _, pl, _⟩ := I.list hq
   refine ⟨pl.isList.typeIs, fun a e => ?_⟩
   cases e
   obtain ⟨o, n, e, c, hd, _⟩ := pl
   exact ⟨o, e, hd⟩
  ·refine ⟨⟨o, I.kIn p o hk, hc⟩, fun a e => ?_⟩
   cases e
   exact ⟨o, I.kIn _ o hk, hd⟩
  ·have z : ∃ o, s.heap.get? p = some o ∧ o.ExactDict := by
    rcases hk with ⟨kvs, hk⟩ | ⟨kvs, hk⟩
    ·obtain ⟨_, _, _, _, o, _, _, e, ex, _⟩ := I.hok p _ hk
     exact ⟨o, e, ex⟩
    ·obtain ⟨_, _, _, _, o, _, _, e, ex, _⟩ := I.hok p _ hk
     exact ⟨o, e, ex⟩
   obtain ⟨o, e, ex⟩ := z
   refine ⟨⟨o, e, ex.1⟩, fun a e2 => ?_⟩
   cases e2
   exact ⟨o, e, ex.2.1⟩
  ·obtain ⟨o, _, _, _, e, ex, _⟩ := I.hok p _ hk
   refine ⟨⟨o, e, ex.1⟩, fun a e2 => ?_⟩
   cases e2
   exact ⟨o, e, ex.2.1⟩
 | _ => exact False.elim ty
def tBM0 (K : PySem.W.Frag) (T : String) (r : V → List V → Hp → VK → Prop) (to : TE) : TE := fun σ H Q => to σ H fun x H1 => tyV K T x H1 ∧ r x [] H1 Q
def tBM (K : PySem.W.Frag) (T : String) (r : V → List V → Hp → VK → Prop) (to : TE) (t : TA) : TE := fun σ H Q => to σ H fun x H1 => tyV K T x H1 ∧ t σ H1 fun xs H2 => r x xs H2 Q
variable {o e : Expr} {es : List Expr} {to : TE} {t : TA} {name : Str} {apos cpos : Pos} {T id : String} {r : V → List V → Hp → VK → Prop}
theorem pe_bm0 (pa : PlainAttrs T) (slot : Slot T name id) (hty : typeOf (.builtin id) = pure (.type "method_descriptor")) (hm : MtR X id r) (ho : PE X o to)
  (hbase : attributeBase o name X.env (eval o X.env) = eval o X.env := by rfl) (hline : (apos.endLine == cpos.line) = true := by rfl) : PE X (.Call (.Attribute o name apos) [] [] cpos) (tBM0 X.K T r to) := by
 intro pins s σ H Q I h
 refine wpAny_Call_method0_late hbase hline (thn (ho pins s σ H _ I h) fun v s1 ⟨x, H1, I1, r1, ty, q1⟩ => ?_)
 obtain ⟨h1, h2⟩ := tyV_is I1 r1 ty
 exact ⟨T, id, pa, slot, hty, h1, h2, Calls.callWith_builtin rfl (PySem.evalArgs_none (hm pins s1 σ H1 x [] v [] Q I1 r1 .nil q1))⟩
theorem pe_bm (pa : PlainAttrs T) (slot : Slot T name id) (hty : typeOf (.builtin id) = pure (.type "method_descriptor")) (hm : MtR X id r) (ho : PE X o to) (ha : PA X (e :: es) t)
  (hbase : attributeBase o name X.env (eval o X.env) = eval o X.env := by rfl)
  (hfew : ((backTo cpos (starEach (e :: es) X.env)).all (fun x => !x.1) && (backToKw cpos (keywordEach [] X.env)).all (fun x => x.1.isSome)
   && decide ((e :: es).length + ([] : List Keyword).length + (if ([] : List Keyword).isEmpty then 0 else 1) < 30)) = true := by rfl)
  (hline : (apos.endLine == cpos.line) = true := by rfl) (hs : starEach (e :: es) X.env = (false, eval e X.env) :: starEach es X.env := by rfl) (hplain : (backTo cpos (starEach es X.env)).any (·.1) = false := by rfl) :
  PE X (.Call (.Attribute o name apos) (e :: es) [] cpos) (tBM X.K T r to t) := by
 intro pins s σ H Q I h
 refine wpAny_Call_method_late hbase hfew hline rfl (thn (ho pins s σ H _ I h) fun v s1 ⟨x, H1, I1, r1, ty, q1⟩ => ?_)
 obtain ⟨h1, h2⟩ := tyV_is I1 r1 ty
 refine ⟨T, id, pa, slot, hty, h1, h2, ?_⟩
 have hA := ha cpos pins s1 σ H1 _ I1 q1
 rw [hs] at hA ⊢
 refine Calls.callWith_builtin (by show (false || (backTo cpos (starEach es X.env)).any (·.1)) = false; rw [hplain] <;> rfl) (Calls.evalArgs_plain ?_)
 exact thn hA fun us s2 ⟨vs, H2, I2, r2, q2⟩ => hm pins s2 σ H2 x vs v us Q I2 r1 r2 q2
end
end L2
namespace L2
open PySem PySem.Spec PyProof.Rows
def MtM (X : Cx) (id : String) (r : V → List V → Hp → VK → Prop) : Prop :=
 ∀ (pins : List (Addr × Obj)) (s : Shared) (σ : St) (H : Hp) (x : V) (xs : List V) (v : Value) (us : List Value) (Q : VK), Inv X pins σ H s → RelV x v → Vals xs us → r x xs H Q →
  wpAny (model X.prog X.w) X.A (call (.builtin id) (v :: us)) (EP X pins σ Q) X.xe s
theorem Vals.one : ∀ {x : V} {us : List Value}, Vals [x] us → ∃ u, us = [u] ∧ RelV x u
 | _, _, .cons r .nil => ⟨_, rfl, r⟩
theorem Vals.two : ∀ {x y : V} {us : List Value}, Vals [x, y] us → ∃ u v, us = [u, v] ∧ RelV x u ∧ RelV y v
 | _, _, _, .cons r (.cons q .nil) => ⟨_, _, rfl, r, q⟩
theorem Vals.zero : ∀ {us : List Value}, Vals [] us → us = []
 | _, .nil => rfl
theorem Vals.eraseIdx : ∀ {xs : List V} {us : List Value} (i : Nat), Vals xs us → Vals (xs.eraseIdx i) (us.eraseIdx i)
 | _, _, _, .nil => .nil
 | _, _, 0, .cons _ t => t
 | _, _, i + 1, .cons r t => .cons r (Vals.eraseIdx i t)
theorem Vals.rep {xs : List V} {us : List Value} (h : Vals xs us) : ∀ k : Nat, Vals (List.replicate k xs).flatten (List.replicate k us).flatten
 | 0 => .nil
 | k + 1 => by
  rw [List.replicate_succ, List.replicate_succ, List.flatten_cons, List.flatten_cons]
  exact Vals.append h (Vals.rep h k)
theorem len_erase {α : Type} : ∀ (l : List α) (i : Nat), (l.eraseIdx i).length ≤ l.length
 | [], _ => Nat.le_refl _
 | _ :: _, 0 => Nat.le_succ _
 | _ :: r, i + 1 => Nat.succ_le_succ (len_erase r i)
theorem foldl_rep (its : List Value) : ∀ (k : Nat) (acc : List Value),
  List.foldl (fun x1 x2 => x1 ++ x2) acc.toArray (List.replicate k its.toArray) = (acc ++ (List.replicate k its).flatten).toArray
 | 0, acc => by simp
 | k + 1, acc => by
  have e : acc.toArray ++ its.toArray = (acc ++ its).toArray := by simp
  have e2 : (acc ++ its) ++ (List.replicate k its).flatten = acc ++ (List.replicate (k + 1) its).flatten := by
   rw [List.replicate_succ, List.flatten_cons, List.append_assoc]
  rw [← e2, ← foldl_rep its k (acc ++ its), ← e, List.replicate_succ, List.foldl_cons]
section
variable {X : Cx} {pins : List (Addr × Obj)} {σ : St} {H : Hp} {s : Shared} {l b : Addr} {xs ys zs : List V}
theorem Inv.lset {its its' : List Value} {n : Nat} {f : Array Value → Array Value} {t' : Nat} (I : Inv X pins σ H s) (hH : H l = some (.lst xs))
  (e : s.heap.get? l = some { cls := .type "list", data := .seq its.toArray n }) (hf : f its.toArray = its'.toArray) (hv : Vals ys its') (hz : ys.length ≤ sizeLine) :
  Inv X pins σ (upd H l (.lst ys)) { s with heap := s.heap.update l (Obj.mapSeq f), toks := t' } := by
 have q := PySem.IsL.update e f
 rw [hf] at q
 refine I.write (x := l) (e := l) (by rw [hH]; exact trivial) (.inl rfl) (fun b' u hb hu => (Heap.get?_update_other s.heap (Obj.mapSeq f) (Ne.symm hb)).trans hu) ⟨_, q⟩ ?_
 exact ⟨hz, its', _, hv, q⟩
theorem Inv.lnew {its : List Value} {t' : Nat} (I : Inv X pins σ H s) (hv : Vals ys its) (hz : ys.length ≤ sizeLine) :
  Inv X pins σ (upd H s.heap.objs.size (.lst ys)) { s with heap := s.heap.push { cls := .type "list", data := .seq its.toArray }, toks := t' } :=
 I.laid (fun _ _ q => Heap.get?_push_of_some _ q) (Nat.le_refl _) ⟨hz, its, 0, hv, Heap.get?_push_size _ rfl⟩
theorem Inv.fresh (I : Inv X pins σ H s) : H s.heap.objs.size = none := I.hok.fresh (Nat.le_refl _)
theorem Inv.lstM (I : Inv X pins σ H s) (hH : H l = some (.lst xs)) : xs.length ≤ sizeLine ∧ ∃ (its : List Value) (n : Nat), Vals xs its ∧ xs.length = its.length ∧ s.heap.get? l = some { cls := .type "list", data := .seq its.toArray n } := by
 obtain ⟨z, its, n, r, e⟩ := I.hok l _ hH
 exact ⟨z, its, n, r, r.length, e⟩
theorem Inv.lstR (I : Inv X pins σ H s) (hH : Rd H l (.lst xs)) : xs.length ≤ sizeLine ∧ ∃ (its : List Value) (n : Nat), Vals xs its ∧ xs.length = its.length ∧ s.heap.get? l = some { cls := .type "list", data := .seq its.toArray n } := by
 obtain ⟨z, its, n, r, e⟩ := hH.ok I.hok
 exact ⟨z, its, n, r, r.length, e⟩
theorem notLongL {n : Nat} (h : n ≤ sizeLine) : Builtin.List.listTooLong n = false := by
 unfold Builtin.List.listTooLong
 exact decide_eq_false (by omega)
end
section
variable {X : Cx}
def rAppend : V → List V → Hp → VK → Prop := fun x vs H Q => ∃ l xs y, x = .ref l ∧ vs = [y] ∧ H l = some (.lst xs) ∧ xs.length < sizeLine ∧ Q .non (upd H l (.lst (xs ++ [y])))
theorem mt_append : MtM X "list.append" rAppend := by
 intro pins s σ H x vs v us Q I rx rv h
 obtain ⟨l, xs, y, rfl, rfl, hH, hz, q⟩ := h
 cases rx
 obtain ⟨u, rfl, ru⟩ := rv.one
 obtain ⟨z, its, n, r, hl, e⟩ := I.lstM hH
 refine call_meets F.slot_list_append ⟨_, e, rfl⟩ F.entry_list_append (F.args_list_append_2 _ _) (PySem.list_append l its.toArray n u (by rw [List.size_toArray]; omega)) ⟨e, ?_⟩
 refine ⟨.non, _, I.lset (its' := its ++ [u]) hH e (by simp) (r.append (.cons ru .nil)) ?_, rfl, q⟩
 rw [List.length_append, List.length_singleton]
 omega
def rPopAt : V → List V → Hp → VK → Prop := fun x vs H Q => ∃ l xs i k y, x = .ref l ∧ vs = [.int i] ∧ H l = some (.lst xs) ∧ -(2 ^ 63) ≤ i ∧ i < 2 ^ 63 ∧ seqIndex? i xs.length = some k ∧ xs[k]? = some y ∧ Q y (upd H l (.lst (xs.eraseIdx k)))
theorem mt_popAt : MtM X "list.pop" rPopAt := by
 intro pins s σ H x vs v us Q I rx rv h
 obtain ⟨l, xs, i, k, y, rfl, rfl, hH, h1, h2, hk, hy, q⟩ := h
 cases rx
 obtain ⟨u, rfl, ru⟩ := rv.one
 obtain ⟨t, rfl⟩ := ru
 obtain ⟨z, its, n, r, hl, e⟩ := I.lstM hH
 obtain ⟨w, hw, rw'⟩ := r.get hy
 refine call_meets F.slot_list_pop ⟨_, e, rfl⟩ F.entry_list_pop (F.args_list_pop_2 _ _)
  (MeetsSeq.list_pop_at l its.toArray n i t k w (fitsIndex_both h1 h2) (by rw [List.size_toArray, ← hl]; exact hk) (by rw [← Array.getElem?_toList]; exact hw) (by rw [List.size_toArray]; omega)) ⟨e, ?_⟩
 refine ⟨y, _, I.lset (its' := its.eraseIdx k) hH e ?_ (r.eraseIdx k) ?_, rw', q⟩
 ·show its.toArray.eraseIdxIfInBounds k = (its.eraseIdx k).toArray
  rw [List.eraseIdxIfInBounds_toArray]
 ·have := len_erase xs k
  omega
def rClear : V → List V → Hp → VK → Prop := fun x vs H Q => ∃ l xs, x = .ref l ∧ vs = [] ∧ H l = some (.lst xs) ∧ Q .non (upd H l (.lst []))
theorem mt_clear : MtM X "list.clear" rClear := by
 intro pins s σ H x vs v us Q I rx rv h
 obtain ⟨l, xs, rfl, rfl, hH, q⟩ := h
 cases rx
 have hus := rv.zero
 subst hus
 obtain ⟨z, its, n, r, hl, e⟩ := I.lstM hH
 refine call_meets F.slot_list_clear ⟨_, e, rfl⟩ F.entry_list_clear (F.args_list_clear_1 _) (AutoSeq1.list_clear_list_0 l its.toArray n (by rw [List.size_toArray]; omega)) ⟨e, ?_⟩
 exact ⟨.non, _, I.lset (its' := []) (ys := []) hH e rfl .nil (Nat.zero_le _), rfl, q⟩
def rCat : R2 := fun x y H Q => ∃ l b xs zs, x = .ref l ∧ y = .ref b ∧ Rd H l (.lst xs) ∧ Rd H b (.lst zs) ∧ xs.length + zs.length ≤ sizeLine ∧ ∀ p, H p = none → Q (.ref p) (upd H p (.lst (xs ++ zs)))
theorem op_cat : OpR X (binaryOp .Add) rCat := by
 intro pins s σ H x y v u Q I rx ry h
 obtain ⟨l, b, xs, zs, rfl, rfl, hH, hB, hz, q⟩ := h
 cases rx
 cases ry
 obtain ⟨z, its, n, r, hl, e⟩ := I.lstR hH
 obtain ⟨z2, its2, n2, r2, hl2, e2⟩ := I.lstR hB
 refine PySem.P.add_list e e2 ?_ (by rw [List.size_toArray, List.size_toArray]; omega)
 have ea : its.toArray ++ its2.toArray = (its ++ its2).toArray := by simp
 rw [ea]
 exact ⟨.ref _, _, I.lnew (t' := s.toks) (r.append r2) (by rw [List.length_append]; omega), rfl, q _ I.fresh⟩
def rRep : R2 := fun x y H Q => ∃ l k xs, x = .ref l ∧ y = .int k ∧ Rd H l (.lst xs) ∧ -(2 ^ 63) ≤ k ∧ k < 2 ^ 63 ∧ xs.length * k.toNat ≤ sizeLine ∧
 ∀ p, H p = none → Q (.ref p) (upd H p (.lst (List.replicate k.toNat xs).flatten))
theorem len_rep {α : Type} (xs : List α) (k : Nat) : (List.replicate k xs).flatten.length = k * xs.length := by
 induction k with
 | zero => simp
 | succ k ih => rw [List.replicate_succ, List.flatten_cons, List.length_append, ih, Nat.succ_mul, Nat.add_comm]
theorem op_rep : OpR X (binaryOp .Mult) rRep := by
 intro pins s σ H x y v u Q I rx ry h
 obtain ⟨l, k, xs, rfl, rfl, hH, h1, h2, hz, q⟩ := h
 cases rx
 obtain ⟨t, rfl⟩ := ry
 obtain ⟨z, its, n, r, hl, e⟩ := I.lstR hH
 have hlen : its.toArray.size * k.toNat ≤ sizeLine := by rw [List.size_toArray, ← hl]; exact hz
 have hcap : ¬ its.toArray.size * k.toNat > (2 ^ 63 - 1) / 8 := by
  have : (sizeLine : Nat) ≤ (2 ^ 63 - 1) / 8 := by decide
  omega
 have hfit : ¬ (!Builtin.List.listFitsIndex k) = true := by
  rw [fitsIndex_both h1 h2]
  exact Bool.false_ne_true
 have hlong : ¬ Builtin.List.listTooLong (its.toArray.size * k.toNat) = true := by
  rw [notLongL hlen]
  exact Bool.false_ne_true
 have hnew : List.foldl (fun x1 x2 => x1 ++ x2) #[] (List.replicate (if its.toArray.isEmpty = true then 0 else k.toNat) its.toArray) = (List.replicate k.toNat its).flatten.toArray := by
  have f0 : ∀ m : Nat, List.foldl (fun x1 x2 => x1 ++ x2) #[] (List.replicate m its.toArray) = (List.replicate m its).flatten.toArray := fun m => by
   have := foldl_rep its m []
   rw [List.nil_append] at this
   exact this
  rw [f0]
  cases its with
  | nil => simp
  | cons a r' => rw [if_neg (by simp)]
 refine wpAny_binaryOp_repeat_ref (T := "list") (U := "int") (by decide) ⟨_, e, rfl⟩ (fun s' => typeIs_int s' k t) noFill_list_mul F.fills_int_mul F.slot_int_rmul repeat_list F.slot_int_index.lookup
  (call_meets F.slot_int_rmul (typeIs_int s k t) F.entry_int_rmul (F.args_int_rmul_2 _ _) (int___rmul___int_list k t l its.toArray n)
   ⟨e, rfl, ⟨_, e, rfl⟩, call_meets F.slot_list_mul ⟨_, e, rfl⟩ F.entry_list_mul (F.args_list_mul_2 _ _) (AutoListH.list___mul___list_int_3 l its.toArray n k t hfit hcap hlong) ⟨e, ?_⟩⟩)
 rw [hnew]
 exact ⟨.ref _, _, I.lnew (t' := s.toks) (r.rep k.toNat) (by rw [len_rep, Nat.mul_comm]; exact hz), rfl, q _ I.fresh⟩
end
section
variable {prog : Program} {w : World} {A : Around} {E : Value → Shared → Prop} {s : Shared}
theorem splice_eq (its its2 : List Value) (a c : Nat) : its.toArray.extract 0 a ++ its2.toArray ++ its.toArray.extract c its.toArray.size = (its.take a ++ its2 ++ its.drop c).toArray := by
  apply Array.toList_inj.mp
  first
    | (simp
       exact List.take_of_length_le (by simp))
    | simp [List.take_of_length_le]
    | simp
set_option maxRecDepth 100000 in
end
section
variable {X : Cx}
end
end L2
namespace Att
open PySem PySem.W PySem.Calls PyProof.Rows
theorem ints_of_wellAll {P : Params} {h : Heap} : ∀ (ns : List Int) (vs : List Value), WellAll P h vs (ns.map WData.int) → IntsAre vs ns := by
 intro ns
 induction ns with
 | nil =>
  intro vs w
  rw [List.map_nil] at w
  cases w
  exact .nil
 | cons n ns ih =>
  intro vs w
  rw [List.map_cons] at w
  cases w with
  | cons a b =>
   cases a
   exact .cons _ _ (ih _ b)
theorem script_of {l : OpenLaw} {n : Nat} (hn : l.most = some n) {P : Params} {h : Heap} {args : List WData} {vals : List Value}
  (hpre : l.row.toRowW.claim.pre args = true) (hwl : WellAll P h vals args) :
  ∃ a vs ns, vals = [Value.ref a] ∧ args = [WData.list (ns.map WData.int)] ∧ h.get? a = some { cls := .type "list", data := .seq vs.toArray } ∧ IntsAre vs ns ∧ ns.length ≤ n := by
 have hsh : WShape.hasAll [] args [.list .int] = true := (pre_splitW hpre).1
 have hc : l.pre.holds [] { args := args } = true := (pre_splitW hpre).2
 obtain ⟨d, r, rfl, h1, h2⟩ := hasAllW_cons hsh
 obtain rfl := hasAllW_nil h2
 obtain ⟨xs, rfl, h3⟩ := hasW_list h1
 obtain ⟨ns, rfl⟩ := items_int h3
 have hlen : ns.length ≤ n := by
  unfold OpenLaw.pre at hc
  have h4 : (WTm.not (.lt (.lit (.int (n : Int))) (.len (.arg 0)))).holds [] { args := [.list (ns.map .int)] } = true := by
   have h4 := (holds_andW hc).1
   rw [hn] at h4
   exact h4
  have h5 := condW_of h4 (w_not (w_lt w_lit (w_len_list (w_arg rfl))))
  rw [List.length_map] at h5
  refine Nat.le_of_not_lt fun q => ?_
  have q' : (n : Int) < ((ns.length : Nat) : Int) := by omega
  first
   | (rw [decide_eq_true q'] at h5; exact absurd h5 (by decide))
   | (simp at h5; omega)
 cases hwl with
 | cons w1 w2 =>
  cases w2
  cases w1 with
  | list ho hall => exact ⟨_, _, ns, rfl, rfl, ho, ints_of_wellAll ns _ hall, hlen⟩
theorem post_true (l : OpenLaw) (args : List WData) : l.row.toRowW.claim.post args (.bool true) args = true :=
 postW_of (r := l.row.toRowW) (X := (true == true))
  (show WShape.has [] (.bool true) .bool = true by first | rfl | decide | simp [WShape.has, WShape.arms, WShape.armsAll])
  (show (WTm.eq .res (.lit (.bool true))).value [] { args := args, res := some (.bool true), after := args } = some (.bool (true == true)) from w_eq_bool (w_res rfl) w_lit) rfl
theorem attach_call {l : OpenLaw} {n : Nat} {q : Program} {loose : List Str} {XP : (Str → Option Value) → Heap → Prop} {YP : World → Heap → Prop} {d : DefRec}
  (hn : l.most = some n) (hdf : d.params.defaults = [])
  (call : ∀ (w : World) (s₀ s₁ : Shared) (mg mb : Str → Option Value) (fa : Addr) (o : Obj) (pm cd doc : Value) (a : Addr) (vs : List Value) (ns : List Int),
   Ground q loose [] XP w s₀ mg mb s₁.heap → YP w s₁.heap →
   s₁.heap.get? fa = some o → o.data = .func (docDef d.name d.params d.body d.scope pm cd doc) → s₁.heap.CodeRec cd d.name → mg d.name = some (.ref fa) →
   s₁.heap.get? a = some { cls := .type "list", data := .seq vs.toArray } → IntsAre vs ns → ns.length ≤ n → (∀ z ∈ ns, z.natAbs.log2 < 1048577) → s₁.gens = #[] →
   codeAny (model l.prog w) callerA (.call (.ref fa) ⟨[.ref a], []⟩) (fun r s' => r = .ok (.ret (.bool true)) ∧ OldK s₁.heap s'.heap ∧ s'.os = s₁.os ∧ AllBare s'.gens) s₁) :
  WalkO q loose XP YP l.row.toRowW d [] (fun f vs => PySem.call f vs) := by
 intro w s₀ s₁ mg mb G Y fa o pm cd doc dV kV ho hd hcd hD hmg hg args vals as hpre hlay hrd hwl hlo
 obtain rfl : dV = .none := Dflts.none hD hdf
 obtain rfl : kV = .none := Dflts.noKw hD
 obtain ⟨a, vs, ns, rfl, rfl, hobj, hints, hlen⟩ := script_of hn hpre hwl
 have hbits : ∀ z ∈ ns, z.natAbs.log2 < 1048577 := fun z hz => by
  have l1 := layableW_arg hlay (WData.list (ns.map WData.int)) (by simp)
  have l2 := layableW_item l1 (WData.int z) (List.mem_map.mpr ⟨z, hz, rfl⟩)
  have l3 : (if z == 0 then 0 else z.natAbs.log2 + 1) ≤ 2 ^ 20 := by simpa [WData.weight] using (layableW_iff.mp l2).2.2
  by_cases h0 : z = 0
  ·subst h0; decide
  ·rw [if_neg (by simpa using h0)] at l3
   omega
 refine enter_call (codeAny_mono (call w s₀ s₁ mg mb fa o pm cd doc a vs ns G Y ho (fd_plain hd) hcd hmg hobj hints hlen hbits hg) fun r s' hq => ?_)
 obtain ⟨rfl, h2, h3, h4⟩ := hq
 exact ⟨.inl ⟨.bool true, .bool true, [], rfl, fun _ => rfl, .bool true, post_true l _, fun _ => ⟨List.Pairwise.nil, fun _ hm => (nomatch hm)⟩⟩, h2, h3, h4⟩
section
variable {prog : Program} {w : World} {A : Around} {E : Value → Shared → Prop} {s : Shared} {K : Frag}
end
end Att
namespace L2
open PySem PySem.Spec PyProof.Rows
theorem vals_ints : ∀ {vs : List Value} {ns : List Int}, IntsAre vs ns → Vals (ns.map V.int) vs
 | _, _, .nil => .nil
 | _, _, .cons n t h => .cons ⟨t, rfl⟩ (vals_ints h)
def Only (H : Hp) : Prop := ∀ b, H b = none ∨ ∃ o xs, H b = some (.frz o (.lst xs))
theorem law_call {P : Program} {w : World} {K : PySem.W.Frag} {mg mb : Str → Option Value} {CX : CXT} {k : Nat} {fa a : Addr} {fd : FuncData} {x : Str} {sp : Sp} {s₁ : Shared} {vs : List Value} {ns : List Int}
  (KX : K.In s₁.heap) (hns : s₁.heap.Ns mainGlobals mg) (hb : s₁.heap.Ns builtinsNs mb) (hbb : ∀ x : Str, x ≠ "__name__" → mb x = bootBuiltins x) (hlim : s₁.heap.NoLimit) (hse : s₁.heap.NoSeer) (hg : s₁.gens = #[])
  (ha : s₁.heap.get? a = some { cls := .type "list", data := .seq vs.toArray }) (hi : IntsAre vs ns) (hl : ns.length ≤ sizeLine) (hr : Room k callerA)
  (F : ∀ base : Heap, K.In base → base.Ns mainGlobals mg → FnOk P w K mg base CX k fa fd [x] sp) (hbind : ∀ (s : Shared) (u : Value), BindsTo s fd ⟨[u], []⟩ [(x, u)])
  (hsp : ∀ H : Hp, Only H → SqL K H a (ns.map V.int) → sp [.ref a] H (fun v _ => v = .bl true) fun _ _ _ => False)
  (hCX : ∀ H e s', CX [] H s₁ (fun _ _ _ => False) e s' → False) :
  codeAny (model P w) callerA (.call (.ref fa) ⟨[.ref a], []⟩) (fun r s' => r = .ok (.ret (.bool true)) ∧ OldK s₁.heap s'.heap ∧ s'.os = s₁.os ∧ AllBare s'.gens) s₁ := by
 have rv := vals_ints hi
 have lenV := hi.length
 -- from an abstract heap in which nothing but the script may be tracked
 have core : ∀ H : Hp, Only H → SqL K H a (ns.map V.int) → HOk P w H s₁.heap → (∀ b, H b ≠ none → b = a) → (H a ≠ none → K.lookup a = none) →
   codeAny (model P w) callerA (.call (.ref fa) ⟨[.ref a], []⟩) (fun r s' => r = .ok (.ret (.bool true)) ∧ OldK s₁.heap s'.heap ∧ s'.os = s₁.os ∧ AllBare s'.gens) s₁ := by
  intro H hO hS hok hA hK
  have base_of : ∀ {b : Addr} {o : Obj}, s₁.heap.get? b = some o → H b = none → (hidT s₁.heap H).get? b = some o := fun e n => hidT_get e n
  have noA : ∀ {b : Addr} {o : Obj} {es : Array DictEntry} {ep : Nat}, s₁.heap.get? b = some o → o.data = .dict es ep → H b = none := fun {b o es ep} e d => by
   cases q : H b with
   | none => rfl
   | some u =>
    have e' : b = a := hA b (by rw [q]; simp)
    subst e'
    rw [ha] at e; cases e
    have d' : Data.seq vs.toArray _ = Data.dict es ep := d
    cases d'
  have nsK : ∀ {b : Addr} {m : Str → Option Value}, s₁.heap.Ns b m → (hidT s₁.heap H).Ns b m := fun {b m} ⟨o, es, ep, e, d, r⟩ => ⟨o, es, ep, base_of e (noA e d), d, r⟩
  have hKb : K.In (hidT s₁.heap H) := fun b o e => base_of (KX b o e) (by
   cases q : H b with
   | none => rfl
   | some u =>
    have e' : b = a := hA b (by rw [q]; simp)
    subst e'
    rw [hK (by rw [q]; simp)] at e; cases e)
  have hM : Mod K mg (hidT s₁.heap H) := ⟨hKb, nsK hns, ⟨mb, nsK hb, hbb⟩, let ⟨mc, h1, h2⟩ := hlim; ⟨mc, nsK h1, h2⟩,
   ⟨let ⟨mc, a, b⟩ := hse.statics; ⟨mc, nsK a, b⟩, let ⟨mc, a, b⟩ := hse.mods; ⟨mc, nsK a, b⟩, let ⟨mc, a, b⟩ := hse.imp; ⟨mc, nsK a, b⟩, let ⟨mg', bm, ob, a', b', c', d', e'⟩ := hse.main; ⟨mg', bm, ob, nsK a', b', base_of c' (by
    cases q : H bm with
    | none => rfl
    | some u =>
     have e2 : bm = a := hA bm (by rw [q]; simp)
     subst e2
     rw [ha] at c'; cases c'
     have d2 : Value.type "list" = Value.type "module" := d'
     exact absurd d2 (by decide +kernel)), d', e'⟩⟩⟩
  have e0 : Env0 P w K mg (hidT s₁.heap H) callerA [] s₁ H := ⟨rfl, hM, fun b o e => of_hidT e, Nat.le_of_eq (hidT_size _ _), trivial, fun b hb => absurd (show b ∈ ([] : List Addr) from hb) (by simp), hok, .of_eq hg⟩
  refine codeAny_mono ((F _ hKb (nsK hns)).run callerA [] s₁ H ⟨[.ref a], []⟩ [.ref a] [.ref a] _ _ hr e0 (hbind s₁ (.ref a)) (.cons rfl .nil) (hsp H hO hS)) fun r s' h => ?_
  cases r with
  | error e => exact (hCX H e s' h).elim
  | ok fl =>
   cases fl with
   | next => exact False.elim h
   | brk => exact False.elim h
   | cont => exact False.elim h
   | ret u =>
    obtain ⟨v, H', os, bare, un, hok', r', q⟩ := h
    have q' : v = .bl true := q
    subst q'
    obtain rfl : u = Value.bool true := r'
    refine ⟨rfl, OldK.of_keep fun b o e => ?_, os, bare⟩
    cases q : H b with
    | none => exact un.keep b o e q (by intro z; exact absurd (show b ∈ ([] : List Addr) from z) (by simp)) (by simp)
    | some u =>
     rcases hO b with z | ⟨ob, xs, z⟩
     ·rw [q] at z; cases z
     ·have z2 := un.frzs b ob _ z
      obtain ⟨e1, _⟩ := hok b _ z
      obtain ⟨e2, _⟩ := hok' b _ z2
      rw [e] at e1; cases e1
      exact e2
 cases hk : K.lookup a with
 | some o =>
  -- the script is one of the module's own objects
  have e := KX a o hk
  rw [ha] at e
  cases e
  refine core (fun _ => none) (fun _ => .inl rfl) (.inr ⟨_, vs.toArray, _, hk, rfl, rfl, rfl, by rw [List.size_toArray, lenV]; exact hl, by simpa using rv⟩) (fun b u z => by have z' : (none : Option HO) = some u := z; cases z') (fun b z => absurd rfl z) fun z => absurd rfl z
 | none =>
  refine core (fun b => if b = a then some (.frz { cls := .type "list", data := .seq vs.toArray } (.lst (ns.map V.int))) else none) (fun b => ?_) (.inl (.inr ⟨{ cls := .type "list", data := .seq vs.toArray }, if_pos rfl⟩)) (fun b u z => ?_) (fun b z => ?_) fun _ => hk
  ·by_cases hb : b = a
   ·exact .inr ⟨_, _, if_pos hb⟩
   ·exact .inl (if_neg hb)
  ·by_cases hb : b = a
   ·have z' := (if_pos hb).symm.trans z
    cases z'
    subst hb
    exact ⟨ha, by rw [List.length_map]; exact hl, vs, _, rv, ha⟩
   ·have z' := (if_neg hb).symm.trans z
    cases z'
  ·by_cases hb : b = a
   ·exact hb
   ·exact absurd (if_neg hb) z
end L2
namespace L2
open PySem PySem.Spec PyProof.Rows
abbrev KOf {K : PySem.W.Frag} {h : Heap} (_ : K.In h) : PySem.W.Frag := K
theorem walk_of {l : PySem.W.OpenLaw} {n k : Nat} {q : Program} {loose : List Str} {XP : (Str → Option Value) → Heap → Prop} {YP : World → Heap → Prop} {d : DefRec} {K : Params → PySem.W.Frag} {CX : World → CXT} {sp : World → Sp} {x : Str}
  (hn : l.most = some n) (hn2 : n ≤ sizeLine) (hdf : d.params.defaults = []) (hr : Room k callerA)
  (hY : ∀ (w : World) (h : Heap), YP w h → (K w.params).In h)
  (F : ∀ (w : World) (mg : Str → Option Value) (fa : Addr) (h : Heap), (K w.params).In h → h.Ns mainGlobals mg → mg d.name = some (.ref fa) →
   ∃ fd : FuncData, (∀ (s : Shared) (u : Value), BindsTo s fd ⟨[u], []⟩ [(x, u)]) ∧
    ∀ base : Heap, (K w.params).In base → base.Ns mainGlobals mg → FnOk l.prog w (K w.params) mg base (CX w) k fa fd [x] (sp w))
  (hq : PyProof.Rows.importsNone q = true)
  (hsp : ∀ (w : World) (H : Hp) (a : Addr) (ns : List Int), ns.length ≤ n → (∀ z ∈ ns, z.natAbs.log2 < 1048577) → Only H → SqL (K w.params) H a (ns.map V.int) → sp w [.ref a] H (fun v _ => v = .bl true) fun _ _ _ => False)
  (hCX : ∀ (w : World) (H : Hp) (s : Shared) (e : Value) (s' : Shared), CX w [] H s (fun _ _ _ => False) e s' → False) :
  PySem.W.WalkO q loose XP YP l.row.toRowW d [] (fun f vs => PySem.call f vs) := by
 refine Att.attach_call hn hdf fun w s₀ s₁ mg mb fa o pm cd doc a vs ns G Y ho hd hcd hmg hobj hints hlen hbits hg => ?_
 have KX := hY w _ Y
 obtain ⟨fd, hb, hF⟩ := F w mg fa _ KX G.T.g hmg
 exact law_call KX G.T.g G.T.b G.T.builtins G.T.nolimit (G.T.seer hq) hg hobj hints (Nat.le_trans hlen hn2) hr hF hb (fun H hO hS => hsp w H a ns hlen hbits hO hS) fun H e s' => hCX w H s₁ e s'
end L2
namespace L2
open PySem PySem.Spec PyProof.Rows
def zI (s : Stmt) : Arguments := match s with
 | .FunctionDef _ a _ _ _ _ _ _ _ _ => a
 | _ => { posonlyargs := [], args := [], vararg := none, kwonlyargs := [], kw_defaults := [], kwarg := none, defaults := [] }
def zG (s : Stmt) : List Stmt := match s with
 | .FunctionDef _ _ b _ _ _ _ _ _ _ => b
 | _ => []
def zC (s : Stmt) : Scope := match s with
 | .FunctionDef _ _ _ _ _ _ sc _ _ _ => sc
 | _ => { kind := .function, names := [], isGenerator := false, isCoroutine := false }
abbrev CX0 : CXT := fun _ _ _ _ _ _ => False
abbrev E0 : XK := fun _ _ _ => False
theorem zT {X : Cx} : Passes CX0 X E0 := fun _ _ _ _ _ _ _ h => h.elim
structure Fun (K : PySem.W.Frag) (x qual : Str) (st : Stmt) (f : Addr) (fd : FuncData) : Prop where
 ex : ∃ (oc : Value) (od : Option Addr) (kV doc pm : Value) (an : Option Addr) (cdv ct : Value) (osl : Array (Option Value)),
  fd = PySem.W.fnOf x qual (zI st) (zG st) (zC st) .none kV doc pm an cdv ct ∧ K.lookup f = some ⟨oc, od, .func fd, osl⟩ ∧ PySem.W.codeIn K cdv qual = true
 kp : PySem.W.keepIn K (.ref f) = true
section
variable {P : Program} {w : World} {K : PySem.W.Frag} {mg : Str → Option Value} {base : Heap}
theorem Fun.ok {x qual : Str} {st : Stmt} {f : Addr} {fd : FuncData} {N ps : List Str} {k : Nat} {sp : Sp} (F : Fun K x qual st f fd) (S : zN N ps (zC st)) (len : ∀ vs H Q E, sp vs H Q E → vs.length = ps.length)
  (hbody : ∀ (cdv : Value) (A : Around) (outer : List Env) (s : Shared) (H : Hp) (vs : List V) (Q : VK) (E : XK), Room k (A.deeper (envOfC qual (zC st) s.heap.objs.size f cdv)) → sp vs H Q E →
   ∃ t, PSs (cxOf CX0 P w K mg base N qual (zC st) f cdv A outer s H E).nox (zG st) t ∧ t { nx := fun _ H' => Q .non H', rt := Q } (start N vs) H) : FnOk P w K mg base CX0 (k + 1) f fd ps sp := by
 obtain ⟨oc, od, kV, doc, pm, an, cdv, ct, osl, rfl, lk, hcd⟩ := F.ex
 refine fn_of lk hcd S len fun A outer s H vs Q E hr hsp => ?_
 obtain ⟨t, h, q⟩ := hbody cdv A outer s H vs Q E hr hsp
 exact ⟨t, h.nox, q⟩
theorem Fun.binds {x qual : Str} {st : Stmt} {f : Addr} {fd : FuncData} {ps : List Str} (F : Fun K x qual st f fd)
  (h : ∀ (kV doc pm : Value) (an : Option Addr) (cdv ct : Value) (us : List Value), us.length = ps.length → bindArgs (PySem.W.fnOf x qual (zI st) (zG st) (zC st) .none kV doc pm an cdv ct) ⟨us, []⟩ = pure (ps.zip us)) : zV K fd ps [] := by
 obtain ⟨oc, od, kV, doc, pm, an, cdv, ct, osl, rfl, lk, hcd⟩ := F.ex
 exact .all (h kV doc pm an cdv ct)
theorem yC {x qual : Str} {st : Stmt} {f : Addr} {oc : Value} {od an : Option Addr} {osl : Array (Option Value)} {kV doc pm cdv ct : Value} (l : K.lookup f = some ⟨oc, od, .func (PySem.W.fnOf x qual (zI st) (zG st) (zC st) .none kV doc pm an cdv ct), osl⟩)
  (c : PySem.W.codeIn K cdv qual = true) (k : PySem.W.keepIn K (.ref f) = true) : Fun K x qual st f (PySem.W.fnOf x qual (zI st) (zG st) (zC st) .none kV doc pm an cdv ct) := ⟨⟨oc, od, kV, doc, pm, an, cdv, ct, osl, rfl, l, c⟩, k⟩
end
section
variable {X : Cx}
end
def Same (H H' : Hp) : Prop := ∀ b o, H b = some o → H' b = some o
theorem Same.refl (H : Hp) : Same H H := fun _ _ h => h
theorem Same.trans {H H1 H2 : Hp} (a : Same H H1) (b : Same H1 H2) : Same H H2 := fun c o h => b c o (a c o h)
theorem Same.free {H H' : Hp} (e : Same H H') {l : Addr} (h : H' l = Option.none) : H l = Option.none := by
 cases q : H l with
 | none => rfl
 | some o =>
  rw [e l o q] at h
  cases h
end L2
end
section
namespace Np
open PySem
inductive D where
 | non | bl (b : Bool) | int (i : Int) | str (x : Str) | tup (xs : List D) | ref (a : Nat) | exc (c : Str) | scr (xs : List D)
 deriving Inhabited
inductive O where
 | lst (xs : List D) | dct (kvs : List (D × D)) | ins (c : Str) (fs : List (Str × D))
 deriving Inhabited
abbrev Sto := List O
inductive Rs (α : Type) where
 | ok (a : α) (S : Sto)
 | er (c : Str) (S : Sto)
abbrev R (α : Type) := Option (Rs α)
@[reducible] def ok {α : Type} (a : α) (S : Sto) : R α := some (.ok a S)
@[reducible] def er {α : Type} (c : Str) (S : Sto) : R α := some (.er c S)
def bnd {α β : Type} (m : R α) (k : α → Sto → R β) : R β := match m with
 | some (.ok a S) => k a S
 | some (.er c S) => some (.er c S)
 | none => none
@[simp] theorem bnd_ok {α β : Type} (a : α) (S : Sto) (k : α → Sto → R β) : bnd (some (Rs.ok a S)) k = k a S := rfl
theorem bnd_some {α β : Type} {m : R α} {k : α → Sto → R β} {r : Rs β} (h : bnd m k = some r) : (∃ a S, m = ok a S ∧ k a S = some r) ∨ ∃ c S, m = er c S ∧ r = .er c S := by
 cases m with
 | none => cases h
 | some m =>
  cases m with
  | ok a S => exact .inl ⟨a, S, rfl, h⟩
  | er c S => cases h; exact .inr ⟨c, S, rfl, rfl⟩
abbrev DS := List (Option D)
inductive Fl where
 | nx (δ : DS) | rt (d : D) | bk (δ : DS) | ct (δ : DS)
abbrev DE := DS → Sto → R D
abbrev DT := DS → Sto → R Bool
abbrev DA := DS → Sto → R (List D)
abbrev DSt := DS → Sto → R Fl
abbrev DG := D → DS → Sto → R DS
def vr (i : Nat) (δ : DS) (S : Sto) : R D := match δ[i]? with
 | some (some d) => ok d S
 | _ => none
def cst (d : D) (_ : DS) (S : Sto) : R D := ok d S
def op1 (f : D → Sto → R D) (a : DE) (δ : DS) (S : Sto) : R D := bnd (a δ S) f
def op2K (f : D → D → Sto → R D) (b : DE) (δ : DS) (x : D) (S : Sto) : R D := bnd (b δ S) (f x)
def op2 (f : D → D → Sto → R D) (a b : DE) (δ : DS) (S : Sto) : R D := bnd (a δ S) (op2K f b δ)
def aNil (_ : DS) (S : Sto) : R (List D) := ok [] S
def consK (x : D) (xs : List D) (S : Sto) : R (List D) := ok (x :: xs) S
def aConsK (r : DA) (δ : DS) (x : D) (S : Sto) : R (List D) := bnd (r δ S) (consK x)
def yF (e : DE) (r : DA) (δ : DS) (S : Sto) : R (List D) := bnd (e δ S) (aConsK r δ)
def fnE (f : List D → Sto → R D) (as : DA) (δ : DS) (S : Sto) : R D := bnd (as δ S) f
def fnD (f : List D → Sto → R D) (ds : List D) (as : List D) (S : Sto) : R D := f (as ++ ds) S
def ifEK (a b : DE) (δ : DS) : Bool → Sto → R D
 | true, S => a δ S
 | false, S => b δ S
def ifE (t : DT) (a b : DE) (δ : DS) (S : Sto) : R D := bnd (t δ S) (ifEK a b δ)
def zH (S : Sto) (a : Nat) : Option (List D) := match S[a]? with
 | some (.lst xs) => some xs
 | _ => none
def truV : D → Sto → R Bool
 | .bl b, S => ok b S
 | _, _ => none
def tv (e : DE) (δ : DS) (S : Sto) : R Bool := bnd (e δ S) truV
def andTK (b : DT) (δ : DS) : Bool → Sto → R Bool
 | true, S => b δ S
 | false, S => ok false S
def andT (a b : DT) (δ : DS) (S : Sto) : R Bool := bnd (a δ S) (andTK b δ)
def orTK (b : DT) (δ : DS) : Bool → Sto → R Bool
 | true, S => ok true S
 | false, S => b δ S
def orT (a b : DT) (δ : DS) (S : Sto) : R Bool := bnd (a δ S) (orTK b δ)
def notK (c : Bool) (S : Sto) : R Bool := ok (!c) S
def notT (a : DT) (δ : DS) (S : Sto) : R Bool := bnd (a δ S) notK
def andVB (b : DE) (δ : DS) : Bool → Sto → R D
 | true, S => b δ S
 | false, S => ok (.bl false) S
def andVK (b : DE) (δ : DS) (x : D) (S : Sto) : R D := bnd (truV x S) (andVB b δ)
def andV (a b : DE) (δ : DS) (S : Sto) : R D := bnd (a δ S) (andVK b δ)
def orVB (b : DE) (δ : DS) : Bool → Sto → R D
 | true, S => ok (.bl true) S
 | false, S => b δ S
def orVK (b : DE) (δ : DS) (x : D) (S : Sto) : R D := bnd (truV x S) (orVB b δ)
def orV (a b : DE) (δ : DS) (S : Sto) : R D := bnd (a δ S) (orVK b δ)
def notVB (c : Bool) (S : Sto) : R D := ok (.bl (!c)) S
def notVK (x : D) (S : Sto) : R D := bnd (truV x S) notVB
def notV (a : DE) (δ : DS) (S : Sto) : R D := bnd (a δ S) notVK
def nxS (δ : DS) (S : Sto) : R Fl := ok (.nx δ) S
def seqK (b : DSt) : Fl → Sto → R Fl
 | .nx δ, S => b δ S
 | .rt d, S => ok (.rt d) S
 | .bk δ, S => ok (.bk δ) S
 | .ct δ, S => ok (.ct δ) S
def seqS (a b : DSt) (δ : DS) (S : Sto) : R Fl := bnd (a δ S) (seqK b)
def dropK (δ : DS) (_ : D) (S : Sto) : R Fl := ok (.nx δ) S
def dropS (e : DE) (δ : DS) (S : Sto) : R Fl := bnd (e δ S) (dropK δ)
def retK (d : D) (S : Sto) : R Fl := ok (.rt d) S
def retS (e : DE) (δ : DS) (S : Sto) : R Fl := bnd (e δ S) retK
def ifK (a b : DSt) (δ : DS) : Bool → Sto → R Fl
 | true, S => a δ S
 | false, S => b δ S
def ifS (t : DT) (a b : DSt) (δ : DS) (S : Sto) : R Fl := bnd (t δ S) (ifK a b δ)
def brkS (δ : DS) (S : Sto) : R Fl := ok (.bk δ) S
def cntS (δ : DS) (S : Sto) : R Fl := ok (.ct δ) S
def setG (i : Nat) (d : D) (δ : DS) (S : Sto) : R DS := ok (δ.set i (some d)) S
def asgK (g : DG) (δ : DS) (d : D) (S : Sto) : R Fl := bnd (g d δ S) nxS
def asgS (e : DE) (g : DG) (δ : DS) (S : Sto) : R Fl := bnd (e δ S) (asgK g δ)
abbrev setS (i : Nat) (e : DE) : DSt := asgS e (setG i)
def parK2 (i j : Nat) (δ : DS) (x y : D) (S : Sto) : R Fl := ok (.nx ((δ.set i (some x)).set j (some y))) S
def parK (i j : Nat) (b : DE) (δ : DS) (x : D) (S : Sto) : R Fl := bnd (b δ S) (parK2 i j δ x)
def parS (i j : Nat) (a b : DE) (δ : DS) (S : Sto) : R Fl := bnd (a δ S) (parK i j b δ)
def tupGs : List DG → List D → DS → Sto → R DS
 | [], [], δ, S => ok δ S
 | g :: gs, d :: ds, δ, S => bnd (g d δ S) (tupGs gs ds)
 | _, _, _, _ => none
def tupG (gs : List DG) (d : D) (δ : DS) (S : Sto) : R DS := match d with
 | .tup ds => if ds.length = gs.length then tupGs gs ds δ S else none
 | _ => none
inductive Src where
 | fix (xs : List D) | one (a : Nat) | two (a b : Nat) | enm (a : Nat) | rev (a n : Nat)
def enm1 (i : Nat) : Option D → Option D
 | some x => some (.tup [.int i, x])
 | none => none
def two1 : Option D → Option D → Option D
 | some x, some y => some (.tup [x, y])
 | _, _ => none
def Src.get : Src → Sto → Nat → Option (Option D)
 | .fix xs, _, i => some xs[i]?
 | .one a, S, i => match zH S a with
  | some xs => some xs[i]?
  | none => none
 | .two a b, S, i => match zH S a, zH S b with
  | some xs, some ys => some (two1 xs[i]? ys[i]?)
  | _, _ => none
 | .enm a, S, i => match zH S a with
  | some xs => some (enm1 i xs[i]?)
  | none => none
 | .rev a n, S, i => match zH S a with
  | some xs => if i < n then (match xs[n - 1 - i]? with
    | some x => some (some x)
    | none => none) else some none
  | none => none
def Src.len : Src → Sto → Nat
 | .fix xs, _ => xs.length
 | .one a, S => match zH S a with
  | some xs => xs.length
  | none => 0
 | .two a _, S => match zH S a with
  | some xs => xs.length
  | none => 0
 | .enm a, S => match zH S a with
  | some xs => xs.length
  | none => 0
 | .rev _ n, _ => n
abbrev DI := DS → Sto → R Src
def loopK (k : DSt) : Fl → Sto → R Fl
 | .nx δ, S => k δ S
 | .ct δ, S => k δ S
 | .bk δ, S => ok (.nx δ) S
 | .rt d, S => ok (.rt d) S
def turnK (b k : DSt) (δ : DS) (S : Sto) : R Fl := bnd (b δ S) (loopK k)
def forD (src : Src) (g : DG) (b : DSt) : Nat → Nat → DSt
 | 0, i, δ, S => match src.get S i with
  | some none => ok (.nx δ) S
  | _ => none
 | n + 1, i, δ, S => match src.get S i with
  | some none => ok (.nx δ) S
  | some (some x) => bnd (g x δ S) (turnK b (forD src g b n (i + 1)))
  | none => none
def forK (g : DG) (b : DSt) (δ : DS) (src : Src) (S : Sto) : R Fl := forD src g b (src.len S) 0 δ S
def forS (it : DI) (g : DG) (b : DSt) (δ : DS) (S : Sto) : R Fl := bnd (it δ S) (forK g b δ)
def whK (b k : DSt) (δ : DS) : Bool → Sto → R Fl
 | true, S => turnK b k δ S
 | false, S => ok (.nx δ) S
def whileD (t : DT) (b : DSt) : Nat → DSt
 | 0, _, _ => none
 | n + 1, δ, S => bnd (t δ S) (whK b (whileD t b n) δ)
theorem whileD_succ (t : DT) (b : DSt) : ∀ (n : Nat) (δ : DS) (S : Sto) (r : Rs Fl), whileD t b n δ S = some r → whileD t b (n + 1) δ S = some r
 | 0, _, _, _, h => by cases h
 | n + 1, δ, S, r, h => by
  have h : bnd (t δ S) (whK b (whileD t b n) δ) = some r := h
  show bnd (t δ S) (whK b (whileD t b (n + 1)) δ) = some r
  rcases bnd_some h with ⟨c, S1, e, q⟩ | ⟨c, S1, e, q⟩
  ·rw [e]
   cases c with
   | false => exact q
   | true =>
    show bnd (b δ S1) (loopK (whileD t b (n + 1))) = some r
    rcases bnd_some (show bnd (b δ S1) (loopK (whileD t b n)) = some r from q) with ⟨f, S2, e2, q2⟩ | ⟨c, S2, e2, q2⟩
    ·rw [e2]
     cases f with
     | nx δ' => exact whileD_succ t b n δ' S2 r q2
     | ct δ' => exact whileD_succ t b n δ' S2 r q2
     | bk δ' => exact q2
     | rt d => exact q2
    ·rw [e2, q2]
     rfl
  ·rw [e, q]
   rfl
theorem whileD_le {t : DT} {b : DSt} {n m : Nat} {δ : DS} {S : Sto} {r : Rs Fl} (h : whileD t b n δ S = some r) (hm : n ≤ m) : whileD t b m δ S = some r := by
 obtain ⟨k, rfl⟩ := Nat.exists_eq_add_of_le hm
 induction k with
 | zero => exact h
 | succ k ih => exact whileD_succ t b (n + k) δ S r (ih (Nat.le_add_right _ _))
noncomputable def whileS (t : DT) (b : DSt) (δ : DS) (S : Sto) : R Fl := open Classical in if h : ∃ n r, whileD t b n δ S = some r then whileD t b (Classical.choose h) δ S else none
theorem whileS_of {t : DT} {b : DSt} {n : Nat} {δ : DS} {S : Sto} {r : Rs Fl} (h : whileD t b n δ S = some r) : whileS t b δ S = some r := by
 have hx : ∃ n r, whileD t b n δ S = some r := ⟨n, r, h⟩
 unfold whileS
 rw [dif_pos hx]
 obtain ⟨r', hr'⟩ := Classical.choose_spec hx
 have h1 := whileD_le hr' (Nat.le_max_left _ n)
 have h2 := whileD_le h (Nat.le_max_right (Classical.choose hx) n)
 rw [hr', ← h1, h2]
theorem whileS_some {t : DT} {b : DSt} {δ : DS} {S : Sto} {r : Rs Fl} (h : whileS t b δ S = some r) : ∃ n, whileD t b n δ S = some r := by
 unfold whileS at h
 split at h
 ·exact ⟨_, h⟩
 ·cases h
def nevS (_ : DS) (_ : Sto) : R Fl := none
def raiseS (c : Str) (_ : DS) (S : Sto) : R Fl := er c S
def itL : D → Sto → R Src
 | .ref a, S => match zH S a with
  | some _ => ok (.one a) S
  | none => none
 | .scr xs, S => ok (.fix xs) S
 | _, _ => none
def intsD (lo : Int) : Nat → List D
 | 0 => []
 | n + 1 => .int lo :: intsD (lo + 1) n
theorem limEx : ∃ v : Int, v = 1000000 := ⟨_, rfl⟩
noncomputable def lim : Int := Classical.choose limEx
theorem lim_eq : lim = 1000000 := Classical.choose_spec limEx
noncomputable def rng1D : List D → Sto → R Src
 | [.int n], S => if n < lim ∧ -lim < n then ok (.fix (intsD 0 n.toNat)) S else none
 | _, _ => none
noncomputable def rng2D : List D → Sto → R Src
 | [.int a, .int b], S => if (a < lim ∧ -lim < a) ∧ b < lim ∧ -lim < b then ok (.fix (intsD a (b - a).toNat)) S else none
 | _, _ => none
def zip2D : List D → Sto → R Src
 | [.ref a, .ref b], S => match zH S a, zH S b with
  | some _, some _ => ok (.two a b) S
  | _, _ => none
 | _, _ => none
def enumD : List D → Sto → R Src
 | [.ref a], S => match zH S a with
  | some _ => ok (.enm a) S
  | none => none
 | _, _ => none
def itE (f : D → Sto → R Src) (e : DE) (δ : DS) (S : Sto) : R Src := bnd (e δ S) f
def itA (f : List D → Sto → R Src) (as : DA) (δ : DS) (S : Sto) : R Src := bnd (as δ S) f
def newO (o : O) (S : Sto) : R D := ok (.ref S.length) (S ++ [o])
def compK2 (k : DA) (δ : DS) (d : D) (S : Sto) : R (List D) := bnd (k δ S) (consK d)
def compK (e : DE) (k : DA) (δ : DS) (S : Sto) : R (List D) := bnd (e δ S) (compK2 k δ)
def compD (src : Src) (g : DG) (e : DE) : Nat → Nat → DA
 | 0, i, δ, S => match src.get S i with
  | some none => ok [] S
  | _ => none
 | n + 1, i, δ, S => match src.get S i with
  | some none => ok [] S
  | some (some x) => bnd (g x δ S) (compK e (compD src g e n (i + 1)))
  | none => none
def compIB (e : DE) (k : DA) (δ : DS) : Bool → Sto → R (List D)
 | true, S => bnd (e δ S) (compK2 k δ)
 | false, S => k δ S
def compIK (t : DT) (e : DE) (k : DA) (δ : DS) (S : Sto) : R (List D) := bnd (t δ S) (compIB e k δ)
def compID (src : Src) (g : DG) (t : DT) (e : DE) : Nat → Nat → DA
 | 0, i, δ, S => match src.get S i with
  | some none => ok [] S
  | _ => none
 | n + 1, i, δ, S => match src.get S i with
  | some none => ok [] S
  | some (some x) => bnd (g x δ S) (compIK t e (compID src g t e n (i + 1)))
  | none => none
def lstK (ds : List D) (S : Sto) : R D := newO (.lst ds) S
def noer {α : Type} : R α → R α
 | some (.ok a S) => ok a S
 | some (.er _ _) => none
 | none => none
def compL (g : DG) (e : DE) (δ : DS) (src : Src) (S : Sto) : R D := if src.len S ≤ 1000000 then bnd (noer (compD src g e (src.len S) 0 δ S)) lstK else none
def compE (it : DI) (k : Nat) (g : DG) (e : DE) (δ : DS) (S : Sto) : R D := bnd (it δ S) (compL g e (δ ++ List.replicate k none))
def compIL (g : DG) (t : DT) (e : DE) (δ : DS) (src : Src) (S : Sto) : R D := if src.len S ≤ 1000000 then bnd (noer (compID src g t e (src.len S) 0 δ S)) lstK else none
def compI (it : DI) (k : Nat) (g : DG) (t : DT) (e : DE) (δ : DS) (S : Sto) : R D := bnd (it δ S) (compIL g t e (δ ++ List.replicate k none))
def outF : R Fl → R D
 | some (.ok (.nx _) S) => ok .non S
 | some (.ok (.rt d) S) => ok d S
 | some (.ok (.bk _) _) => none
 | some (.ok (.ct _) _) => none
 | some (.er c S) => er c S
 | none => none
def startD (n : Nat) (ds : List D) : DS := ds.map some ++ List.replicate (n - ds.length) none
def fnF (n k : Nat) (g : DSt) (ds : List D) (S : Sto) : R D := if ds.length = k then noer (outF (g (startD n ds) S)) else none
def noerS (g : DSt) (δ : DS) (S : Sto) : R Fl := noer (g δ S)
def fnX (n k : Nat) (g : DSt) (ds : List D) (S : Sto) : R D := if ds.length = k then outF (g (startD n ds) S) else none
def op3K2 (f : D → D → D → Sto → R D) (x y : D) (z : D) (S : Sto) : R D := f x y z S
def op3K (f : D → D → D → Sto → R D) (c : DE) (δ : DS) (x y : D) (S : Sto) : R D := bnd (c δ S) (op3K2 f x y)
def op3J (f : D → D → D → Sto → R D) (b c : DE) (δ : DS) (x : D) (S : Sto) : R D := bnd (b δ S) (op3K f c δ x)
def op3 (f : D → D → D → Sto → R D) (a b c : DE) (δ : DS) (S : Sto) : R D := bnd (a δ S) (op3J f b c δ)
def chnB (g : D → D → Sto → R D) (c : DE) (δ : DS) (y : D) : Bool → Sto → R D
 | true, S => bnd (c δ S) (g y)
 | false, S => ok (.bl false) S
def chnT (g : D → D → Sto → R D) (c : DE) (δ : DS) (y : D) (t : D) (S : Sto) : R D := bnd (truV t S) (chnB g c δ y)
def chnK2 (f g : D → D → Sto → R D) (c : DE) (δ : DS) (x y : D) (S : Sto) : R D := bnd (f x y S) (chnT g c δ y)
def chnK (f g : D → D → Sto → R D) (b c : DE) (δ : DS) (x : D) (S : Sto) : R D := bnd (b δ S) (chnK2 f g c δ x)
def chn (f g : D → D → Sto → R D) (a b c : DE) (δ : DS) (S : Sto) : R D := bnd (a δ S) (chnK f g b c δ)
@[simp] theorem truV_bl (b : Bool) (S : Sto) : truV (.bl b) S = ok b S := rfl
@[simp] theorem seqK_nx (b : DSt) (δ : DS) (S : Sto) : seqK b (.nx δ) S = b δ S := rfl
@[simp] theorem seqK_rt (b : DSt) (d : D) (S : Sto) : seqK b (.rt d) S = ok (.rt d) S := rfl
@[simp] theorem ifK_t (a b : DSt) (δ : DS) (S : Sto) : ifK a b δ true S = a δ S := rfl
@[simp] theorem ifK_f (a b : DSt) (δ : DS) (S : Sto) : ifK a b δ false S = b δ S := rfl
end Np
end
section
namespace Np
open PySem
def tupD (ds : List D) (S : Sto) : R D := if ds.length ≤ 1000 then ok (.tup ds) S else none
def lstD (ds : List D) (S : Sto) : R D := if ds.length ≤ 1000 then newO (.lst ds) S else none
def catD (a b : Option (List D)) (S : Sto) : R D := match a, b with
 | some xs, some ys => if xs.length + ys.length ≤ 1000000 then newO (.lst (xs ++ ys)) S else none
 | _, _ => none
def addD : D → D → Sto → R D
 | .int i, .int j, S => ok (.int (i + j)) S
 | .str x, .str y, S => if x.length + y.length ≤ 1000000 then ok (.str (x ++ y)) S else none
 | .ref a, .ref b, S => catD (zH S a) (zH S b) S
 | _, _, _ => none
def subD : D → D → Sto → R D
 | .int i, .int j, S => ok (.int (i - j)) S
 | _, _, _ => none
def repD (a : Option (List D)) (k : Int) (S : Sto) : R D := match a with
 | some xs => if xs.length * k.toNat ≤ 1000000 ∧ -1000000000 < k ∧ k < 1000000000 then newO (.lst (List.replicate k.toNat xs).flatten) S else none
 | none => none
def mulD : D → D → Sto → R D
 | .int i, .int j, S => if i.natAbs.log2 + j.natAbs.log2 ≤ 100000000 then ok (.int (i * j)) S else none
 | .ref a, .int k, S => repD (zH S a) k S
 | _, _, _ => none
def fdivD : D → D → Sto → R D
 | .int i, .int j, S => if j = 0 then none else ok (.int (i.fdiv j)) S
 | _, _, _ => none
def modD : D → D → Sto → R D
 | .int i, .int j, S => if j = 0 then none else ok (.int (i.fmod j)) S
 | _, _, _ => none
def powD : D → D → Sto → R D
 | .int i, .int j, S => if (0 ≤ j ∧ j ≤ 1000) ∧ i.natAbs < 1000000 then ok (.int (i ^ j.toNat)) S else none
 | _, _, _ => none
def negD : D → Sto → R D
 | .int i, S => ok (.int (-i)) S
 | _, _ => none
def absD : List D → Sto → R D
 | [.int i], S => ok (.int (if i < 0 then -i else i)) S
 | _, _ => none
inductive T where
 | non | bl (b : Bool) | int (i : Int) | str (x : Str) | tup (xs : List T) | lst (xs : List T)
mutual
def eqT : T → T → Bool
 | .non, .non => true
 | .bl a, .bl b => a == b
 | .bl a, .int j => (if a then 1 else 0) == j
 | .int i, .bl b => i == (if b then 1 else 0)
 | .int i, .int j => i == j
 | .str x, .str y => x == y
 | .lst xs, .lst ys => eqTs xs ys
 | .tup xs, .tup ys => eqTs xs ys
 | _, _ => false
def eqTs : List T → List T → Bool
 | [], [] => true
 | x :: xs, y :: ys => eqT x y && eqTs xs ys
 | _, _ => false
end
def rdl (f : D → Option T) : List D → Option (List T)
 | [] => some []
 | d :: ds => match f d, rdl f ds with
  | some t, some ts => some (t :: ts)
  | _, _ => none
def rd : Nat → Sto → D → Option T
 | _, _, .non => some .non
 | _, _, .bl b => some (.bl b)
 | _, _, .int i => some (.int i)
 | _, _, .str x => if x.cps.all (· < 0x110000) = true then some (.str x) else none
 | n + 1, S, .tup ds => (rdl (rd n S) ds).map .tup
 | n + 1, S, .ref a => match zH S a with
  | some ds => (rdl (rd n S) ds).map .lst
  | none => none
 | _, _, _ => none
def eqK (neg : Bool) (S : Sto) : Option T → Option T → R D
 | some t, some u => ok (.bl (if neg = true then !eqT t u else eqT t u)) S
 | _, _ => none
def eqD (x y : D) (S : Sto) : R D := eqK false S (rd 9 S x) (rd 9 S y)
def neD (x y : D) (S : Sto) : R D := eqK true S (rd 9 S x) (rd 9 S y)
def ltD : D → D → Sto → R D
 | .int i, .int j, S => ok (.bl (decide (i < j))) S
 | _, _, _ => none
def leD : D → D → Sto → R D
 | .int i, .int j, S => ok (.bl (decide (i ≤ j))) S
 | _, _, _ => none
def gtD : D → D → Sto → R D
 | .int i, .int j, S => ok (.bl (decide (j < i))) S
 | _, _, _ => none
def geD : D → D → Sto → R D
 | .int i, .int j, S => ok (.bl (decide (j ≤ i))) S
 | _, _, _ => none
def isNoneB : D → Bool
 | .non => true
 | _ => false
def isND (x y : D) (S : Sto) : R D := match y with
 | .non => ok (.bl (isNoneB x)) S
 | _ => none
def isNND (x y : D) (S : Sto) : R D := match y with
 | .non => ok (.bl (!isNoneB x)) S
 | _ => none
def ixA (n : Nat) (i : Int) : Option Nat := if 0 ≤ i then (if i < n then some i.toNat else none) else if -(n : Int) ≤ i then some (i + n).toNat else none
def ixK (xs : Option (List D)) (i : Int) (S : Sto) : R D := match xs with
 | some xs => match (ixA xs.length i).bind (fun j => xs[j]?) with
  | some d => ok d S
  | none => none
 | none => none
def ixD : D → D → Sto → R D
 | .tup xs, .int i, S => ixK (some xs) i S
 | .ref a, .int i, S => ixK (zH S a) i S
 | .scr xs, .int i, S => ixK (some xs) i S
 | _, _, _ => none
def lenK (xs : Option (List D)) (S : Sto) : R D := match xs with
 | some xs => ok (.int xs.length) S
 | none => none
def lenD : List D → Sto → R D
 | [.scr xs], S => lenK (some xs) S
 | [.tup xs], S => lenK (some xs) S
 | [.ref a], S => lenK (zH S a) S
 | [.str x], S => if x.length ≤ 1000000 then ok (.int x.length) S else none
 | _, _ => none
inductive Kd where
 | int | bool | str | lst | tup
 deriving DecidableEq
def isK : Kd → D → Sto → Option Bool
 | _, .exc _, _ => none
 | _, .scr _, _ => none
 | .lst, .ref a, S => match S[a]? with
  | some (.lst _) => some true
  | some (.dct _) => some false
  | _ => none
 | _, .ref a, S => match S[a]? with
  | some (.lst _) => some false
  | some (.dct _) => some false
  | _ => none
 | .int, .int _, _ => some true
 | .int, .bl _, _ => some true
 | .bool, .bl _, _ => some true
 | .str, .str _, _ => some true
 | .tup, .tup _, _ => some true
 | _, _, _ => some false
def isiD (k : Kd) (x : D) (S : Sto) : R D := match isK k x S with
 | some b => ok (.bl b) S
 | none => none
def sIxD (n d : Nat) : Option Int → Nat
 | none => d
 | some v => if v < 0 then (v + (n : Int)).toNat else min v.toNat n
def cutD (xs : List D) (lo hi : Option Int) : List D := (xs.drop (sIxD xs.length 0 lo)).take (sIxD xs.length xs.length hi - sIxD xs.length 0 lo)
abbrev DO := DS → Sto → R (Option Int)
def noP (_ : DS) (S : Sto) : R (Option Int) := ok none S
def atPK : D → Sto → R (Option Int)
 | .int i, S => ok (some i) S
 | _, _ => none
def atP (e : DE) (δ : DS) (S : Sto) : R (Option Int) := bnd (e δ S) atPK
def slD (x : D) (lo hi : Option Int) (S : Sto) : R D := match x with
 | .ref a => match zH S a with
  | some xs => newO (.lst (cutD xs lo hi)) S
  | none => none
 | .scr xs => newO (.lst (cutD xs lo hi)) S
 | .tup xs => if sIxD xs.length 0 lo = 0 ∧ sIxD xs.length xs.length hi = xs.length then none else ok (.tup (cutD xs lo hi)) S
 | _ => none
def slK2 (x : D) (lo : Option Int) (hi : Option Int) (S : Sto) : R D := slD x lo hi S
def slK1 (h : DO) (δ : DS) (x : D) (lo : Option Int) (S : Sto) : R D := bnd (h δ S) (slK2 x lo)
def slK (l h : DO) (δ : DS) (x : D) (S : Sto) : R D := bnd (l δ S) (slK1 h δ x)
def slE (e : DE) (l h : DO) (δ : DS) (S : Sto) : R D := bnd (e δ S) (slK l h δ)
def lofD : List D → Sto → R D
 | [.ref a], S => match zH S a with
  | some xs => newO (.lst xs) S
  | none => none
 | [.scr xs], S => newO (.lst xs) S
 | [.tup xs], S => newO (.lst xs) S
 | _, _ => none
def appD (x : D) (y : D) (S : Sto) : R D := match x with
 | .ref a => match zH S a with
  | some xs => if xs.length < 1000000 then ok .non (S.set a (.lst (xs ++ [y]))) else none
  | none => none
 | _ => none
def setXA (v : D) (δ : DS) (x y : D) (S : Sto) : R DS := match x, y with
 | .ref a, .int j => match zH S a with
  | some xs => match ixA xs.length j with
   | some k => ok δ (S.set a (.lst (xs.set k v)))
   | none => none
  | none => none
 | _, _ => none
def setXK (i : DE) (v : D) (δ : DS) (x : D) (S : Sto) : R DS := bnd (i δ S) (setXA v δ x)
def setXG (o i : DE) (v : D) (δ : DS) (S : Sto) : R DS := bnd (o δ S) (setXK i v δ)
def isL (x : D) (S : Sto) : Bool := match x with
 | .ref a => (zH S a).isSome
 | _ => false
def opMK (f : D → D → Sto → R D) (b : DE) (δ : DS) (x : D) (S : Sto) : R D := if isL x S = true then bnd (b δ S) (f x) else none
def opM (f : D → D → Sto → R D) (a b : DE) (δ : DS) (S : Sto) : R D := bnd (a δ S) (opMK f b δ)
def opM3K (f : D → D → D → Sto → R D) (b c : DE) (δ : DS) (x : D) (S : Sto) : R D := if isL x S = true then op3J f b c δ x S else none
def opM3 (f : D → D → D → Sto → R D) (a b c : DE) (δ : DS) (S : Sto) : R D := bnd (a δ S) (opM3K f b c δ)
def extD (x : D) (y : D) (S : Sto) : R D := match x, y with
 | .ref a, .ref b => match zH S a, zH S b with
  | some xs, some ys => if xs.length + ys.length ≤ 1000000 then ok .non (S.set a (.lst (xs ++ ys))) else none
  | _, _ => none
 | _, _ => none
def clearD (x : D) (S : Sto) : R D := match x with
 | .ref a => match zH S a with
  | some _ => ok .non (S.set a (.lst []))
  | none => none
 | _ => none
def allB : List D → Option Bool
 | [] => some true
 | .bl b :: r => match allB r with
  | some c => some (b && c)
  | none => none
 | _ :: _ => none
def allD : List D → Sto → R D
 | [.ref a], S => match zH S a with
  | some xs => match allB xs with
   | some b => ok (.bl b) S
   | none => none
  | none => none
 | _, _ => none
def dvmD : List D → Sto → R D
 | [.int i, .int j], S => if j = 0 then none else ok (.tup [.int (i.fdiv j), .int (i.fmod j)]) S
 | _, _ => none
def memT (t : T) : List T → Bool
 | [] => false
 | u :: us => eqT t u || memT t us
def inA (neg : Bool) (x y : D) (S : Sto) : R D := match y with
 | .ref a => match zH S a with
  | some ys => match rd 8 S x, rdl (rd 8 S) ys with
   | some t, some ts => ok (.bl (if neg = true then !memT t ts else memT t ts)) S
   | _, _ => none
  | none => none
 | _ => none
def notinD (x y : D) (S : Sto) : R D := inA true x y S
end Np
end
section
namespace Np
open PySem
end Np
namespace Np
open PySem
end Np
namespace Np
open PySem
mutual
def flat : Nat → D → Bool
 | _, .non => true
 | _, .bl _ => true
 | _, .int _ => true
 | _, .str _ => true
 | n + 1, .tup ds => flats n ds
 | _, .ref _ => true
 | _, _ => false
def flats : Nat → List D → Bool
 | _, [] => true
 | n, d :: ds => flat n d && flats n ds
end
end Np
end
section
namespace Np
open PySem
def insAt (S : Sto) (a : Nat) : Option (Str × List (Str × D)) := match S[a]? with
 | some (.ins c fs) => some (c, fs)
 | _ => none
def fldD (c f : Str) (x : D) (S : Sto) : R D := match x with
 | .ref a => match insAt S a with
  | some (c', fs) => if c' = c then (match fs.lookup f with
   | some d => ok d S
   | none => none) else none
  | none => none
 | _ => none
def putD (f : Str) (v : D) : List (Str × D) → List (Str × D)
 | [] => [(f, v)]
 | (g, x) :: r => if g = f then (g, v) :: r else (g, x) :: putD f v r
def setfA (c f : Str) (v : D) (δ : DS) (x : D) (S : Sto) : R Fl := match x with
 | .ref a => match insAt S a with
  | some (c', fs) => if c' = c ∧ fs.length < 900 then ok (.nx δ) (S.set a (.ins c (putD f v fs))) else none
  | none => none
 | _ => none
def setfK (c f : Str) (o : DE) (δ : DS) (v : D) (S : Sto) : R Fl := bnd (o δ S) (setfA c f v δ)
def setfS (c f : Str) (o e : DE) (δ : DS) (S : Sto) : R Fl := bnd (e δ S) (setfK c f o δ)
def methA (F : List D → Sto → R D) (x : D) (ds : List D) (S : Sto) : R D := F (x :: ds) S
def methK (c m : Str) (F : List D → Sto → R D) (as : DA) (δ : DS) (x : D) (S : Sto) : R D := match x with
 | .ref a => match insAt S a with
  | some (c', fs) => if c' = c ∧ fs.lookup m = none then bnd (as δ S) (methA F x) else none
  | none => none
 | _ => none
def methE (c m : Str) (F : List D → Sto → R D) (o : DE) (as : DA) (δ : DS) (S : Sto) : R D := bnd (o δ S) (methK c m F as δ)
def mkR (a : Nat) : R D → R D
 | some (.ok .non S) => ok (.ref a) S
 | some (.er c S) => er c S
 | _ => none
def mkA (c : Str) (F : List D → Sto → R D) (ds : List D) (S : Sto) : R D := mkR S.length (F (.ref S.length :: ds) (S ++ [.ins c []]))
def mkE (c : Str) (F : List D → Sto → R D) (as : DA) (δ : DS) (S : Sto) : R D := bnd (as δ S) (mkA c F)
def popAtD (x y : D) (S : Sto) : R D := match x, y with
 | .ref a, .int i => match zH S a with
  | some xs => if 0 ≤ i ∧ i < 1000000 then (match xs[i.toNat]? with
   | some d => ok d (S.set a (.lst (xs.eraseIdx i.toNat)))
   | none => none) else none
  | none => none
 | _, _ => none
def minD : List D → Sto → R D
 | [.int i, .int j], S => ok (.int (if j < i then j else i)) S
 | _, _ => none
theorem insAt_some {S : Sto} {a : Nat} {c : Str} {fs : List (Str × D)} (h : insAt S a = some (c, fs)) : S[a]? = some (.ins c fs) := by
 unfold insAt at h
 split at h
 ·rename_i c' fs' e
  cases h
  exact e
 ·cases h
def pairsD : List D → List D → List D
 | x :: xs, y :: ys => .tup [x, y] :: pairsD xs ys
 | _, _ => []
def zipLD : List D → Sto → R Src
 | [.tup xs, .tup ys], S => ok (.fix (pairsD xs ys)) S
 | ds, S => zip2D ds S
def setWA (v : D) (δ : DS) (x : D) (S : Sto) : R DS := match x, v with
 | .ref a, .ref b => match zH S a, zH S b with
  | some xs, some ys => if a ≠ b ∧ xs.length ≤ 1000000 ∧ ys.length ≤ 1000000 then ok δ (S.set a (.lst ys)) else none
  | _, _ => none
 | _, _ => none
def setWG (o : DE) : DG := fun v δ S => bnd (o δ S) (setWA v δ)
end Np
end
section
namespace Np
open PySem PySem.Spec PyProof.Rows L2
structure Gx where
 K : PySem.W.Frag
 mg : Str → Option Value
structure Wd where
 μ : Nat → Addr
 S : Sto
def excAt (a C : Addr) : Heap → Prop := fun h => ∃ o, h.get? a = some o ∧ o.cls = .ref C
def Sc (K : PySem.W.Frag) (H : Hp) (a : Addr) (xs : List V) : Prop := (∃ o, H a = some (.frz o (.lst xs))) ∨ SqL K (fun _ => none) a xs
theorem Sc.sq {K : PySem.W.Frag} {H : Hp} {a : Addr} {xs : List V} (h : Sc K H a xs) : SqL K H a xs := by
 rcases h with ⟨o, h⟩ | (h | h)
 ·exact .inl (.inr ⟨o, h⟩)
 ·rcases h with h | ⟨o, h⟩ <;> cases h
 ·exact .inr h
mutual
def Rep (G : Gx) (H : Hp) (W : Wd) : D → V → Prop
 | .non, v => v = .non
 | .bl b, v => v = .bl b
 | .int i, v => v = .int i
 | .str x, v => v = .str x
 | .tup ds, v => ∃ a xs, v = .ref a ∧ SqT G.K H a xs ∧ RepL G H W ds xs
 | .ref i, v => i < W.S.length ∧ v = .ref (W.μ i)
 | .exc c, v => ∃ a C, v = .ref a ∧ G.mg c = some (.ref C) ∧ H a = some (.ext (excAt a C))
 | .scr ds, v => ∃ a xs, v = .ref a ∧ Sc G.K H a xs ∧ RepL G H W ds xs
def RepL (G : Gx) (H : Hp) (W : Wd) : List D → List V → Prop
 | [], vs => vs = []
 | d :: ds, vs => ∃ v r, vs = v :: r ∧ Rep G H W d v ∧ RepL G H W ds r
end
def RepO (G : Gx) (H : Hp) (W : Wd) (a : Addr) : O → Prop
 | .lst ds => ∃ xs, H a = some (.lst xs) ∧ RepL G H W ds xs
 | .dct kvs => kvs = [] ∧ H a = some (.dK [])
 | .ins c fs => ∃ C dx ps, G.mg c = some (.ref C) ∧ H a = some (.ins C dx ps) ∧ ps.map (·.1) = fs.map (·.1) ∧ RepL G H W (fs.map (·.2)) (ps.map (·.2))
structure StOk (G : Gx) (H : Hp) (W : Wd) : Prop where
 inj : ∀ i j, i < W.S.length → j < W.S.length → W.μ i = W.μ j → i = j
 get : ∀ i o, W.S[i]? = some o → RepO G H W (W.μ i) o
def stB : HO → Bool
 | .lst _ => true
 | .dK _ => true
 | .ins _ _ _ => true
 | _ => false
theorem StOk.at {G : Gx} {H : Hp} {W : Wd} (h : StOk G H W) {i : Nat} (hi : i < W.S.length) : ∃ o, H (W.μ i) = some o ∧ stB o = true := by
 have := h.get i W.S[i] (by simp [hi])
 cases q : W.S[i] with
 | lst ds => rw [q] at this; obtain ⟨xs, e, _⟩ := this; exact ⟨_, e, rfl⟩
 | dct kvs => rw [q] at this; obtain ⟨_, e⟩ := this; exact ⟨_, e, rfl⟩
 | ins c fs => rw [q] at this; obtain ⟨_, _, _, _, e, _⟩ := this; exact ⟨_, e, rfl⟩
theorem StOk.apart {G : Gx} {H : Hp} {W : Wd} (h : StOk G H W) {b : Addr} {o : HO} (e : H b = some o) (ho : stB o = false) : ∀ i, i < W.S.length → W.μ i ≠ b := fun i hi z => by
 obtain ⟨u, eu, hu⟩ := h.at hi
 rw [z, e] at eu
 cases eu
 rw [ho] at hu
 cases hu
theorem StOk.new {G : Gx} {H : Hp} {W : Wd} (h : StOk G H W) {b : Addr} (e : H b = none) : ∀ i, i < W.S.length → W.μ i ≠ b := fun i hi z => by
 obtain ⟨u, eu, hu⟩ := h.at hi
 rw [z, e] at eu
 cases eu
structure Mv (H : Hp) (W : Wd) (H' : Hp) (W' : Wd) : Prop where
 len : W.S.length ≤ W'.S.length
 old : ∀ i, i < W.S.length → W'.μ i = W.μ i
 frm : ∀ b o, H b = some o → stB o = false → H' b = some o
theorem Mv.sqT {K : PySem.W.Frag} {H H' : Hp} {W W' : Wd} {a : Addr} {xs : List V} (e : Mv H W H' W') (h : SqT K H a xs) : SqT K H' a xs := by
 rcases h with (h | ⟨o, h⟩) | h
 ·exact .inl (.inl (e.frm _ _ h rfl))
 ·exact .inl (.inr ⟨o, e.frm _ _ h rfl⟩)
 ·exact .inr h
theorem Mv.sc {K : PySem.W.Frag} {H H' : Hp} {W W' : Wd} {a : Addr} {xs : List V} (e : Mv H W H' W') (h : Sc K H a xs) : Sc K H' a xs := by
 rcases h with ⟨o, h⟩ | h
 ·exact .inl ⟨o, e.frm _ _ h rfl⟩
 ·exact .inr h
mutual
theorem Rep.mv {G : Gx} {H H' : Hp} {W W' : Wd} (s : Mv H W H' W') : ∀ {d : D} {v : V}, Rep G H W d v → Rep G H' W' d v
 | .non, _, h => h
 | .bl _, _, h => h
 | .int _, _, h => h
 | .str _, _, h => h
 | .tup ds, _, h => by
  obtain ⟨a, xs, e, q, r⟩ := h
  exact ⟨a, xs, e, s.sqT q, RepL.mv s r⟩
 | .ref i, _, h => by
  obtain ⟨l, e⟩ := h
  exact ⟨Nat.lt_of_lt_of_le l s.len, by rw [e, s.old i l]⟩
 | .exc c, _, h => by
  obtain ⟨a, C, e, m, q⟩ := h
  exact ⟨a, C, e, m, s.frm _ _ q rfl⟩
 | .scr ds, _, h => by
  obtain ⟨a, xs, e, q, r⟩ := h
  exact ⟨a, xs, e, s.sc q, RepL.mv s r⟩
theorem RepL.mv {G : Gx} {H H' : Hp} {W W' : Wd} (s : Mv H W H' W') : ∀ {ds : List D} {vs : List V}, RepL G H W ds vs → RepL G H' W' ds vs
 | [], _, h => h
 | d :: ds, _, h => by
  obtain ⟨v, r, e, q, t⟩ := h
  exact ⟨v, r, e, Rep.mv s q, RepL.mv s t⟩
end
theorem RepL.length {G : Gx} {H : Hp} {W : Wd} : ∀ {ds : List D} {vs : List V}, RepL G H W ds vs → ds.length = vs.length
 | [], _, h => by cases h; rfl
 | d :: ds, _, h => by
  obtain ⟨v, r, e, q, t⟩ := h
  subst e
  simp [RepL.length t]
theorem RepL.get {G : Gx} {H : Hp} {W : Wd} : ∀ {ds : List D} {vs : List V} {i : Nat} {d : D}, RepL G H W ds vs → ds[i]? = some d → ∃ v, vs[i]? = some v ∧ Rep G H W d v
 | [], _, _, _, _, e => by simp at e
 | d :: ds, _, 0, _, h, e => by
  obtain ⟨v, r, rfl, q, t⟩ := h
  simp at e; subst e
  exact ⟨v, rfl, q⟩
 | d :: ds, _, i + 1, _, h, e => by
  obtain ⟨v, r, rfl, q, t⟩ := h
  obtain ⟨u, h1, h2⟩ := RepL.get (i := i) t (by simpa using e)
  exact ⟨u, by simpa using h1, h2⟩
theorem RepL.append {G : Gx} {H : Hp} {W : Wd} : ∀ {ds es : List D} {vs us : List V}, RepL G H W ds vs → RepL G H W es us → RepL G H W (ds ++ es) (vs ++ us)
 | [], _, _, _, h, k => by cases h; exact k
 | d :: ds, _, _, _, h, k => by
  obtain ⟨v, r, rfl, q, t⟩ := h
  exact ⟨v, _, rfl, q, RepL.append t k⟩
theorem RepL.take {G : Gx} {H : Hp} {W : Wd} : ∀ {ds : List D} {vs : List V} (n : Nat), RepL G H W ds vs → RepL G H W (ds.take n) (vs.take n)
 | _, _, 0, _ => by simp [RepL]
 | [], _, n + 1, h => by cases h; simp [RepL]
 | d :: ds, _, n + 1, h => by
  obtain ⟨v, r, rfl, q, t⟩ := h
  exact ⟨v, _, rfl, q, RepL.take n t⟩
theorem RepL.drop {G : Gx} {H : Hp} {W : Wd} : ∀ {ds : List D} {vs : List V} (n : Nat), RepL G H W ds vs → RepL G H W (ds.drop n) (vs.drop n)
 | _, _, 0, h => h
 | [], _, n + 1, h => by cases h; simp [RepL]
 | d :: ds, _, n + 1, h => by
  obtain ⟨v, r, rfl, q, t⟩ := h
  exact RepL.drop n t
theorem RepL.set {G : Gx} {H : Hp} {W : Wd} {d' : D} {v' : V} (q' : Rep G H W d' v') : ∀ {ds : List D} {vs : List V} (n : Nat), RepL G H W ds vs → RepL G H W (ds.set n d') (vs.set n v')
 | [], _, n, h => by cases h; simp [RepL]
 | d :: ds, _, 0, h => by
  obtain ⟨v, r, rfl, q, t⟩ := h
  exact ⟨v', _, rfl, q', t⟩
 | d :: ds, _, n + 1, h => by
  obtain ⟨v, r, rfl, q, t⟩ := h
  exact ⟨v, _, rfl, q, RepL.set q' n t⟩
theorem RepL.one {G : Gx} {H : Hp} {W : Wd} {d : D} {v : V} (h : Rep G H W d v) : RepL G H W [d] [v] := ⟨v, [], rfl, h, rfl⟩
theorem RepO.mv {G : Gx} {H H' : Hp} {W W' : Wd} {a : Addr} {o : O} (s : Mv H W H' W') (e : H' a = H a) (h : RepO G H W a o) : RepO G H' W' a o := by
 cases o with
 | lst ds => obtain ⟨xs, q, r⟩ := h; exact ⟨xs, by rw [e]; exact q, r.mv s⟩
 | dct kvs => obtain ⟨q, r⟩ := h; exact ⟨q, by rw [e]; exact r⟩
 | ins c fs => obtain ⟨C, dx, ps, m, q, n, r⟩ := h; exact ⟨C, dx, ps, m, by rw [e]; exact q, n, r.mv s⟩
theorem lstAt_some {S : Sto} {a : Nat} {xs : List D} (h : zH S a = some xs) : S[a]? = some (.lst xs) := by
 unfold zH at h
 split at h
 ·rename_i ys e
  cases h
  exact e
 ·cases h
theorem StOk.lst {G : Gx} {H : Hp} {W : Wd} {a : Nat} {v : V} {ds : List D} (h : StOk G H W) (r : Rep G H W (.ref a) v) (e : zH W.S a = some ds) : ∃ xs, v = .ref (W.μ a) ∧ H (W.μ a) = some (.lst xs) ∧ RepL G H W ds xs := by
 obtain ⟨xs, q, rl⟩ := h.get a _ (lstAt_some e)
 exact ⟨xs, r.2, q, rl⟩
structure Nxt (G : Gx) (H : Hp) (W : Wd) (H' : Hp) (W' : Wd) : Prop where
 ok : StOk G H' W'
 len : W.S.length ≤ W'.S.length
 old : ∀ i, i < W.S.length → W'.μ i = W.μ i
 new : ∀ i, W.S.length ≤ i → i < W'.S.length → H (W'.μ i) = none
 frm : ∀ b o, H b = some o → (∀ i, i < W.S.length → W.μ i ≠ b) → H' b = some o
theorem Nxt.mv {G : Gx} {H H' : Hp} {W W' : Wd} (h : Nxt G H W H' W') (s : StOk G H W) : Mv H W H' W' := ⟨h.len, h.old, fun b o e q => h.frm b o e (s.apart e q)⟩
theorem Nxt.rfl {G : Gx} {H : Hp} {W : Wd} (s : StOk G H W) : Nxt G H W H W := ⟨s, Nat.le_refl _, fun _ _ => by rfl, fun i h h' => absurd h' (Nat.not_lt.mpr h), fun _ _ e _ => e⟩
theorem Nxt.trans {G : Gx} {H H' H'' : Hp} {W W' W'' : Wd} (a : Nxt G H W H' W') (b : Nxt G H' W' H'' W'') : Nxt G H W H'' W'' := by
 refine ⟨b.ok, Nat.le_trans a.len b.len, fun i hi => (b.old i (Nat.lt_of_lt_of_le hi a.len)).trans (a.old i hi), fun i h1 h2 => ?_, fun c o e q => ?_⟩
 ·by_cases hi : i < W'.S.length
  ·rw [b.old i hi]
   exact a.new i h1 hi
  ·have hn := b.new i (Nat.le_of_not_lt hi) h2
   cases q : H (W''.μ i) with
   | none => rfl
   | some o =>
    by_cases hz : ∃ j, j < W.S.length ∧ W.μ j = W''.μ i
    ·obtain ⟨j, hj, ej⟩ := hz
     obtain ⟨o', e', _⟩ := a.ok.at (Nat.lt_of_lt_of_le hj a.len)
     rw [a.old j hj, ej, hn] at e'
     cases e'
    ·have := a.frm _ o q fun j hj ej => hz ⟨j, hj, ej⟩
     rw [hn] at this
     cases this
 ·refine b.frm c o (a.frm c o e q) fun i hi => ?_
  by_cases hl : i < W.S.length
  ·rw [a.old i hl]
   exact q i hl
  ·intro z
   have := a.new i (Nat.le_of_not_lt hl) hi
   rw [z, e] at this
   cases this
def Wd.push (W : Wd) (p : Addr) (o : O) : Wd := ⟨fun i => if i = W.S.length then p else W.μ i, W.S ++ [o]⟩
theorem Mv.push {G : Gx} {H : Hp} {W : Wd} {p : Addr} (hp : H p = none) (u : HO) (o : O) : Mv H W (upd H p u) (W.push p o) :=
 ⟨by simp [Wd.push], fun i hi => if_neg (Nat.ne_of_lt hi), fun b v e _ => by rw [zO (ne_of_none e hp)]; exact e⟩
theorem Nxt.alloc {G : Gx} {H : Hp} {W : Wd} {p : Addr} {u : HO} {o : O} (h : StOk G H W) (hp : H p = none) (hr : RepO G (upd H p u) (W.push p o) p o) : Nxt G H W (upd H p u) (W.push p o) := by
 have m := Mv.push (G := G) (W := W) hp u o
 have hμ : ∀ i, i < W.S.length → (W.push p o).μ i = W.μ i := fun i hi => if_neg (Nat.ne_of_lt hi)
 have hl : (W.push p o).S.length = W.S.length + 1 := by simp [Wd.push]
 have hn : (W.push p o).μ W.S.length = p := if_pos _root_.rfl
 refine ⟨⟨fun i j hi hj e => ?_, fun i o' e => ?_⟩, m.len, hμ, fun i h1 h2 => ?_, fun b v e _ => by rw [zO (ne_of_none e hp)]; exact e⟩
 ·rw [hl] at hi hj
  by_cases h1 : i < W.S.length
  ·by_cases h2 : j < W.S.length
   ·rw [hμ i h1, hμ j h2] at e
    exact h.inj i j h1 h2 e
   ·have : j = W.S.length := by omega
    subst this
    rw [hμ i h1, hn] at e
    exact absurd e (h.new hp i h1)
  ·have : i = W.S.length := by omega
   subst this
   by_cases h2 : j < W.S.length
   ·rw [hμ j h2, hn] at e
    exact absurd e.symm (h.new hp j h2)
   ·omega
 ·have e' : (W.S ++ [o])[i]? = some o' := e
  by_cases h1 : i < W.S.length
  ·rw [List.getElem?_append_left h1] at e'
   rw [hμ i h1]
   exact (h.get i o' e').mv m (zO (h.new hp i h1))
  ·have h2 : i < (W.S ++ [o]).length := (List.getElem?_eq_some_iff.mp e').1
   have : i = W.S.length := by simp at h2; omega
   subst this
   simp at e'
   subst e'
   rw [hn]
   exact hr
 ·rw [hl] at h2
  have : i = W.S.length := by omega
  subst this
  rw [hn]
  exact hp
def Wd.put (W : Wd) (i : Nat) (o : O) : Wd := ⟨W.μ, W.S.set i o⟩
theorem Mv.put {G : Gx} {H : Hp} {W : Wd} {i : Nat} (h : StOk G H W) (hi : i < W.S.length) (u : HO) (o : O) : Mv H W (upd H (W.μ i) u) (W.put i o) :=
 ⟨by simp [Wd.put], fun _ _ => by rfl, fun b v e q => by rw [zO fun z => h.apart e q i hi z.symm]; exact e⟩
theorem Nxt.write {G : Gx} {H : Hp} {W : Wd} {i : Nat} {u : HO} {o : O} (h : StOk G H W) (hi : i < W.S.length) (hr : RepO G (upd H (W.μ i) u) (W.put i o) (W.μ i) o) : Nxt G H W (upd H (W.μ i) u) (W.put i o) := by
 have m := Mv.put h hi u o
 have hl : (W.put i o).S.length = W.S.length := by simp [Wd.put]
 refine ⟨⟨fun a b ha hb e => h.inj a b (by rw [← hl]; exact ha) (by rw [← hl]; exact hb) e, fun j o' e => ?_⟩, m.len, m.old, fun j h1 h2 => by omega, fun b v e q => by rw [zO fun z => q i hi z.symm]; exact e⟩
 have e' : (W.S.set i o)[j]? = some o' := e
 by_cases hj : i = j
 ·subst hj
  rw [List.getElem?_set_self hi] at e'
  cases e'
  exact hr
 ·rw [List.getElem?_set_ne hj] at e'
  have hjl : j < W.S.length := (List.getElem?_eq_some_iff.mp e').1
  exact (h.get j o' e').mv m (zO fun z => hj (h.inj i j hi hjl z.symm))
theorem Nxt.heap {G : Gx} {H : Hp} {W : Wd} {p : Addr} (h : StOk G H W) (hp : H p = none) (u : HO) : Nxt G H W (upd H p u) W := by
 have m : Mv H W (upd H p u) W := ⟨Nat.le_refl _, fun _ _ => _root_.rfl, fun b v e _ => by rw [zO (ne_of_none e hp)]; exact e⟩
 exact ⟨⟨h.inj, fun i o e => (h.get i o e).mv m (zO (h.new hp i (List.getElem?_eq_some_iff.mp e).1))⟩, Nat.le_refl _, fun _ _ => _root_.rfl, fun i h1 h2 => by omega, fun b v e _ => by rw [zO (ne_of_none e hp)]; exact e⟩
def RepS (G : Gx) (H : Hp) (W : Wd) (δ : DS) (σ : L2.St) : Prop := δ.length = σ.length ∧ ∀ (i : Nat) (d : D), δ[i]? = some (some d) → ∃ v, σ[i]? = some (some v) ∧ Rep G H W d v
theorem RepS.mv {G : Gx} {H H' : Hp} {W W' : Wd} {δ : DS} {σ : L2.St} (h : RepS G H W δ σ) (s : Mv H W H' W') : RepS G H' W' δ σ :=
 ⟨h.1, fun i d e => let ⟨v, e1, r⟩ := h.2 i d e; ⟨v, e1, r.mv s⟩⟩
theorem RepS.set {G : Gx} {H : Hp} {W : Wd} {δ : DS} {σ : L2.St} {d : D} {v : V} (i : Nat) (h : RepS G H W δ σ) (r : Rep G H W d v) : RepS G H W (δ.set i (some d)) (σ.set i (some v)) := by
 refine ⟨by simpa using h.1, fun j e hj => ?_⟩
 by_cases ij : i = j
 ·subst ij
  have hl : i < δ.length := by
   have := (List.getElem?_eq_some_iff.mp hj).1
   simpa using this
  rw [List.getElem?_set_self hl] at hj
  cases hj
  exact ⟨v, List.getElem?_set_self (h.1 ▸ hl), r⟩
 ·rw [List.getElem?_set_ne ij] at hj
  obtain ⟨u, e1, q⟩ := h.2 j e hj
  exact ⟨u, by rw [List.getElem?_set_ne ij]; exact e1, q⟩
theorem RepS.start {G : Gx} {H : Hp} {W : Wd} {ds : List D} {vs : List V} (N : List Str) (h : RepL G H W ds vs) : RepS G H W (startD N.length ds) (start N vs) := by
 have hl := h.length
 refine ⟨by simp [startD, L2.start, hl], fun i d e => ?_⟩
 unfold startD at e
 by_cases hi : i < ds.length
 ·rw [List.getElem?_append_left (by simpa using hi), List.getElem?_map] at e
  cases q : ds[i]? with
  | none => rw [q] at e; cases e
  | some d' =>
   rw [q] at e; cases e
   obtain ⟨v, e1, r⟩ := h.get q
   refine ⟨v, ?_, r⟩
   unfold L2.start
   rw [List.getElem?_append_left (by rw [List.length_map]; omega), List.getElem?_map, e1] <;> rfl
 ·rw [List.getElem?_append_right (by simpa using hi), List.getElem?_replicate] at e
  split at e <;> cases e
def After {α : Type} (G : Gx) (E : XK) (H : Hp) (W : Wd) (r : Rs α) (P : α → Hp → Wd → Prop) : Prop := match r with
 | .ok a S' => ∀ H' W', W'.S = S' → Nxt G H W H' W' → P a H' W'
 | .er c S' => ∃ C, G.mg c = some (.ref C) ∧ ∀ H' W', W'.S = S' → Nxt G H W H' W' → E (.ref C) none H'
theorem After.nxt {α : Type} {G : Gx} {E : XK} {H H1 : Hp} {W W1 : Wd} {r : Rs α} {P : α → Hp → Wd → Prop} (h : After G E H W r P) (s : Nxt G H W H1 W1) : After G E H1 W1 r P := by
 cases r with
 | ok a S' => exact fun H' W' e s' => h H' W' e (s.trans s')
 | er c S' =>
  obtain ⟨C, m, q⟩ := h
  exact ⟨C, m, fun H' W' e s' => q H' W' e (s.trans s')⟩
theorem After.now {α : Type} {G : Gx} {E : XK} {H : Hp} {W : Wd} {a : α} {P : α → Hp → Wd → Prop} (h : After G E H W (.ok a W.S) P) (s : StOk G H W) : P a H W := h H W rfl (.rfl s)
abbrev VP (G : Gx) (Q : VK) : D → Hp → Wd → Prop := fun d H' W' => ∀ v, Rep G H' W' d v → Q v H'
abbrev AV (G : Gx) (Q : List V → Hp → Prop) : List D → Hp → Wd → Prop := fun ds H' W' => ∀ vs, RepL G H' W' ds vs → Q vs H'
abbrev BV (Q : Bool → Hp → Prop) : Bool → Hp → Wd → Prop := fun b H' _ => Q b H'
def SV (G : Gx) (D : Ends) : Fl → Hp → Wd → Prop := fun f H' W' => match f with
 | .nx δ => ∀ σ, RepS G H' W' δ σ → D.nx σ H'
 | .rt d => ∀ v, Rep G H' W' d v → D.rt v H'
 | .bk δ => ∀ σ, RepS G H' W' δ σ → D.bk σ H'
 | .ct δ => ∀ σ, RepS G H' W' δ σ → D.ct σ H'
def Go {α : Type} (G : Gx) (E : XK) (g : DS → Sto → R α) (P : α → Hp → Wd → Prop) (σ : L2.St) (H : Hp) : Prop := ∃ W δ r, StOk G H W ∧ RepS G H W δ σ ∧ g δ W.S = some r ∧ After G E H W r P
def tF (G : Gx) (E : XK) (g : DE) : TE := fun σ H Q => Go G E g (VP G Q) σ H
def tFT (G : Gx) (E : XK) (g : DT) : TT := fun σ H Q => Go G E g (BV Q) σ H
def tFA (G : Gx) (E : XK) (g : DA) : TA := fun σ H Q => Go G E g (AV G Q) σ H
def tFS (G : Gx) (E : XK) (g : DSt) : TS := fun D σ H => Go G E g (SV G D) σ H
def tFG (G : Gx) (E : XK) (g : DG) : TG := fun v σ H Q => ∃ W δ d r, StOk G H W ∧ RepS G H W δ σ ∧ Rep G H W d v ∧ g d δ W.S = some r ∧ After G E H W r (fun δ' H' W' => ∀ σ', RepS G H' W' δ' σ' → Q σ' H')
abbrev gx (X : Cx) : Gx := ⟨X.K, X.mg⟩
@[irreducible] def PDE (X : Cx) (E : XK) (e : Expr) (g : DE) : Prop := PE X e (tF (gx X) E g)
@[irreducible] def PDT (X : Cx) (E : XK) (e : Expr) (g : DT) : Prop := PT X e (tFT (gx X) E g)
@[irreducible] def PDW (X : Cx) (E : XK) (e : Expr) (g : DT) : Prop := PW X e (tFT (gx X) E g)
@[irreducible] def PDA (X : Cx) (E : XK) (es : List Expr) (g : DA) : Prop := PA X es (tFA (gx X) E g)
@[irreducible] def PDS (X : Cx) (E : XK) (st : Stmt) (g : DSt) : Prop := PS X st (tFS (gx X) E g)
@[irreducible] def PDSs (X : Cx) (E : XK) (sts : List Stmt) (g : DSt) : Prop := PSs X sts (tFS (gx X) E g)
@[irreducible] def PDG (X : Cx) (E : XK) (tg : Expr) (g : DG) : Prop := PG X tg (tFG (gx X) E g)
theorem PDA.o {X : Cx} {E : XK} {es : List Expr} {g : DA} (h : PDA X E es g) : PA X es (tFA (gx X) E g) := by
 unfold PDA at h
 exact h
theorem PDE.o {X : Cx} {E : XK} {e : Expr} {g : DE} (h : PDE X E e g) : PE X e (tF (gx X) E g) := by
 unfold PDE at h
 exact h
theorem PE.imp {X : Cx} {e : Expr} {t t' : TE} (h : PE X e t) (hi : ∀ σ H Q, t' σ H Q → t σ H Q) : PE X e t' := fun pins s σ H Q I q => h pins s σ H Q I (hi σ H Q q)
theorem PT.imp {X : Cx} {e : Expr} {t t' : TT} (h : PT X e t) (hi : ∀ σ H Q, t' σ H Q → t σ H Q) : PT X e t' := fun pins s σ H Q I q => h pins s σ H Q I (hi σ H Q q)
theorem PW.imp {X : Cx} {e : Expr} {t t' : TT} (h : PW X e t) (hi : ∀ σ H Q, t' σ H Q → t σ H Q) : PW X e t' := fun wh pins s σ H Q I q => h wh pins s σ H Q I (hi σ H Q q)
theorem PA.imp {X : Cx} {es : List Expr} {t t' : TA} (h : PA X es t) (hi : ∀ σ H Q, t' σ H Q → t σ H Q) : PA X es t' := fun p pins s σ H Q I q => h p pins s σ H Q I (hi σ H Q q)
theorem PS.imp {X : Cx} {st : Stmt} {t t' : TS} (h : PS X st t) (hi : ∀ D σ H, t' D σ H → t D σ H) : PS X st t' := fun pins s σ H D I q => h pins s σ H D I (hi D σ H q)
theorem PSs.imp {X : Cx} {st : List Stmt} {t t' : TS} (h : PSs X st t) (hi : ∀ D σ H, t' D σ H → t D σ H) : PSs X st t' := fun pins s σ H D I q => h pins s σ H D I (hi D σ H q)
section
variable {G : Gx} {E : XK} {σ : L2.St} {H : Hp} {δ : DS} {W : Wd}
theorem Go.thn {α β : Type} {ga : DS → Sto → R α} {k : α → Sto → R β} {r : Rs β} {P : β → Hp → Wd → Prop} {P1 : α → Hp → Wd → Prop} (hS : StOk G H W) (hδ : RepS G H W δ σ) (h : bnd (ga δ W.S) k = some r) (hA : After G E H W r P)
  (next : ∀ a H1 W1, Nxt G H W H1 W1 → RepS G H1 W1 δ σ → k a W1.S = some r → After G E H1 W1 r P → P1 a H1 W1) : Go G E ga P1 σ H := by
 rcases bnd_some h with ⟨a, S, e, q⟩ | ⟨c, S, e, q⟩
 ·exact ⟨W, δ, .ok a S, hS, hδ, e, fun H1 W1 e1 s => next a H1 W1 s (hδ.mv (s.mv hS)) (by rw [e1]; exact q) (hA.nxt s)⟩
 ·subst q
  exact ⟨W, δ, .er c S, hS, hδ, e, hA⟩
end
section
variable {X : Cx} {E : XK} {a b c e : Expr} {pos : Pos} {ga gb : DE}
theorem zA (i : Nat) {x : Str} (hN : X.N[i]? = some x := by rfl) (hv : Vis X.env.scope x := by first | exact Or.inl rfl | exact Or.inr (Or.inl rfl) | exact Or.inr (Or.inr rfl)) (hd : (x == ("__debug__" : Str)) = false := by decide +kernel)
  (hcd : (x == ("__classdict__" : Str)) = false := by decide +kernel) : PDE X E (.Name x pos) (vr i) := by
 try unfold PDE at *
 refine PE.imp (pe_var hN hv hd hcd) fun σ H Q ⟨W, δ, r, hS, hδ, hg, hA⟩ => ?_
 unfold vr at hg
 cases q : δ[i]? with
 | none => rw [q] at hg; cases hg
 | some o =>
  cases o with
  | none => rw [q] at hg; cases hg
  | some d =>
   rw [q] at hg
   obtain rfl : Rs.ok d W.S = r := Option.some.inj hg
   obtain ⟨v, e1, rv⟩ := hδ.2 i d q
   exact ⟨v, e1, hA.now hS v rv⟩
theorem pd_cst {t : TE} {d : D} {v : V} (h : PE X e t) (ht : ∀ σ H Q, Q v H → t σ H Q) (hr : ∀ H W, Rep (gx X) H W d v) : PDE X E e (cst d) := by
 try unfold PDE at *
 refine PE.imp h fun σ H Q ⟨W, δ, r, hS, hδ, hg, hA⟩ => ?_
 obtain rfl : Rs.ok d W.S = r := Option.some.inj hg
 exact ht σ H Q (hA.now hS v (hr H W))
theorem zF {i : Int} {j} : PDE X E (.Constant (.int i) j pos) (cst (.int i)) := by
 first
 | exact (
  pd_cst pe_int (fun _ _ _ q => q) fun _ _ => rfl)
 | ((try unfold PDE at *); exact (
  pd_cst pe_int (fun _ _ _ q => q) fun _ _ => rfl))
theorem pd_bl {i : Bool} {j} : PDE X E (.Constant (.bool i) j pos) (cst (.bl i)) := by
 first
 | exact (
  pd_cst pe_bl (fun _ _ _ q => q) fun _ _ => rfl)
 | ((try unfold PDE at *); exact (
  pd_cst pe_bl (fun _ _ _ q => q) fun _ _ => rfl))
theorem pd_non {j} : PDE X E (.Constant .none j pos) (cst .non) := by
 first
 | exact (
  pd_cst pe_non (fun _ _ _ q => q) fun _ _ => rfl)
 | ((try unfold PDE at *); exact (
  pd_cst pe_non (fun _ _ _ q => q) fun _ _ => rfl))
theorem pd_glob {x : Str} {u : Value} {v : V} {d : D} (hg : Gl X x) (hm : X.mg x = some u) (r : RelV v u) (hr : ∀ H W, Rep (gx X) H W d v) (hd : (x == ("__debug__" : Str)) = false := by decide +kernel) : PDE X E (.Name x pos) (cst d) := by
 first
 | exact (
  pd_cst (pe_glob hg hm r hd) (fun _ _ _ q => q) hr)
 | ((try unfold PDE at *); exact (
  pd_cst (pe_glob hg hm r hd) (fun _ _ _ q => q) hr))
def CstAt (K : PySem.W.Frag) (mg : Str → Option Value) (x : Str) (d : D) : Prop := ∃ u v, mg x = some u ∧ RelV v u ∧ ∀ H W, Rep ⟨K, mg⟩ H W d v
theorem pd_C {x : Str} {d : D} (hg : Gl X x) (h : CstAt X.K X.mg x d) (hd : (x == ("__debug__" : Str)) = false := by decide +kernel) : PDE X E (.Name x pos) (cst d) := by
 obtain ⟨u, v, hm, r, hr⟩ := h
 exact pd_glob hg hm r hr hd
def OpD (G : Gx) (r : R2) (f : D → D → Sto → R D) : Prop :=
 ∀ (E : XK) (H : Hp) (W : Wd) (x y : V) (dx dy : D) (Q : VK) (rr : Rs D), StOk G H W → Rep G H W dx x → Rep G H W dy y → f dx dy W.S = some rr → After G E H W rr (VP G Q) → r x y H Q
theorem tF_op2 {r : R2} {f : D → D → Sto → R D} (hf : OpD (gx X) r f) : ∀ σ H Q, tF (gx X) E (op2 f ga gb) σ H Q → tOp r (tF (gx X) E ga) (tF (gx X) E gb) σ H Q := by
 intro σ H Q ⟨W, δ, rr, hS, hδ, hg, hA⟩
 refine Go.thn hS hδ hg hA fun dx H1 W1 s1 hδ1 hg1 hA1 x rx => ?_
 refine Go.thn s1.ok hδ1 hg1 hA1 fun dy H2 W2 s2 hδ2 hg2 hA2 y ry => ?_
 exact hf E H2 W2 x y dx dy Q rr s2.ok (rx.mv (s2.mv s1.ok)) ry hg2 hA2
theorem pd_op {op : Operator} {r : R2} {f : D → D → Sto → R D} (ho : OpR X (binaryOp op) r) (hf : OpD (gx X) r f) (ha : PDE X E a ga) (hb : PDE X E b gb) : PDE X E (.BinOp a op b pos) (op2 f ga gb) := by
 first
 | exact (
  PE.imp (pe_op ho ha hb) (tF_op2 hf))
 | ((try unfold PDE at *); exact (
  PE.imp (pe_op ho ha hb) (tF_op2 hf)))
theorem pd_cmp {op : CmpOp} {r : R2} {f : D → D → Sto → R D} (ho : OpR X (compareOp op) r) (hf : OpD (gx X) r f) (ha : PDE X E a ga) (hb : PDE X E b gb) (hm : behindInMarks op b = false) : PDE X E (.Compare a [op] [b] pos) (op2 f ga gb) := by
 first
 | exact (
  PE.imp (pe_cmpR ho ha hb hm) (tF_op2 hf))
 | ((try unfold PDE at *); exact (
  PE.imp (pe_cmpR ho ha hb hm) (tF_op2 hf)))
theorem tB_tF {t : TE} (ht : ∀ σ H Q, tF (gx X) E ga σ H Q → t σ H Q) : ∀ σ H Q, tFT (gx X) E (tv ga) σ H Q → t σ H fun x H1 => ∃ k, x = .bl k ∧ Q k H1 := by
 intro σ H Q ⟨W, δ, rr, hS, hδ, hg, hA⟩
 refine ht σ H _ (Go.thn hS hδ hg hA fun d H1 W1 s1 hδ1 hg1 hA1 v rv => ?_)
 cases d with
 | bl k =>
  obtain rfl : Rs.ok k W1.S = rr := Option.some.inj hg1
  exact ⟨k, rv, hA1.now s1.ok⟩
 | _ => cases hg1
theorem zY {op : CmpOp} {r : R2} {f : D → D → Sto → R D} (ho : OpR X (compareOp op) r) (hf : OpD (gx X) r f) (ha : PDE X E a ga) (hb : PDE X E b gb) (hm : behindInMarks op b = false) : PDT X E (.Compare a [op] [b] pos) (tv (op2 f ga gb)) := by
 first
 | exact (
  PT.imp (pt_cmpR ho ha hb hm) (tB_tF (tF_op2 hf)))
 | ((try unfold PDE at *); (try unfold PDT at *); exact (
  PT.imp (pt_cmpR ho ha hb hm) (tB_tF (tF_op2 hf))))
theorem pt_valD (ha : PDE X E a ga) (he : ∀ whole, isTrue a X.env whole = (do let v ← whole; standAt a.pos; holding [v] (truthy v)) := by intro _; rfl) : PDT X E a (tv ga) := by
 first
 | exact (
  PT.imp (pt_val ha he) (tB_tF fun _ _ _ q => q))
 | ((try unfold PDE at *); (try unfold PDT at *); exact (
  PT.imp (pt_val ha he) (tB_tF fun _ _ _ q => q)))
def UnD (G : Gx) (r : V → Hp → VK → Prop) (f : D → Sto → R D) : Prop :=
 ∀ (E : XK) (H : Hp) (W : Wd) (x : V) (dx : D) (Q : VK) (rr : Rs D), StOk G H W → Rep G H W dx x → f dx W.S = some rr → After G E H W rr (VP G Q) → r x H Q
theorem pd_un {op : UnaryOp} {r : V → Hp → VK → Prop} {f : D → Sto → R D} (ho : UnR X (unaryOp op) r) (hf : UnD (gx X) r f) (ha : PDE X E a ga) : PDE X E (.UnaryOp op a pos) (op1 f ga) := by
 try unfold PDE at *
 refine PE.imp (pe_un ho ha) fun σ H Q ⟨W, δ, rr, hS, hδ, hg, hA⟩ => ?_
 exact Go.thn hS hδ hg hA fun dx H1 W1 s1 hδ1 hg1 hA1 x rx => hf E H1 W1 x dx Q rr s1.ok rx hg1 hA1
variable {ta tb : DT} {rest : List Expr}
theorem pd_and1 (ha : PDT X E a ta) : PDW X E (.BoolOp .And [a] pos) ta := by
 first
 | exact (
  pw_and1 ha)
 | ((try unfold PDT at *); (try unfold PDW at *); exact (
  pw_and1 ha))
theorem pd_or1 (ha : PDT X E a ta) : PDW X E (.BoolOp .Or [a] pos) ta := by
 first
 | exact (
  pw_or1 ha)
 | ((try unfold PDT at *); (try unfold PDW at *); exact (
  pw_or1 ha))
theorem pd_and (ha : PDT X E a ta) (hb : PDW X E (.BoolOp .And (b :: rest) pos) tb) : PDW X E (.BoolOp .And (a :: b :: rest) pos) (andT ta tb) := by
 try unfold PDT at *
 try unfold PDW at *
 refine PW.imp (pw_and ha hb) fun σ H Q ⟨W, δ, rr, hS, hδ, hg, hA⟩ => ?_
 refine Go.thn hS hδ hg hA fun c H1 W1 s1 hδ1 hg1 hA1 => ?_
 cases c with
 | true => exact ⟨W1, δ, rr, s1.ok, hδ1, hg1, hA1⟩
 | false =>
  obtain rfl : Rs.ok false W1.S = rr := Option.some.inj hg1
  exact hA1.now s1.ok
theorem pd_or (ha : PDT X E a ta) (hb : PDW X E (.BoolOp .Or (b :: rest) pos) tb) : PDW X E (.BoolOp .Or (a :: b :: rest) pos) (orT ta tb) := by
 try unfold PDT at *
 try unfold PDW at *
 refine PW.imp (pw_or ha hb) fun σ H Q ⟨W, δ, rr, hS, hδ, hg, hA⟩ => ?_
 refine Go.thn hS hδ hg hA fun c H1 W1 s1 hδ1 hg1 hA1 => ?_
 cases c with
 | true =>
  obtain rfl : Rs.ok true W1.S = rr := Option.some.inj hg1
  exact hA1.now s1.ok
 | false => exact ⟨W1, δ, rr, s1.ok, hδ1, hg1, hA1⟩
theorem pd_wt (h : PDW X E a ta) : PDT X E a ta := by
 first
 | exact (
  PW.pt h)
 | ((try unfold PDT at *); (try unfold PDW at *); exact (
  PW.pt h))
theorem pd_not (ha : PDT X E a ta) : PDT X E (.UnaryOp .Not a pos) (notT ta) := by
 try unfold PDT at *
 refine PT.imp (pt_not ha) fun σ H Q ⟨W, δ, rr, hS, hδ, hg, hA⟩ => ?_
 refine Go.thn hS hδ hg hA fun c H1 W1 s1 hδ1 hg1 hA1 => ?_
 obtain rfl : Rs.ok (!c) W1.S = rr := Option.some.inj hg1
 exact hA1.now s1.ok
theorem pd_oneV {op} (ha : PDE X E a ga) : PDE X E (.BoolOp op [a] pos) ga := by
 first
 | exact (
  pe_one ha)
 | ((try unfold PDE at *); exact (
  pe_one ha))
theorem pd_andV (ha : PDE X E a ga) (hb : PDE X E (.BoolOp .And (b :: rest) pos) gb) : PDE X E (.BoolOp .And (a :: b :: rest) pos) (andV ga gb) := by
 try unfold PDE at *
 refine PE.imp (pe_and ha hb) fun σ H Q ⟨W, δ, rr, hS, hδ, hg, hA⟩ => ?_
 refine Go.thn hS hδ hg hA fun d H1 W1 s1 hδ1 hg1 hA1 v rv => ?_
 cases d with
 | bl k =>
  refine ⟨k, rv, ?_⟩
  cases k with
  | true => exact ⟨W1, δ, rr, s1.ok, hδ1, hg1, hA1⟩
  | false =>
   obtain rfl : Rs.ok (D.bl false) W1.S = rr := Option.some.inj hg1
   exact hA1.now s1.ok _ rfl
 | _ => cases hg1
theorem pd_notV (ha : PDE X E a ga) : PDE X E (.UnaryOp .Not a pos) (notV ga) := by
 try unfold PDE at *
 refine PE.imp (pe_not ha) fun σ H Q ⟨W, δ, rr, hS, hδ, hg, hA⟩ => ?_
 refine Go.thn hS hδ hg hA fun d H1 W1 s1 hδ1 hg1 hA1 v rv => ?_
 cases d with
 | bl k =>
  refine ⟨k, rv, ?_⟩
  obtain rfl : Rs.ok (D.bl (!k)) W1.S = rr := Option.some.inj hg1
  exact hA1.now s1.ok _ rfl
 | _ => cases hg1
theorem pd_ifE (hc : PDT X E c ta) (ha : PDE X E a ga) (hb : PDE X E b gb) : PDE X E (.IfExp c a b pos) (ifE ta ga gb) := by
 try unfold PDE at *
 try unfold PDT at *
 refine PE.imp (pe_ifExp hc ha hb) fun σ H Q ⟨W, δ, rr, hS, hδ, hg, hA⟩ => ?_
 refine Go.thn hS hδ hg hA fun k H1 W1 s1 hδ1 hg1 hA1 => ?_
 cases k with
 | true => exact ⟨W1, δ, rr, s1.ok, hδ1, hg1, hA1⟩
 | false => exact ⟨W1, δ, rr, s1.ok, hδ1, hg1, hA1⟩
variable {es : List Expr} {gs : DA}
theorem zE : PDA X E [] aNil := by
 try unfold PDA at *
 refine PA.imp pa_nil fun σ H Q ⟨W, δ, rr, hS, hδ, hg, hA⟩ => ?_
 obtain rfl : Rs.ok [] W.S = rr := Option.some.inj hg
 exact hA.now hS [] rfl
theorem zB (ha : PDE X E e ga) (hr : PDA X E es gs) (hs : starEach (e :: es) X.env = (false, eval e X.env) :: starEach es X.env := by rfl) : PDA X E (e :: es) (yF ga gs) := by
 try unfold PDE at *
 try unfold PDA at *
 refine PA.imp (pa_cons ha hr hs) fun σ H Q ⟨W, δ, rr, hS, hδ, hg, hA⟩ => ?_
 refine Go.thn hS hδ hg hA fun d H1 W1 s1 hδ1 hg1 hA1 v rv => ?_
 refine Go.thn s1.ok hδ1 hg1 hA1 fun ds H2 W2 s2 hδ2 hg2 hA2 vs rvs => ?_
 obtain rfl : Rs.ok (d :: ds) W2.S = rr := Option.some.inj hg2
 exact hA2.now s2.ok _ ⟨v, vs, rfl, rv.mv (s2.mv s1.ok), rvs⟩
theorem sz {n : Nat} (h : n ≤ 1000000) : n ≤ sizeLine := Nat.le_trans h (by decide)
theorem Mv.heap {H : Hp} {W : Wd} {p : Addr} (hp : H p = none) (u : HO) : Mv H W (upd H p u) W := ⟨Nat.le_refl _, fun _ _ => rfl, fun b v e _ => by rw [zO (ne_of_none e hp)]; exact e⟩
theorem pd_tup {x1} (h : PDA X E es gs) : PDE X E (.Tuple es x1 pos) (fnE tupD gs) := by
 try unfold PDE at *
 try unfold PDA at *
 refine PE.imp (pe_tup h) fun σ H Q ⟨W, δ, rr, hS, hδ, hg, hA⟩ => ?_
 refine Go.thn hS hδ hg hA fun ds H1 W1 s1 hδ1 hg1 hA1 vs rvs => ?_
 unfold tupD at hg1
 split at hg1
 ·rename_i hl
  obtain rfl : Rs.ok (D.tup ds) W1.S = rr := Option.some.inj hg1
  refine ⟨by rw [← rvs.length]; exact sz (by omega), fun p hp => hA1 _ W1 rfl (Nxt.heap s1.ok hp _) _ ?_⟩
  exact ⟨p, vs, rfl, SqT.of zW, rvs.mv (Mv.heap hp _)⟩
 ·cases hg1
theorem new_lst {G : Gx} {H : Hp} {W : Wd} {E : XK} {rr : Rs D} {Q : VK} {ds : List D} {vs : List V} {p : Addr} (hS : StOk G H W) (hg : newO (.lst ds) W.S = some rr) (hA : After G E H W rr (VP G Q)) (rl : RepL G H W ds vs) (hp : H p = none) : Q (.ref p) (upd H p (.lst vs)) := by
 obtain rfl : Rs.ok (D.ref W.S.length) (W.S ++ [O.lst ds]) = rr := Option.some.inj hg
 refine hA _ (W.push p (.lst ds)) rfl (Nxt.alloc hS hp ⟨vs, zW, rl.mv (Mv.push (G := G) hp _ _)⟩) _ ⟨?_, ?_⟩
 ·simp [Wd.push]
 ·show V.ref p = .ref (if W.S.length = W.S.length then p else _)
  rw [if_pos rfl]
theorem pd_lst (h : PDA X E es gs) : PDE X E (.List es pos) (fnE lstD gs) := by
 try unfold PDE at *
 try unfold PDA at *
 refine PE.imp (pe_lst h) fun σ H Q ⟨W, δ, rr, hS, hδ, hg, hA⟩ => ?_
 refine Go.thn hS hδ hg hA fun ds H1 W1 s1 hδ1 hg1 hA1 vs rvs => ?_
 unfold lstD at hg1
 split at hg1
 ·rename_i hl
  exact ⟨by rw [← rvs.length]; exact sz (by omega), fun p hp => new_lst s1.ok hg1 hA1 rvs hp⟩
 ·cases hg1
def CallD (G : Gx) (r : List V → Hp → VK → Prop) (f : List D → Sto → R D) : Prop :=
 ∀ (E : XK) (H : Hp) (W : Wd) (vs : List V) (ds : List D) (Q : VK) (rr : Rs D), StOk G H W → RepL G H W ds vs → f ds W.S = some rr → After G E H W rr (VP G Q) → r vs H Q
theorem tF_call {r : List V → Hp → VK → Prop} {f : List D → Sto → R D} (hf : CallD (gx X) r f) : ∀ σ H Q, tF (gx X) E (fnE f gs) σ H Q → tCB r (tFA (gx X) E gs) σ H Q := by
 intro σ H Q ⟨W, δ, rr, hS, hδ, hg, hA⟩
 exact Go.thn hS hδ hg hA fun ds H1 W1 s1 hδ1 hg1 hA1 vs rvs => hf E H1 W1 vs ds Q rr s1.ok rvs hg1 hA1
theorem yA {x : Str} {id : String} {p : Pos} {r : List V → Hp → VK → Prop} {f : List D → Sto → R D} (hc : CallR X (.builtin id) r) (hf : CallD (gx X) r f) (hg : Gl X x) (hm : X.mg x = none) (hv : bootBuiltins x = some (.builtin id)) (ha : PDA X E (e :: es) gs) (hn : x ≠ "__name__" := by decide +kernel)
  (hdb : (x == ("__debug__" : Str)) = false := by decide +kernel) (he : starEach (e :: es) X.env = (false, eval e X.env) :: starEach es X.env := by rfl) (hpl : (backTo pos (starEach es X.env)).any (·.1) = false := by rfl) : PDE X E (.Call (.Name x p) (e :: es) [] pos) (fnE f gs) := by
 first
 | exact (
  PE.imp (pe_callB hc hg hm hv ha hn hdb he hpl) (tF_call hf))
 | ((try unfold PDE at *); (try unfold PDA at *); exact (
  PE.imp (pe_callB hc hg hm hv ha hn hdb he hpl) (tF_call hf)))
theorem pd_callTy {x : Str} {T : String} {p : Pos} {r : List V → Hp → VK → Prop} {f : List D → Sto → R D} (hc : CallR X (.type T) r) (hf : CallD (gx X) r f) (hg : Gl X x) (hm : X.mg x = none) (hv : bootBuiltins x = some (.type T)) (ha : PDA X E (e :: es) gs) (hn : x ≠ "__name__" := by decide +kernel)
  (hdb : (x == ("__debug__" : Str)) = false := by decide +kernel) (he : starEach (e :: es) X.env = (false, eval e X.env) :: starEach es X.env := by rfl) (hpl : (backTo pos (starEach es X.env)).any (·.1) = false := by rfl) : PDE X E (.Call (.Name x p) (e :: es) [] pos) (fnE f gs) := by
 first
 | exact (
  PE.imp (pe_callTy hc hg hm hv ha hn hdb he hpl) (tF_call hf))
 | ((try unfold PDE at *); (try unfold PDA at *); exact (
  PE.imp (pe_callTy hc hg hm hv ha hn hdb he hpl) (tF_call hf)))
def spF (G : Gx) (f : List D → Sto → R D) : Sp := fun vs H Q E => ∃ W ds rr, StOk G H W ∧ RepL G H W ds vs ∧ f ds W.S = some rr ∧ After G E H W rr (VP G Q)
theorem pd_fn {CX : CXT} {k : Nat} {fa : Addr} {fd : FuncData} {ps : List Str} {x : Str} {p : Pos} {f : List D → Sto → R D} (F : FnOk X.prog X.w X.K X.mg X.base CX k fa fd ps (spF (gx X) f)) (hr : Room k X.A) (hg : Gl X x) (hm : X.mg x = some (.ref fa)) (hk : PySem.W.keepIn X.K (.ref fa) = true)
  (hb : zV X.K fd ps []) (hx : Passes CX X E) (ha : PDA X E (e :: es) gs) (hdb : (x == ("__debug__" : Str)) = false := by decide +kernel) (he : starEach (e :: es) X.env = (false, eval e X.env) :: starEach es X.env := by rfl)
  (hpl : (backTo pos (starEach es X.env)).any (·.1) = false := by rfl) : PDE X E (.Call (.Name x p) (e :: es) [] pos) (fnE f gs) := by
 try unfold PDE at *
 try unfold PDA at *
 refine PE.imp (pe_call F hr hg hm hk hb .nil hx ha hdb he hpl) fun σ H Q ⟨W, δ, rr, hS, hδ, hg, hA⟩ => ?_
 exact Go.thn hS hδ hg hA fun as H1 W1 s1 hδ1 hg1 hA1 vs rvs => ⟨W1, as, rr, s1.ok, by rw [List.append_nil]; exact rvs, hg1, hA1⟩
theorem pd_ix {r : R2} {f : D → D → Sto → R D} (hr : IxR X r) (hf : OpD (gx X) r f) (ha : PDE X E a ga) (hb : PDE X E b gb) (hs : PlainIx b) : PDE X E (.Subscript a b pos) (op2 f ga gb) := by
 first
 | exact (
  PE.imp (pe_ix hr ha hb hs) (tF_op2 hf))
 | ((try unfold PDE at *); exact (
  PE.imp (pe_ix hr ha hb hs) (tF_op2 hf)))
end
section
variable {X : Cx} {E : XK} {st : Stmt} {rest : List Stmt} {e : Expr} {pos : Pos} {ge : DE} {gs gr : DSt} {t : DT}
theorem pds_nil : PDSs X E [] nxS := by
 try unfold PDSs at *
 refine PSs.imp pss_nil fun D σ H ⟨W, δ, rr, hS, hδ, hg, hA⟩ => ?_
 obtain rfl : Rs.ok (Fl.nx δ) W.S = rr := Option.some.inj hg
 exact hA.now hS σ hδ
theorem zJ (h : PDS X E st gs) : PDSs X E [st] gs := by
 first
 | exact (
  pss_one h)
 | ((try unfold PDS at *); (try unfold PDSs at *); exact (
  pss_one h))
theorem zD (h : PDS X E st gs) (hr : PDSs X E rest gr) : PDSs X E (st :: rest) (seqS gs gr) := by
 try unfold PDS at *
 try unfold PDSs at *
 refine PSs.imp (pss_cons h hr) fun D σ H ⟨W, δ, rr, hS, hδ, hg, hA⟩ => ?_
 refine Go.thn hS hδ hg hA fun f H1 W1 s1 hδ1 hg1 hA1 => ?_
 cases f with
 | nx δ' => exact fun σ' hδ' => ⟨W1, δ', rr, s1.ok, hδ', hg1, hA1⟩
 | rt d =>
  obtain rfl : Rs.ok (Fl.rt d) W1.S = rr := Option.some.inj hg1
  exact hA1.now s1.ok
 | bk δ' =>
  obtain rfl : Rs.ok (Fl.bk δ') W1.S = rr := Option.some.inj hg1
  exact hA1.now s1.ok
 | ct δ' =>
  obtain rfl : Rs.ok (Fl.ct δ') W1.S = rr := Option.some.inj hg1
  exact hA1.now s1.ok
theorem zP (he : PDE X E e ge) : PDS X E (.Return (some e) pos) (retS ge) := by
 try unfold PDE at *
 try unfold PDS at *
 refine PS.imp (ps_ret he) fun D σ H ⟨W, δ, rr, hS, hδ, hg, hA⟩ => ?_
 refine Go.thn hS hδ hg hA fun d H1 W1 s1 hδ1 hg1 hA1 v rv => ?_
 obtain rfl : Rs.ok (Fl.rt d) W1.S = rr := Option.some.inj hg1
 exact hA1.now s1.ok v rv
theorem pd_expr (he : PDE X E e ge) (hs : swapsWith e none pos.line X.env = pure false := by rfl) : PDS X E (.Expr e pos) (dropS ge) := by
 try unfold PDE at *
 try unfold PDS at *
 refine PS.imp (ps_expr he hs) fun D σ H ⟨W, δ, rr, hS, hδ, hg, hA⟩ => ?_
 refine Go.thn hS hδ hg hA fun d H1 W1 s1 hδ1 hg1 hA1 v rv => ?_
 obtain rfl : Rs.ok (Fl.nx δ) W1.S = rr := Option.some.inj hg1
 exact hA1.now s1.ok σ hδ1
theorem pd_if {c : Expr} {a b : List Stmt} {gb : DSt} (hc : PDT X E c t) (ha : PDSs X E a gs) (hb : PDSs X E b gb) : PDS X E (.If c a b pos) (ifS t gs gb) := by
 try unfold PDT at *
 try unfold PDS at *
 try unfold PDSs at *
 refine PS.imp (ps_if hc ha hb) fun D σ H ⟨W, δ, rr, hS, hδ, hg, hA⟩ => ?_
 refine Go.thn hS hδ hg hA fun k H1 W1 s1 hδ1 hg1 hA1 => ?_
 cases k with
 | true => exact ⟨W1, δ, rr, s1.ok, hδ1, hg1, hA1⟩
 | false => exact ⟨W1, δ, rr, s1.ok, hδ1, hg1, hA1⟩
theorem pd_never : PDS X E st nevS := by
 first
 | exact (
  PS.imp ps_never fun D σ H ⟨W, δ, rr, hS, hδ, hg, hA⟩ => by cases hg)
 | ((try unfold PDS at *); exact (
  PS.imp ps_never fun D σ H ⟨W, δ, rr, hS, hδ, hg, hA⟩ => by cases hg))
theorem pds_never {sts : List Stmt} : PDSs X E sts nevS := by
 first
 | exact (
  PSs.imp pss_never fun D σ H ⟨W, δ, rr, hS, hδ, hg, hA⟩ => by cases hg)
 | ((try unfold PDSs at *); exact (
  PSs.imp pss_never fun D σ H ⟨W, δ, rr, hS, hδ, hg, hA⟩ => by cases hg))
theorem zS (i : Nat) {x : Str} {pos' : Pos} (hN : X.N.Nodup) (he : PDE X E e ge) (hi : X.N[i]? = some x := by rfl) (hx : Loc X.env.scope x := by first | exact Or.inl rfl | exact Or.inr rfl) (hs : swapsWith e (some (.Name x pos')) pos.line X.env = pure false := by rfl)
  (hf : X.fn x = true ∨ X.env.scope.names.lookup x = some .local := by first | exact .inl rfl | exact .inr rfl | assumption) : PDS X E (.Assign [.Name x pos'] e pos) (setS i ge) := by
 try unfold PDE at *
 try unfold PDS at *
 refine PS.imp (ps_set hN hi hx he hs hf) fun D σ H ⟨W, δ, rr, hS, hδ, hg, hA⟩ => ?_
 refine Go.thn hS hδ hg hA fun d H1 W1 s1 hδ1 hg1 hA1 v rv => ?_
 obtain rfl : Rs.ok (Fl.nx (δ.set i (some d))) W1.S = rr := Option.some.inj hg1
 exact hA1.now s1.ok _ (hδ1.set i rv)
theorem pd_par (i j : Nat) {x y : Str} {a b : Expr} {ga gb : DE} {px py pt : Pos} {kt k2 pt2} (hc : X.calm = true) (hN : X.N.Nodup) (ha : PDE X E a ga) (hb : PDE X E b gb) (hi : X.N[i]? = some x := by rfl) (hj : X.N[j]? = some y := by rfl) (hij : i ≠ j := by decide)
  (hx : X.env.scope.names.lookup x = some .local := by rfl) (hy : X.env.scope.names.lookup y = some .local := by rfl)
  (hst : starEach (a :: [b]) X.env = (false, eval a X.env) :: starEach [b] X.env := by rfl) (hst2 : starEach (b :: []) X.env = (false, eval b X.env) :: starEach [] X.env := by rfl)
  (hw : swappedStores [.Tuple [.Name x px, .Name y py] kt pt] (.Tuple [a, b] k2 pt2) X.env = pure (some [x, y]) := by rfl)
  (hs : swapsWithSole [.Tuple [.Name x px, .Name y py] kt pt] (.Tuple [a, b] k2 pt2) pos.line X.env = pure false := by rfl) :
  PDS X E (.Assign [.Tuple [.Name x px, .Name y py] kt pt] (.Tuple [a, b] k2 pt2) pos) (parS i j ga gb) := by
 try unfold PDE at *
 try unfold PDS at *
 refine PS.imp (ps_par hc hN hi hj hij hx hy (pa_cons ha (pa_cons hb pa_nil hst2) hst) hw hs) fun D σ H ⟨W, δ, rr, hS, hδ, hg, hA⟩ => ?_
 refine Go.thn hS hδ hg hA fun d1 H1 W1 s1 hδ1 hg1 hA1 v1 rv1 => ?_
 refine Go.thn s1.ok hδ1 hg1 hA1 fun d2 H2 W2 s2 hδ2 hg2 hA2 v2 rv2 => ?_
 obtain rfl : Rs.ok (Fl.nx ((δ.set i (some d1)).set j (some d2))) W2.S = rr := Option.some.inj hg2
 exact ⟨v1, v2, rfl, hA2.now s2.ok _ ((hδ2.set i (rv1.mv (s2.mv s1.ok))).set j rv2)⟩
theorem zL (i : Nat) {x : Str} (hN : X.N.Nodup) (hi : X.N[i]? = some x := by rfl) (hx : Loc X.env.scope x := by first | exact Or.inl rfl | exact Or.inr rfl) (hf : X.fn x = true ∨ X.env.scope.names.lookup x = some .local := by first | exact .inl rfl | exact .inr rfl | assumption) :
  PDG X E (.Name x pos) (setG i) := by
 try unfold PDG at *
 intro pins s σ H v u Q I rv h
 obtain ⟨W, δ, d, rr, hS, hδ, hd, hg, hA⟩ := h
 obtain rfl : Rs.ok (δ.set i (some d)) W.S = rr := Option.some.inj hg
 exact pg_name hN hi hx hf pins s σ H v u Q I rv (hA.now hS _ (hδ.set i hd))
def tFGs (G : Gx) (E : XK) (gs : List DG) : TGs := fun vs σ H Q => ∃ W δ ds r, StOk G H W ∧ RepS G H W δ σ ∧ RepL G H W ds vs ∧ tupGs gs ds δ W.S = some r ∧ After G E H W r (fun δ' H' W' => ∀ σ', RepS G H' W' δ' σ' → Q σ' H')
@[irreducible] def PDGs (X : Cx) (E : XK) (ts : List Expr) (gs : List DG) : Prop := PGs X ts (tFGs (gx X) E gs)
theorem pdgs_nil : PDGs X E [] [] := by
 try unfold PDGs at *
 intro pins s σ H vs us Q I rv h
 obtain ⟨W, δ, ds, rr, hS, hδ, hd, hg, hA⟩ := h
 cases ds with
 | nil =>
  obtain rfl : Rs.ok δ W.S = rr := Option.some.inj hg
  have e : vs = [] := hd
  exact pgs_nil pins s σ H vs us Q I rv ⟨e, hA.now hS σ hδ⟩
 | cons d ds => cases hg
theorem zX {tg : Expr} {ts : List Expr} {g : DG} {gs : List DG} (h : PDG X E tg g) (hr : PDGs X E ts gs) (hs : (assignEach (tg :: ts) X.env).map (·.2) = assign tg X.env :: (assignEach ts X.env).map (·.2) := by rfl) : PDGs X E (tg :: ts) (g :: gs) := by
 try unfold PDGs at *
 try unfold PDG at *
 intro pins s σ H vs us Q I rv h'
 obtain ⟨W, δ, ds, rr, hS, hδ, hd, hg, hA⟩ := h'
 cases ds with
 | nil => cases hg
 | cons d ds =>
  obtain ⟨v, r, rfl, q, tl⟩ := hd
  refine pgs_cons h hr hs pins s σ H _ us Q I rv ⟨v, r, rfl, ?_⟩
  rcases bnd_some (show bnd (g d δ W.S) (tupGs gs ds) = some rr from hg) with ⟨δ1, S1, e1, q1⟩ | ⟨c, S1, e1, q1⟩
  ·exact ⟨W, δ, d, .ok δ1 S1, hS, hδ, q, e1, fun H1 W1 e s1 σ1 hδ1 => ⟨W1, δ1, ds, rr, s1.ok, hδ1, tl.mv (s1.mv hS), by rw [e]; exact q1, hA.nxt s1⟩⟩
  ·subst q1
   exact ⟨W, δ, d, .er c S1, hS, hδ, q, e1, hA⟩
theorem pdg_tup {ts : List Expr} {k : Nat} {gs : List DG} (hc : X.calm = true) (h : PDGs X E ts gs) (hn : (assignEach ts X.env).length = gs.length := by rfl) (hst : (assignEach ts X.env).findIdx? (·.1) = none := by rfl) : PDG X E (.Tuple ts k pos) (tupG gs) := by
 try unfold PDGs at *
 try unfold PDG at *
 intro pins s σ H v u Q I rv h'
 obtain ⟨W, δ, d, rr, hS, hδ, hd, hg, hA⟩ := h'
 cases d with
 | tup ds =>
  obtain ⟨a, xs, e, q, r⟩ := hd
  have hg' : (if ds.length = gs.length then tupGs gs ds δ W.S else none) = some rr := hg
  split at hg'
  ·rename_i l
   exact pg_tup (n := gs.length) hc h hn hst pins s σ H v u Q I rv ⟨a, xs, e, q, by rw [← r.length]; exact l, W, δ, ds, rr, hS, hδ, r, hg', hA⟩
  ·cases hg'
 | _ => cases hg
theorem pd_asg {tg : Expr} {g : DG} (he : PDE X E e ge) (hg : PDG X E tg g) (hs : swapsWithSole [tg] e pos.line X.env = pure false := by rfl) (hw : swappedStores [tg] e X.env = pure none := by rfl)
  (h1 : (assignEach [tg] X.env).map (·.2) = [assign tg X.env] := by rfl) : PDS X E (.Assign [tg] e pos) (asgS ge g) := by
 try unfold PDE at *
 try unfold PDS at *
 try unfold PDG at *
 refine PS.imp (ps_asg he hg hs hw h1) fun D σ H ⟨W, δ, rr, hS, hδ, hg, hA⟩ => ?_
 refine Go.thn hS hδ hg hA fun d H1 W1 s1 hδ1 hg1 hA1 v rv => ?_
 rcases bnd_some (show bnd (g d δ W1.S) nxS = some rr from hg1) with ⟨δ', S', e1, q⟩ | ⟨c, S', e1, q⟩
 ·obtain rfl : Rs.ok (Fl.nx δ') S' = rr := Option.some.inj q
  exact ⟨W1, δ, d, .ok δ' S', s1.ok, hδ1, rv, e1, fun H2 W2 e s2 σ2 hδ2 => hA1 H2 W2 e s2 σ2 hδ2⟩
 ·subst q
  exact ⟨W1, δ, d, .er c S', s1.ok, hδ1, rv, e1, hA1⟩
theorem pd_while {c : Expr} {body : List Stmt} (hp : PassesOwn (model X.prog X.w) X.A X.env X.xe) (hc : PDT X E c t) (hb : PDSs X E body gs) : PDS X E (.While c body [] pos) (whileS t gs) := by
 try unfold PDT at *
 try unfold PDS at *
 try unfold PDSs at *
 refine PS.imp (ps_while hp hc hb) fun D σ H ⟨W, δ, rr, hS, hδ, hg, hA⟩ => ?_
 obtain ⟨n, hg⟩ := whileS_some hg
 refine ⟨fun m σ1 H1 => ∃ W1 δ1, StOk (gx X) H1 W1 ∧ RepS (gx X) H1 W1 δ1 σ1 ∧ whileD t gs m δ1 W1.S = some rr ∧ After (gx X) E H1 W1 rr (SV (gx X) D), ⟨n, W, δ, hS, hδ, hg, hA⟩, ?_⟩
 rintro m σ1 H1 ⟨W1, δ1, hS1, hδ1, hg1, hA1⟩
 cases m with
 | zero => cases hg1
 | succ m =>
  refine Go.thn hS1 hδ1 hg1 hA1 fun k H2 W2 s2 hδ2 hg2 hA2 => ?_
  cases k with
  | false =>
   obtain rfl : Rs.ok (Fl.nx δ1) W2.S = rr := Option.some.inj hg2
   exact hA2.now s2.ok σ1 hδ2
  | true =>
   refine ⟨fun σ3 H3 => ∃ W3 δ3, StOk (gx X) H3 W3 ∧ RepS (gx X) H3 W3 δ3 σ3 ∧ whileD t gs m δ3 W3.S = some rr ∧ After (gx X) E H3 W3 rr (SV (gx X) D), fun σ3 H3 h3 => ⟨m, Nat.lt_succ_self m, h3⟩, ?_⟩
   refine Go.thn s2.ok hδ2 hg2 hA2 fun f H3 W3 s3 hδ3 q hA3 => ?_
   cases f with
   | nx δ3 => exact fun σ3 h3 => ⟨W3, δ3, s3.ok, h3, q, hA3⟩
   | ct δ3 => exact fun σ3 h3 => ⟨W3, δ3, s3.ok, h3, q, hA3⟩
   | bk δ3 =>
    obtain rfl : Rs.ok (Fl.nx δ3) W3.S = rr := Option.some.inj q
    exact fun σ3 h3 => hA3.now s3.ok σ3 h3
   | rt d =>
    obtain rfl : Rs.ok (Fl.rt d) W3.S = rr := Option.some.inj q
    exact fun v rv => hA3.now s3.ok v rv
def Walks (G : Gx) (J : It) (H : Hp) (W : Wd) (src : Src) : Prop :=
 ∀ (i : Nat) (H1 : Hp) (W1 : Wd), Nxt G H W H1 W1 → (src.get W1.S i = some none → J.stop i H1) ∧ ∀ d, src.get W1.S i = some (some d) → J.go i H1 ∧ ∀ x H2, J.yld i H1 x H2 → ∃ W2, W2.S = W1.S ∧ Nxt G H1 W1 H2 W2 ∧ Rep G H2 W2 d x
def tFI (G : Gx) (E : XK) (g : DI) : TI := fun σ H R => Go G E g (fun src H' W' => ∀ J, Walks G J H' W' src → R J H') σ H
@[irreducible] def PDI (X : Cx) (E : XK) (tg iter : Expr) (g : DI) : Prop := PI X tg iter (tFI (gx X) E g)
theorem forD_cases {src : Src} {g : DG} {b : DSt} {n i : Nat} {δ : DS} {S : Sto} {r : Rs Fl} (h : forD src g b n i δ S = some r) :
  (src.get S i = some none ∧ r = .ok (.nx δ) S) ∨ ∃ x m, n = m + 1 ∧ src.get S i = some (some x) ∧ bnd (g x δ S) (turnK b (forD src g b m (i + 1))) = some r := by
 cases n with
 | zero =>
  unfold forD at h
  split at h
  ·rename_i e
   exact .inl ⟨e, (Option.some.inj h).symm⟩
  ·cases h
 | succ n =>
  unfold forD at h
  split at h
  ·rename_i e
   exact .inl ⟨e, (Option.some.inj h).symm⟩
  ·rename_i x e
   exact .inr ⟨x, n, rfl, e, h⟩
  ·cases h
theorem pd_for {tg iter : Expr} {body : List Stmt} {gi : DI} {g : DG} (hp : PassesOwn (model X.prog X.w) X.A X.env X.xe) (hc : X.calm = true) (hi : PDI X E tg iter gi) (hg : PDG X E tg g) (hb : PDSs X E body gs)
  (hs : ∀ x, foldedSetIterable iter X.env x = pure x := by intro _; rfl) : PDS X E (.For tg iter body [] pos) (forS gi g gs) := by
 try unfold PDS at *
 try unfold PDSs at *
 try unfold PDG at *
 try unfold PDI at *
 refine PS.imp (ps_for hp hc hi hg hb hs) fun D σ H ⟨W, δ, rr, hS, hδ, hg, hA⟩ => ?_
 refine Go.thn hS hδ hg hA fun src H1 W1 s1 hδ1 q hA1 J hJ => ?_
 refine ⟨fun i m σ2 H2 => ∃ W2, Nxt (gx X) H1 W1 H2 W2 ∧ ∃ δ2, RepS (gx X) H2 W2 δ2 σ2 ∧ forD src g gs m i δ2 W2.S = some rr ∧ After (gx X) E H2 W2 rr (SV (gx X) D), ⟨src.len W1.S, W1, .rfl s1.ok, δ, hδ1, q, hA1⟩, ?_⟩
 rintro i m σ2 H2 ⟨W2, s2, δ2, hδ2, hg2, hA2⟩
 obtain ⟨w1, w2⟩ := hJ i H2 W2 s2
 rcases forD_cases hg2 with ⟨e, rfl⟩ | ⟨d, m, rfl, e, hg2⟩
 ·exact .inl ⟨w1 e, hA2.now s2.ok σ2 hδ2⟩
 ·obtain ⟨wg, wy⟩ := w2 d e
  refine .inr ⟨wg, fun σ' H' => ∃ W', Nxt (gx X) H1 W1 H' W' ∧ ∃ δ', RepS (gx X) H' W' δ' σ' ∧ forD src g gs m (i + 1) δ' W'.S = some rr ∧ After (gx X) E H' W' rr (SV (gx X) D), fun σ' H' h' => ⟨m, Nat.lt_succ_self m, h'⟩, fun x H3 y => ?_⟩
  obtain ⟨W3, e3, s3, rx⟩ := wy x H3 y
  rcases bnd_some hg2 with ⟨δ4, S4, e4, q4⟩ | ⟨c, S4, e4, q4⟩
  ·refine ⟨W3, δ2, d, .ok δ4 S4, s3.ok, hδ2.mv (s3.mv s2.ok), rx, by rw [e3]; exact e4, fun H4 W4 eS4 s4 σ4 hδ4 => ?_⟩
   refine Go.thn s4.ok hδ4 (by rw [eS4]; exact q4) ((hA2.nxt s3).nxt s4) fun f H5 W5 s5 hδ5 q5 hA5 => ?_
   have s15 := (s2.trans s3).trans (s4.trans s5)
   cases f with
   | nx δ5 => exact fun σ5 h5 => ⟨W5, s15, δ5, h5, q5, hA5⟩
   | ct δ5 => exact fun σ5 h5 => ⟨W5, s15, δ5, h5, q5, hA5⟩
   | bk δ5 =>
    obtain rfl : Rs.ok (Fl.nx δ5) W5.S = rr := Option.some.inj q5
    exact fun σ5 h5 => hA5.now s5.ok σ5 h5
   | rt d =>
    obtain rfl : Rs.ok (Fl.rt d) W5.S = rr := Option.some.inj q5
    exact fun v rv => hA5.now s5.ok v rv
  ·subst q4
   exact ⟨W3, δ2, d, .er c S4, s3.ok, hδ2.mv (s3.mv s2.ok), rx, by rw [e3]; exact e4, hA2.nxt s3⟩
theorem Src.one_some {a : Nat} {S : Sto} {i : Nat} {o : Option D} (h : (Src.one a).get S i = some o) : ∃ ds, zH S a = some ds ∧ ds[i]? = o := by
 have h' : (match zH S a with | some xs => some xs[i]? | none => none) = some o := h
 cases q : zH S a with
 | none => rw [q] at h'; cases h'
 | some ds => rw [q] at h'; exact ⟨ds, rfl, Option.some.inj h'⟩
theorem walks_list {G : Gx} {H : Hp} {W : Wd} {a : Nat} (ha : a < W.S.length) : Walks G (Itl G.K (W.μ a)) H W (.one a) := fun i H1 W1 s1 => by
 refine ⟨fun h => ?_, fun d hd => ?_⟩
 ·obtain ⟨ds, e, hn⟩ := Src.one_some h
  obtain ⟨xs, ex, q, rl⟩ := s1.ok.lst (v := .ref (W1.μ a)) ⟨Nat.lt_of_lt_of_le ha s1.len, rfl⟩ e
  rw [s1.old a ha] at q
  exact ⟨xs, .inl (.inl q), by rw [← rl.length]; exact List.getElem?_eq_none_iff.mp hn⟩
 ·obtain ⟨ds, e, hn⟩ := Src.one_some hd
  obtain ⟨xs, ex, q, rl⟩ := s1.ok.lst (v := .ref (W1.μ a)) ⟨Nat.lt_of_lt_of_le ha s1.len, rfl⟩ e
  rw [s1.old a ha] at q
  obtain ⟨x, hx, rx⟩ := rl.get hn
  refine ⟨⟨xs, x, .inl (.inl q), hx⟩, fun y H3 hy => ?_⟩
  obtain ⟨e3, hy⟩ := hy
  subst e3
  have := hy xs (.inl (.inl q))
  rw [hx] at this
  cases this
  exact ⟨W1, rfl, .rfl s1.ok, rx⟩
theorem walks_scr {G : Gx} {H : Hp} {W : Wd} {a : Addr} {ds : List D} {xs : List V} (hS : StOk G H W) (q : Sc G.K H a xs) (rl : RepL G H W ds xs) : Walks G (Itl G.K a) H W (.fix ds) := fun i H1 W1 s1 => by
 have q1 : Sc G.K H1 a xs := (s1.mv hS).sc q
 have rl1 := rl.mv (s1.mv hS)
 refine ⟨fun h => ?_, fun d hd => ?_⟩
 ·have h : ds[i]? = none := Option.some.inj h
  exact ⟨xs, q1.sq, by rw [← rl.length]; exact List.getElem?_eq_none_iff.mp h⟩
 ·have hd : ds[i]? = some d := Option.some.inj hd
  obtain ⟨x, hx, rx⟩ := rl1.get hd
  refine ⟨⟨xs, x, q1.sq, hx⟩, fun y H3 hy => ?_⟩
  obtain ⟨e3, hy⟩ := hy
  subst e3
  have := hy xs q1.sq
  rw [hx] at this
  cases this
  exact ⟨W1, rfl, .rfl s1.ok, rx⟩
theorem pdi_list {tg l : Expr} {gl : DE} (hl : PDE X E l gl) : PDI X E tg l (itE itL gl) := by
 try unfold PDE at *
 try unfold PDI at *
 intro pins s σ H R I ⟨W, δ, rr, hS, hδ, hg, hA⟩
 refine pi_list hl pins s σ H R I (Go.thn hS hδ hg hA fun d H1 W1 s1 hδ1 hg1 hA1 v rv => ?_)
 cases d with
 | ref a =>
  have hg1 : (match zH W1.S a with | some _ => ok (.one a) W1.S | none => none) = some rr := hg1
  cases q : zH W1.S a with
  | none => rw [q] at hg1; cases hg1
  | some ds =>
   rw [q] at hg1
   obtain rfl : Rs.ok (Src.one a) W1.S = rr := Option.some.inj hg1
   obtain ⟨xs, ex, qx, rl⟩ := s1.ok.lst rv q
   exact ⟨W1.μ a, ex, ⟨xs, .inl (.inl qx)⟩, hA1.now s1.ok _ (walks_list rv.1)⟩
 | scr ds =>
  obtain rfl : Rs.ok (Src.fix ds) W1.S = rr := Option.some.inj hg1
  obtain ⟨a, xs, e, q, rl⟩ := rv
  exact ⟨a, e, ⟨xs, q.sq⟩, hA1.now s1.ok _ (walks_scr s1.ok q rl)⟩
 | _ => cases hg1
theorem intsD_get : ∀ (n : Nat) (lo : Int) (i : Nat) (d : D), (intsD lo n)[i]? = some d → i < n ∧ d = .int (lo + i)
 | 0, _, _, _, h => by simp [intsD] at h
 | n + 1, lo, 0, d, h => by
  simp [intsD] at h
  exact ⟨Nat.succ_pos n, by rw [← h]; simp⟩
 | n + 1, lo, i + 1, d, h => by
  simp only [intsD, List.getElem?_cons_succ] at h
  obtain ⟨h1, h2⟩ := intsD_get n (lo + 1) i d h
  refine ⟨Nat.succ_lt_succ h1, ?_⟩
  rw [h2]
  congr 1
  omega
theorem intsD_length : ∀ (n : Nat) (lo : Int), (intsD lo n).length = n
 | 0, _ => rfl
 | n + 1, lo => by simp [intsD, intsD_length n]
theorem walks_ints {G : Gx} {H : Hp} {W : Wd} (lo : Int) (n : Nat) : Walks G (Itr lo n) H W (.fix (intsD lo n)) := fun i H1 W1 s1 =>
 ⟨fun h => by
  have h : (intsD lo n)[i]? = none := Option.some.inj h
  have := List.getElem?_eq_none_iff.mp h
  rw [intsD_length] at this
  exact this, fun d hd => by
  obtain ⟨h1, h2⟩ := intsD_get n lo i d (Option.some.inj hd)
  refine ⟨h1, fun x H2 hy => ?_⟩
  obtain ⟨e, hx⟩ := hy
  subst e
  subst h2
  exact ⟨W1, rfl, .rfl s1.ok, hx⟩⟩
theorem pdi_range1 {tg a : Expr} {ga : DE} {p pos : Pos} (hg : Gl X "range") (hm : X.mg "range" = none) (ha : PDE X E a ga) (hs : starEach [a] X.env = [(false, eval a X.env)] := by rfl) (hst : starEach (a :: []) X.env = (false, eval a X.env) :: starEach [] X.env := by rfl) :
  PDI X E tg (.Call (.Name "range" p) [a] [] pos) (itA rng1D (yF ga aNil)) := by
 try unfold PDI at *
 intro pins s σ H R I ⟨W, δ, rr, hS, hδ, hg', hA⟩
 refine pi_range1 hg hm (zB ha zE hst).o hs pins s σ H R I (Go.thn hS hδ hg' hA fun ds H1 W1 s1 hδ1 hg1 hA1 vs rv => ?_)
 have hlim := lim_eq
 unfold rng1D at hg1
 split at hg1
 ·rename_i n
  split at hg1
  ·obtain ⟨v, r, e, q, t⟩ := rv
   have q : v = .int n := q
   have t : r = [] := t
   subst e q t
   obtain rfl : Rs.ok (Src.fix (intsD 0 n.toNat)) W1.S = rr := Option.some.inj hg1
   exact ⟨n, rfl, by omega, by omega, hA1.now s1.ok _ (walks_ints 0 n.toNat)⟩
  ·cases hg1
 ·cases hg1
theorem pdi_range2 {tg a b : Expr} {ga gb : DE} {p pos : Pos} (hg : Gl X "range") (hm : X.mg "range" = none) (ha : PDE X E a ga) (hb : PDE X E b gb) (hs : starEach [a, b] X.env = [(false, eval a X.env), (false, eval b X.env)] := by rfl) (hs2 : starEach [b] X.env = [(false, eval b X.env)] := by rfl)
  (hst : starEach (a :: [b]) X.env = (false, eval a X.env) :: starEach [b] X.env := by rfl) (hst2 : starEach (b :: []) X.env = (false, eval b X.env) :: starEach [] X.env := by rfl) :
  PDI X E tg (.Call (.Name "range" p) [a, b] [] pos) (itA rng2D (yF ga (yF gb aNil))) := by
 try unfold PDI at *
 intro pins s σ H R I ⟨W, δ, rr, hS, hδ, hg', hA⟩
 refine pi_range2 hg hm (zB ha (zB hb zE hst2) hst).o hs hs2 pins s σ H R I (Go.thn hS hδ hg' hA fun ds H1 W1 s1 hδ1 hg1 hA1 vs rv => ?_)
 have hlim := lim_eq
 unfold rng2D at hg1
 split at hg1
 ·rename_i i j
  split at hg1
  ·rename_i hb
   obtain ⟨v, r, e, q, t⟩ := rv
   obtain ⟨v2, r2, e2, q2, t2⟩ := t
   have q : v = .int i := q
   have q2 : v2 = .int j := q2
   have t2 : r2 = [] := t2
   subst e e2 q q2 t2
   obtain rfl : Rs.ok (Src.fix (intsD i (j - i).toNat)) W1.S = rr := Option.some.inj hg1
   exact ⟨i, j, rfl, ⟨by omega, by omega, by omega, by omega⟩, hA1.now s1.ok _ (walks_ints i _)⟩
  ·cases hg1
 ·cases hg1
end
mutual
def Bd (n : Nat) : D → Prop
 | .ref i => i < n
 | .tup ds => BdL n ds
 | .scr ds => BdL n ds
 | _ => True
def BdL (n : Nat) : List D → Prop
 | [] => True
 | d :: ds => Bd n d ∧ BdL n ds
end
mutual
def mapD (ρ : Nat → Nat) : D → D
 | .ref i => .ref (ρ i)
 | .tup ds => .tup (mapL ρ ds)
 | .scr ds => .scr (mapL ρ ds)
 | .non => .non
 | .bl b => .bl b
 | .int i => .int i
 | .str x => .str x
 | .exc c => .exc c
def mapL (ρ : Nat → Nat) : List D → List D
 | [] => []
 | d :: ds => mapD ρ d :: mapL ρ ds
end
def BdO (n : Nat) : O → Prop
 | .lst ds => BdL n ds
 | .dct kvs => kvs = []
 | .ins _ fs => BdL n (fs.map (·.2))
def mapO (ρ : Nat → Nat) : O → O
 | .lst ds => .lst (mapL ρ ds)
 | .dct kvs => .dct kvs
 | .ins c fs => .ins c (fs.map fun p => (p.1, mapD ρ p.2))
mutual
theorem Rep.bd {G : Gx} {H : Hp} {W : Wd} : ∀ {d : D} {v : V}, Rep G H W d v → Bd W.S.length d
 | .ref i, _, h => h.1
 | .tup ds, _, h => by obtain ⟨a, xs, _, _, r⟩ := h; exact RepL.bd r
 | .scr ds, _, h => by obtain ⟨a, xs, _, _, r⟩ := h; exact RepL.bd r
 | .non, _, _ => trivial
 | .bl _, _, _ => trivial
 | .int _, _, _ => trivial
 | .str _, _, _ => trivial
 | .exc _, _, _ => trivial
theorem RepL.bd {G : Gx} {H : Hp} {W : Wd} : ∀ {ds : List D} {vs : List V}, RepL G H W ds vs → BdL W.S.length ds
 | [], _, _ => trivial
 | d :: ds, _, h => by obtain ⟨v, r, _, q, t⟩ := h; exact ⟨Rep.bd q, RepL.bd t⟩
end
theorem RepO.bd {G : Gx} {H : Hp} {W : Wd} {a : Addr} {o : O} (h : RepO G H W a o) : BdO W.S.length o := by
 cases o with
 | lst ds => obtain ⟨xs, _, r⟩ := h; exact r.bd
 | dct kvs => exact h.1
 | ins c fs => obtain ⟨_, _, _, _, _, _, r⟩ := h; exact r.bd
mutual
theorem Rep.back {G : Gx} {H : Hp} {W : Wd} {S' : Sto} (ρ : Nat → Nat) : ∀ {d : D} {v : V}, Bd S'.length d → Rep G H W (mapD ρ d) v → Rep G H ⟨fun i => W.μ (ρ i), S'⟩ d v
 | .ref i, _, b, h => ⟨b, h.2⟩
 | .tup ds, _, b, h => by obtain ⟨a, xs, e, q, r⟩ := h; exact ⟨a, xs, e, q, RepL.back ρ b r⟩
 | .scr ds, _, b, h => by obtain ⟨a, xs, e, q, r⟩ := h; exact ⟨a, xs, e, q, RepL.back ρ b r⟩
 | .non, _, _, h => h
 | .bl _, _, _, h => h
 | .int _, _, _, h => h
 | .str _, _, _, h => h
 | .exc _, _, _, h => h
theorem RepL.back {G : Gx} {H : Hp} {W : Wd} {S' : Sto} (ρ : Nat → Nat) : ∀ {ds : List D} {vs : List V}, BdL S'.length ds → RepL G H W (mapL ρ ds) vs → RepL G H ⟨fun i => W.μ (ρ i), S'⟩ ds vs
 | [], _, _, h => h
 | d :: ds, _, b, h => by obtain ⟨v, r, e, q, t⟩ := h; exact ⟨v, r, e, Rep.back ρ b.1 q, RepL.back ρ b.2 t⟩
end
theorem mapL_map (ρ : Nat → Nat) : ∀ ds : List D, mapL ρ ds = ds.map (mapD ρ)
 | [] => by simp [mapL]
 | d :: ds => by simp [mapL, mapL_map ρ ds]
theorem RepO.back {G : Gx} {H : Hp} {W : Wd} {S' : Sto} {a : Addr} (ρ : Nat → Nat) {o : O} (b : BdO S'.length o) (h : RepO G H W a (mapO ρ o)) : RepO G H ⟨fun i => W.μ (ρ i), S'⟩ a o := by
 cases o with
 | lst ds => obtain ⟨xs, e, r⟩ := h; exact ⟨xs, e, r.back ρ b⟩
 | dct kvs => exact h
 | ins c fs =>
  obtain ⟨C, dx, ps, m, e, n, r⟩ := h
  refine ⟨C, dx, ps, m, e, by rw [n, List.map_map]; rfl, RepL.back ρ b ?_⟩
  rw [mapL_map]
  rw [List.map_map] at r ⊢
  exact r
structure Emb (n : Nat) (ρ : Nat → Nat) (S' S1 : Sto) : Prop where
 len : n ≤ S'.length
 fix : ∀ i, i < n → ρ i = i
 inj : ∀ i j, i < S'.length → j < S'.length → ρ i = ρ j → i = j
 get : ∀ i o, S'[i]? = some o → S1[ρ i]? = some (mapO ρ o) ∧ BdO S'.length o
def Em (n : Nat) : Rs D → Rs D → Prop
 | .ok d S', .ok d1 S1 => ∃ ρ, Emb n ρ S' S1 ∧ Bd S'.length d ∧ d1 = mapD ρ d
 | .er c S', .er c1 S1 => c1 = c ∧ ∃ ρ, Emb n ρ S' S1
 | _, _ => False
theorem Emb.nxt {G : Gx} {H H1 : Hp} {W W1 : Wd} {S' : Sto} {ρ : Nat → Nat} (e : Emb W.S.length ρ S' W1.S) (s : Nxt G H W H1 W1) : Nxt G H W H1 ⟨fun i => W1.μ (ρ i), S'⟩ := by
 have hlt : ∀ i, i < S'.length → ρ i < W1.S.length := fun i hi => by
  have := (e.get i S'[i] (by simp [hi])).1
  exact (List.getElem?_eq_some_iff.mp this).1
 refine ⟨⟨fun i j hi hj h => e.inj i j hi hj (s.ok.inj _ _ (hlt i hi) (hlt j hj) h), fun i o h => ?_⟩, e.len, fun i hi => ?_, fun i h1 h2 => ?_, s.frm⟩
 ·obtain ⟨g1, g2⟩ := e.get i o h
  exact (s.ok.get _ _ g1).back ρ g2
 ·show W1.μ (ρ i) = _
  rw [e.fix i hi]
  exact s.old i hi
 ·show H (W1.μ (ρ i)) = none
  refine s.new _ ?_ (hlt i h2)
  by_cases hz : ρ i < W.S.length
  ·have h3 := e.fix _ hz
   have := e.inj (ρ i) i (Nat.lt_of_lt_of_le hz e.len) h2 h3
   omega
  ·exact Nat.le_of_not_lt hz
def Wf (S : Sto) (ds : List D) : Prop := (∀ (i : Nat) (o : O), S[i]? = some o → BdO S.length o) ∧ BdL S.length ds
structure FunG (K : PySem.W.Frag) (x qual : Str) (st : Stmt) (f : Addr) (fd : FuncData) : Prop where
 ex : ∃ (dV oc : Value) (od : Option Addr) (kV doc pm : Value) (an : Option Addr) (cdv ct : Value) (osl : Array (Option Value)),
  fd = PySem.W.fnOf x qual (zI st) (zG st) (zC st) dV kV doc pm an cdv ct ∧ K.lookup f = some ⟨oc, od, .func fd, osl⟩ ∧ PySem.W.codeIn K cdv qual = true
theorem FunG.ok {P : Program} {w : World} {K : PySem.W.Frag} {mg : Str → Option Value} {base : Heap} {x qual : Str} {st : Stmt} {f : Addr} {fd : FuncData} {N ps : List Str} {k : Nat} {sp : Sp} (F : FunG K x qual st f fd) (S : zN N ps (zC st)) (len : ∀ vs H Q E, sp vs H Q E → vs.length = ps.length)
  (hbody : ∀ (cdv : Value) (A : Around) (outer : List Env) (s : Shared) (H : Hp) (vs : List V) (Q : VK) (E : XK), Room k (A.deeper (envOfC qual (zC st) s.heap.objs.size f cdv)) → sp vs H Q E →
   ∃ t, PSs (cxOf CX0 P w K mg base N qual (zC st) f cdv A outer s H E).nox (zG st) t ∧ t { nx := fun _ H' => Q .non H', rt := Q } (start N vs) H) : FnOk P w K mg base CX0 (k + 1) f fd ps sp := by
 obtain ⟨dV, oc, od, kV, doc, pm, an, cdv, ct, osl, rfl, lk, hcd⟩ := F.ex
 refine fn_of lk hcd S len fun A outer s H vs Q E hr hsp => ?_
 obtain ⟨t, h, q⟩ := hbody cdv A outer s H vs Q E hr hsp
 exact ⟨t, h.nox, q⟩
theorem _root_.L2.Fun.g {K : PySem.W.Frag} {x qual : Str} {st : Stmt} {f : Addr} {fd : FuncData} (F : Fun K x qual st f fd) : FunG K x qual st f fd :=
 ⟨let ⟨oc, od, kV, doc, pm, an, cdv, ct, osl, h1, h2, h3⟩ := F.ex; ⟨.none, oc, od, kV, doc, pm, an, cdv, ct, osl, h1, h2, h3⟩⟩
structure FunD (K : PySem.W.Frag) (x qual : Str) (st : Stmt) (f : Addr) (fd : FuncData) (T : Addr) (items : Array Value) : Prop where
 ex : ∃ (oc : Value) (od : Option Addr) (kV doc pm : Value) (an : Option Addr) (cdv ct : Value) (osl : Array (Option Value)),
  fd = PySem.W.fnOf x qual (zI st) (zG st) (zC st) (.ref T) kV doc pm an cdv ct ∧ K.lookup f = some ⟨oc, od, .func fd, osl⟩ ∧ PySem.W.codeIn K cdv qual = true
 tup : ∃ o n, K.lookup T = some o ∧ o.data = .seq items n
theorem FunD.g {K : PySem.W.Frag} {x qual : Str} {st : Stmt} {f : Addr} {fd : FuncData} {T : Addr} {items : Array Value} (F : FunD K x qual st f fd T items) : FunG K x qual st f fd :=
 ⟨let ⟨oc, od, kV, doc, pm, an, cdv, ct, osl, h1, h2, h3⟩ := F.ex; ⟨.ref T, oc, od, kV, doc, pm, an, cdv, ct, osl, h1, h2, h3⟩⟩
theorem funD_mk {K : PySem.W.Frag} {x qual : Str} {st : Stmt} {f T : Addr} {oc : Value} {od an : Option Addr} {osl : Array (Option Value)} {kV doc pm cdv ct : Value} {items : Array Value} {o : Obj} {n : Nat} (l : K.lookup f = some ⟨oc, od, .func (PySem.W.fnOf x qual (zI st) (zG st) (zC st) (.ref T) kV doc pm an cdv ct), osl⟩)
  (c : PySem.W.codeIn K cdv qual = true) (lT : K.lookup T = some o) (hT : o.data = .seq items n) : FunD K x qual st f (PySem.W.fnOf x qual (zI st) (zG st) (zC st) (.ref T) kV doc pm an cdv ct) T items := ⟨⟨oc, od, kV, doc, pm, an, cdv, ct, osl, rfl, l, c⟩, ⟨o, n, lT, hT⟩⟩
theorem FunD.bindsTo {K : PySem.W.Frag} {x qual : Str} {st : Stmt} {f : Addr} {fd : FuncData} {T : Addr} {items : Array Value} (F : FunD K x qual st f fd T items) {s : Shared} {args : Args} {binds : List (Str × Value)} (KX : K.In s.heap)
  (h : ∀ (kV doc pm : Value) (an : Option Addr) (cdv ct : Value), ∃ k : Option (Array Value) → Sem (List (Str × Value)), bindArgs (PySem.W.fnOf x qual (zI st) (zG st) (zC st) (.ref T) kV doc pm an cdv ct) args = seqItems? (.ref T) >>= k ∧ k (some items) = pure binds) : BindsTo s fd args binds := by
 obtain ⟨oc, od, kV, doc, pm, an, cdv, ct, osl, rfl, lk, hcd⟩ := F.ex
 obtain ⟨o, n, lT, hT⟩ := F.tup
 obtain ⟨k, h1, h2⟩ := h kV doc pm an cdv ct
 exact BindsTo.of_defaults rfl (KX _ _ lT) hT h1 h2
theorem fn_den {P : Program} {w : World} {K : PySem.W.Frag} {mg : Str → Option Value} {base : Heap} {x qual : Str} {st : Stmt} {fa : Addr} {fd : FuncData} {N ps : List Str} {k : Nat} {f : List D → Sto → R D} {g : DSt} (F : FunG K x qual st fa fd) (S : zN N ps (zC st))
  (hlen : ∀ ds S rr, f ds S = some rr → ds.length = ps.length)
  (hg : ∀ ds S r, Wf S ds → f ds S = some r → ∃ r1, outF (g (startD N.length ds) S) = some r1 ∧ (r1 = r ∨ Em S.length r r1)) (hno : ∀ ds S c S', f ds S ≠ er c S')
  (hbody : ∀ (cdv : Value) (A : Around) (outer : List Env) (s : Shared) (H : Hp), Room k (A.deeper (envOfC qual (zC st) s.heap.objs.size fa cdv)) →
   PDSs (cxOf CX0 P w K mg base N qual (zC st) fa cdv A outer s H E0).nox E0 (zG st) g) : FnOk P w K mg base CX0 (k + 1) fa fd ps (spF ⟨K, mg⟩ f) := by
 try unfold PDSs at *
 refine F.ok S (fun vs H Q E h => ?_) (fun cdv A outer s H vs Q E hr h => ?_)
 ·obtain ⟨W, ds, rr, _, rl, e, _⟩ := h
  rw [← rl.length]
  exact hlen ds _ rr e
 ·obtain ⟨W, ds, rr, hS, rl, e, hA⟩ := h
  refine ⟨_, hbody cdv A outer s H hr, ?_⟩
  cases rr with
  | er c S' => exact absurd e (hno ds _ c S')
  | ok d S' =>
   obtain ⟨r1, q, hem⟩ := hg ds W.S _ ⟨fun i o h => (hS.get i o h).bd, rl.bd⟩ e
   have fin : ∀ d1 S1, r1 = .ok d1 S1 → ∀ H1 W1, W1.S = S1 → Nxt ⟨K, mg⟩ H W H1 W1 → ∀ v, Rep ⟨K, mg⟩ H1 W1 d1 v → Q v H1 := by
    intro d1 S1 e1 H1 W1 eS s1 v rv
    subst e1
    rcases hem with hem | hem
    ·cases hem
     exact hA H1 W1 eS s1 v rv
    ·obtain ⟨ρ, em, bd, rfl⟩ := hem
     subst eS
     exact hA H1 ⟨fun i => W1.μ (ρ i), S'⟩ rfl (em.nxt s1) v (rv.back ρ bd)
   cases z : g (startD N.length ds) W.S with
   | none => rw [z] at q; cases q
   | some r =>
    refine ⟨W, startD N.length ds, r, hS, RepS.start N rl, z, ?_⟩
    rw [z] at q
    cases r with
    | er c S1 =>
     cases q
     rcases hem with hem | hem
     ·cases hem
     ·exact hem.elim
    | ok fl S1 =>
     cases fl with
     | nx δ =>
      obtain rfl : Rs.ok D.non S1 = r1 := Option.some.inj q
      exact fun H1 W1 eS s1 σ1 hδ1 => fin _ _ rfl H1 W1 eS s1 .non rfl
     | rt d' =>
      obtain rfl : Rs.ok d' S1 = r1 := Option.some.inj q
      exact fun H1 W1 eS s1 v rv => fin _ _ rfl H1 W1 eS s1 v rv
     | bk δ => cases q
     | ct δ => cases q
theorem noer_some {α : Type} {m : R α} {r : Rs α} (h : noer m = some r) : ∃ a S, m = ok a S ∧ r = .ok a S := by
 cases m with
 | none => cases h
 | some m =>
  cases m with
  | ok a S => cases h; exact ⟨a, S, rfl, rfl⟩
  | er c S => cases h
theorem fn_F {P : Program} {w : World} {K : PySem.W.Frag} {mg : Str → Option Value} {base : Heap} {x qual : Str} {st : Stmt} {fa : Addr} {fd : FuncData} {N ps : List Str} {k : Nat} {g : DSt} (F : FunG K x qual st fa fd) (S : zN N ps (zC st))
  (hbody : ∀ (cdv : Value) (A : Around) (outer : List Env) (s : Shared) (H : Hp), Room k (A.deeper (envOfC qual (zC st) s.heap.objs.size fa cdv)) →
   PDSs (cxOf CX0 P w K mg base N qual (zC st) fa cdv A outer s H E0).nox E0 (zG st) g) : FnOk P w K mg base CX0 (k + 1) fa fd ps (spF ⟨K, mg⟩ (fnF N.length ps.length g)) := by
 refine fn_den (g := g) F S (fun ds S rr e => ?_) (fun ds S r _ e => ?_) (fun ds S c S' e => ?_) hbody
 ·unfold fnF at e
  split at e
  ·assumption
  ·cases e
 ·unfold fnF at e
  split at e
  ·obtain ⟨a, S1, e1, e2⟩ := noer_some e
   exact ⟨_, e1, .inl e2.symm⟩
  ·cases e
 ·unfold fnF at e
  split at e
  ·obtain ⟨a, S1, e1, e2⟩ := noer_some e
   cases e2
  ·cases e
theorem fn_N {P : Program} {w : World} {K : PySem.W.Frag} {mg : Str → Option Value} {base : Heap} {x qual : Str} {st : Stmt} {fa : Addr} {fd : FuncData} {N ps : List Str} {k : Nat} (n m : Nat) (g : DSt) {f : List D → Sto → R D} (hf : f = fnF n m g) (F : FunG K x qual st fa fd) (S : zN N ps (zC st)) (hn : N.length = n) (hm : ps.length = m)
  (hbody : ∀ (cdv : Value) (A : Around) (outer : List Env) (s : Shared) (H : Hp), Room k (A.deeper (envOfC qual (zC st) s.heap.objs.size fa cdv)) →
   PDSs (cxOf CX0 P w K mg base N qual (zC st) fa cdv A outer s H E0).nox E0 (zG st) g) : FnOk P w K mg base CX0 (k + 1) fa fd ps (spF ⟨K, mg⟩ f) := by
 subst hf hn hm
 exact fn_F F S hbody
end Np
end
section
namespace Np
open PySem PySem.Spec PyProof.Rows L2
section
variable {X : Cx} {E : XK} {G : Gx}
theorem opD_int {C : Int → Int → Prop} {g : Int → Int → Int} {f : D → D → Sto → R D} (hf : ∀ dx dy S rr, f dx dy S = some rr → ∃ i j, dx = .int i ∧ dy = .int j ∧ C i j ∧ rr = .ok (.int (g i j)) S) : OpD G (rI C fun i j => .int (g i j)) f := by
 intro E H W x y dx dy Q rr hS rx ry e hA
 obtain ⟨i, j, rfl, rfl, c, rfl⟩ := hf dx dy _ rr e
 exact ⟨i, j, rx, ry, c, hA.now hS _ rfl⟩
theorem opD_cmp {g : Int → Int → Bool} {f : D → D → Sto → R D} (hf : ∀ dx dy S rr, f dx dy S = some rr → ∃ i j, dx = .int i ∧ dy = .int j ∧ rr = .ok (.bl (g i j)) S) : OpD G (rI0 fun i j => .bl (g i j)) f := by
 intro E H W x y dx dy Q rr hS rx ry e hA
 obtain ⟨i, j, rfl, rfl, rfl⟩ := hf dx dy _ rr e
 exact ⟨i, j, rx, ry, hA.now hS _ rfl⟩
def rAddD : R2 := fun x y H Q => rI0 (fun i j => .int (i + j)) x y H Q ∨ (∃ i j, x = .str i ∧ y = .str j ∧ i.length + j.length ≤ sizeLine ∧ Q (.str (i ++ j)) H) ∨ rCat x y H Q
theorem op_addX : OpR X (binaryOp .Add) rAddD := OpR.or op_add (OpR.or op_add_str op_cat)
theorem od_add : OpD G rAddD addD := by
 intro E H W x y dx dy Q rr hS rx ry e hA
 unfold addD at e
 split at e
 ·rename_i i j
  obtain rfl : Rs.ok (D.int (i + j)) W.S = rr := Option.some.inj e
  exact .inl ⟨i, j, rx, ry, hA.now hS _ rfl⟩
 ·rename_i i j
  split at e
  ·rename_i hl
   obtain rfl : Rs.ok (D.str (i ++ j)) W.S = rr := Option.some.inj e
   exact .inr (.inl ⟨i, j, rx, ry, sz hl, hA.now hS _ rfl⟩)
  ·cases e
 ·rename_i a b
  unfold catD at e
  split at e
  ·rename_i xs ys hx hy
   split at e
   ·rename_i hl
    obtain ⟨us, ea, qa, ra⟩ := hS.lst rx hx
    obtain ⟨ws, eb, qb, rb⟩ := hS.lst ry hy
    exact .inr (.inr ⟨_, _, us, ws, ea, eb, .inl qa, .inl qb, by rw [← ra.length, ← rb.length]; exact sz hl, fun p hp => new_lst hS e hA (ra.append rb) hp⟩)
   ·cases e
  ·cases e
 ·cases e
theorem od_sub : OpD G (rI0 fun i j => .int (i - j)) subD := by
 intro E H W x y dx dy Q rr hS rx ry e hA
 unfold subD at e
 split at e
 ·rename_i i j
  obtain rfl : Rs.ok (D.int (i - j)) W.S = rr := Option.some.inj e
  exact ⟨i, j, rx, ry, hA.now hS _ rfl⟩
 ·cases e
def CBits (i j : Int) : Prop := i.natAbs.log2 + j.natAbs.log2 ≤ 100000000
theorem CBits.ok {i j : Int} (h : CBits i j) : IntMulOk i j := by
 have hb : ∀ k : Int, Builtin.Int.intBits k ≤ k.natAbs.log2 + 1 := fun k => by
  unfold Builtin.Int.intBits
  split <;> omega
 refine PyProof.Rows.mulOk_of_bits (m := i.natAbs.log2 + 1) (n := j.natAbs.log2 + 1) (hb i) (hb j) ?_
 have h' : i.natAbs.log2 + j.natAbs.log2 ≤ 100000000 := h
 omega
theorem op_mulB : OpR X (binaryOp .Mult) (rI CBits fun i j => .int (i * j)) := opI fun _ _ _ _ _ _ _ hc q => mul_int q hc.ok
def rMulD : R2 := fun x y H Q => rI CBits (fun i j => .int (i * j)) x y H Q ∨ rRep x y H Q
theorem op_mulX : OpR X (binaryOp .Mult) rMulD := OpR.or op_mulB op_rep
theorem RepL.rep {H : Hp} {W : Wd} {ds : List D} {vs : List V} (h : RepL G H W ds vs) : ∀ k : Nat, RepL G H W (List.replicate k ds).flatten (List.replicate k vs).flatten
 | 0 => rfl
 | k + 1 => by
  rw [List.replicate_succ, List.replicate_succ, List.flatten_cons, List.flatten_cons]
  exact h.append (RepL.rep h k)
theorem od_mul : OpD G rMulD mulD := by
 intro E H W x y dx dy Q rr hS rx ry e hA
 unfold mulD at e
 split at e
 ·rename_i i j
  split at e
  ·rename_i hl
   obtain rfl : Rs.ok (D.int (i * j)) W.S = rr := Option.some.inj e
   exact .inl ⟨i, j, rx, ry, hl, hA.now hS _ rfl⟩
  ·cases e
 ·rename_i a k
  unfold repD at e
  split at e
  ·rename_i xs hx
   split at e
   ·rename_i hl
    obtain ⟨hl, h1, h2⟩ := hl
    obtain ⟨us, ea, qa, ra⟩ := hS.lst rx hx
    exact .inr ⟨_, k, us, ea, ry, .inl qa, by omega, by omega, by rw [← ra.length]; exact sz hl, fun p hp => new_lst hS e hA (ra.rep k.toNat) hp⟩
   ·cases e
  ·cases e
 ·cases e
theorem room_pylong {k : Nat} {pins : List (Addr × Obj)} {σ : L2.St} {H : Hp} {s : Shared} (I : Inv X pins σ H s) (hr : Room k X.A) (ht : X.prog.given.tree = none) (hst : X.stack = X.env :: X.outer) (hgen : X.env.scope.isGenerator = false) (hco : X.env.scope.isCoroutine = false) :
  PySem.PylongRoom (model X.prog X.w) X.A s := by
 refine PySem.PylongRoom.of (I.mod.nolimit.keeps I.bk) ?_ (PySem.SeerAt.of (I.mod.seer.keeps I.bk) ht (by rw [I.ok.frames, hst]) hgen hco I.ok.blt I.ok.glob)
 have := hr.dp
 show X.A.depth + 100 < recursionLimit
 omega
theorem op_fdivX {k : Nat} (hr : Room k X.A) (ht : X.prog.given.tree = none) (hst : X.stack = X.env :: X.outer) (hgen : X.env.scope.isGenerator = false) (hco : X.env.scope.isCoroutine = false) : OpR X (binaryOp .FloorDiv) (rI (fun _ j => j ≠ 0) fun i j => .int (i.fdiv j)) := by
 intro pins s σ H x y v u Q I rx ry h
 obtain ⟨i, j, rfl, rfl, hc, q⟩ := h
 obtain ⟨t, rfl⟩ := rx
 obtain ⟨t', rfl⟩ := ry
 exact floordiv_int hc ⟨.int _, H, I.tok _, ⟨_, rfl⟩, q⟩ (.inr (room_pylong I hr ht hst hgen hco))
theorem od_fdiv : OpD G (rI (fun _ j => j ≠ 0) fun i j => .int (i.fdiv j)) fdivD := opD_int fun dx dy S rr e => by
 unfold fdivD at e
 split at e
 ·rename_i i j
  split at e
  ·cases e
  ·rename_i h
   exact ⟨i, j, rfl, rfl, h, (Option.some.inj e).symm⟩
 ·cases e
theorem od_mod : OpD G (rI (fun _ j => j ≠ 0) fun i j => .int (i.fmod j)) modD := opD_int fun dx dy S rr e => by
 unfold modD at e
 split at e
 ·rename_i i j
  split at e
  ·cases e
  ·rename_i h
   exact ⟨i, j, rfl, rfl, h, (Option.some.inj e).symm⟩
 ·cases e
theorem od_pow : OpD G (rI CPow fun i j => .int (i ^ j.toNat)) powD := opD_int fun dx dy S rr e => by
 unfold powD at e
 split at e
 ·rename_i i j
  split at e
  ·rename_i h
   exact ⟨i, j, rfl, rfl, ⟨h.1.1, by omega, by omega⟩, (Option.some.inj e).symm⟩
  ·cases e
 ·cases e
theorem ud_neg : UnD G (rU fun i => .int (-i)) negD := by
 intro E H W x dx Q rr hS rx e hA
 unfold negD at e
 split at e
 ·rename_i i
  obtain rfl : Rs.ok (D.int (-i)) W.S = rr := Option.some.inj e
  exact ⟨i, rx, hA.now hS _ rfl⟩
 ·cases e
theorem cd_abs : CallD G (fun xs H Q => ∃ i, xs = [.int i] ∧ Q (.int (if i < 0 then -i else i)) H) absD := by
 intro E H W vs ds Q rr hS rl e hA
 unfold absD at e
 split at e
 ·rename_i i
  obtain rfl : Rs.ok (D.int (if i < 0 then -i else i)) W.S = rr := Option.some.inj e
  obtain ⟨v, r, rfl, q, t⟩ := rl
  have q : v = .int i := q
  have t : r = [] := t
  subst q t
  exact ⟨i, rfl, hA.now hS _ rfl⟩
 ·cases e
mutual
def toPy : T → PyData
 | .non => .none
 | .bl b => .bool b
 | .int i => .int i
 | .str x => .str x
 | .tup ds => .tuple (toPys ds)
 | .lst ds => .list (toPys ds)
def toPys : List T → List PyData
 | [] => []
 | d :: ds => toPy d :: toPys ds
end
mutual
theorem eqT_py : ∀ (d e : T), PyData.eqv (toPy d) (toPy e) = eqT d e
 | .non, e => by cases e <;> simp [toPy, PyData.eqv, eqT]
 | .bl _, e => by cases e <;> simp [toPy, PyData.eqv, eqT]
 | .int _, e => by cases e <;> simp [toPy, PyData.eqv, eqT]
 | .str _, e => by cases e <;> simp [toPy, PyData.eqv, eqT]
 | .tup ds, e => by
  cases e with
  | tup es => simp only [toPy, PyData.eqv, eqT]; exact eqTs_py ds es
  | _ => simp [toPy, PyData.eqv, eqT]
 | .lst ds, e => by
  cases e with
  | lst es => simp only [toPy, PyData.eqv, eqT]; exact eqTs_py ds es
  | _ => simp [toPy, PyData.eqv, eqT]
theorem eqTs_py : ∀ (ds es : List T), PyData.eqvAll (toPys ds) (toPys es) = eqTs ds es
 | [], [] => by simp [toPys, PyData.eqvAll, eqTs]
 | [], _ :: _ => by simp [toPys, PyData.eqvAll, eqTs]
 | _ :: _, [] => by simp [toPys, PyData.eqvAll, eqTs]
 | d :: ds, e :: es => by simp only [toPys, PyData.eqvAll, eqTs, eqT_py d e, eqTs_py ds es]
end
def Seen (s : Shared) (n : Nat) (t : T) (u : Value) : Prop := (toPy t).canLay0 = true ∧ (toPy t).depth ≤ n ∧ ∃ as, Reads s.heap u (toPy t) as
def Seens (s : Shared) (n : Nat) (ts : List T) (us : List Value) : Prop := PyData.canLayAll0 (toPys ts) = true ∧ PyData.depthAll (toPys ts) ≤ n ∧ ∃ as, ReadsAll s.heap us (toPys ts) as
theorem seens {pins : List (Addr × Obj)} {σ : L2.St} {H : Hp} {W : Wd} {s : Shared} (I : Inv X pins σ H s) {n : Nat} {S : Sto} (ih : ∀ {d : D} {v : V} {u : Value} {t : T}, rd n S d = some t → Rep (gx X) H W d v → RelV v u → Seen s n t u) :
  ∀ {ds : List D} {vs : List V} {us : List Value} {ts : List T}, rdl (rd n S) ds = some ts → RepL (gx X) H W ds vs → Vals vs us → Seens s n ts us
 | [], _, _, _, h, r, q => by
  cases r; cases q
  obtain rfl := Option.some.inj h
  exact ⟨by simp [toPys, PyData.canLayAll0], by simp [toPys, PyData.depthAll], _, ReadsAll.nil⟩
 | d :: ds, _, _, _, h, r, q => by
  obtain ⟨v, vs, rfl, rd1, rl⟩ := r
  cases q with
  | cons q1 q2 =>
   unfold rdl at h
   split at h
   ·rename_i t ts h1 h2
    obtain rfl := Option.some.inj h
    obtain ⟨a1, a2, as, a3⟩ := ih h1 rd1 q1
    obtain ⟨b1, b2, bs, b3⟩ := seens I ih h2 rl q2
    refine ⟨?_, ?_, _, ReadsAll.cons a3 b3⟩
    ·simp only [toPys, PyData.canLayAll0, a1, b1, Bool.and_self]
    ·simp only [toPys, PyData.depthAll]
     omega
   ·cases h
theorem seen {pins : List (Addr × Obj)} {σ : L2.St} {H : Hp} {W : Wd} {s : Shared} (I : Inv X pins σ H s) (hS : StOk (gx X) H W) : ∀ {n : Nat} {d : D} {v : V} {u : Value} {t : T}, rd n W.S d = some t → Rep (gx X) H W d v → RelV v u → Seen s n t u
 | n, .non, _, _, t0, h, r, q => by
  cases r; cases q
  have h : some T.non = some t0 := by cases n <;> exact h
  obtain rfl := Option.some.inj h
  exact ⟨by simp [toPy, PyData.canLay0], by simp [toPy, PyData.depth], _, Reads.none⟩
 | n, .bl b, _, _, t0, h, r, q => by
  cases r; cases q
  have h : some (T.bl b) = some t0 := by cases n <;> exact h
  obtain rfl := Option.some.inj h
  exact ⟨by simp [toPy, PyData.canLay0], by simp [toPy, PyData.depth], _, Reads.bool b⟩
 | n, .int i, _, _, t0, h, r, q => by
  cases r
  obtain ⟨t, rfl⟩ := q
  have h : some (T.int i) = some t0 := by cases n <;> exact h
  obtain rfl := Option.some.inj h
  exact ⟨by simp [toPy, PyData.canLay0], by simp [toPy, PyData.depth], _, Reads.int i t⟩
 | n, .str i, _, _, t0, h, r, q => by
  cases r
  obtain ⟨t, rfl⟩ := q
  have h : (if i.cps.all (· < 0x110000) = true then some (T.str i) else none) = some t0 := by cases n <;> exact h
  split at h
  ·rename_i hc
   obtain rfl := Option.some.inj h
   have h' : PyData.strOk i = true := by simpa [PyData.strOk] using hc
   exact ⟨by simp [toPy, PyData.canLay0, h'], by simp [toPy, PyData.depth], _, Reads.str i t⟩
  ·cases h
 | 0, .tup _, _, _, _, h, _, _ => by cases h
 | 0, .ref _, _, _, _, h, _, _ => by cases h
 | n + 1, .tup ds, _, _, t0, h, r, q => by
  obtain ⟨a, xs, rfl, hq, rl⟩ := r
  cases q
  obtain ⟨its, rv, ⟨o, ho, hc, k, hd⟩, hz⟩ := I.tuple hq
  have h : (rdl (rd n W.S) ds).map T.tup = some t0 := h
  cases hts : rdl (rd n W.S) ds with
  | none => rw [hts] at h; cases h
  | some ts =>
   rw [hts] at h
   obtain rfl := Option.some.inj h
   obtain ⟨b1, b2, as, b3⟩ := seens I (fun h r q => seen I hS h r q) hts rl rv
   refine ⟨?_, ?_, _, reads_tuple_at ho hc hd (by simpa using b3)⟩
   ·simp only [toPy, PyData.canLay0, b1]
   ·simp only [toPy, PyData.depth]
    omega
 | n + 1, .ref i, _, _, t0, h, r, q => by
  have h : (match zH W.S i with | some ds => (rdl (rd n W.S) ds).map T.lst | none => none) = some t0 := h
  cases hl : zH W.S i with
  | none => rw [hl] at h; cases h
  | some ds =>
   rw [hl] at h
   have h : (rdl (rd n W.S) ds).map T.lst = some t0 := h
   obtain ⟨xs, ex, hq, rl⟩ := hS.lst r hl
   subst ex
   cases q
   obtain ⟨z, its, k, rv, hl', e⟩ := I.lstM hq
   cases hts : rdl (rd n W.S) ds with
   | none => rw [hts] at h; cases h
   | some ts =>
    rw [hts] at h
    obtain rfl := Option.some.inj h
    obtain ⟨b1, b2, as, b3⟩ := seens I (fun h r q => seen I hS h r q) hts rl rv
    refine ⟨?_, ?_, _, reads_list_at e rfl rfl (by simpa using b3)⟩
    ·simp only [toPy, PyData.canLay0, b1]
    ·simp only [toPy, PyData.depth]
     omega
 | n, .exc _, _, _, _, h, _, _ => by cases n <;> cases h
 | n, .scr _, _, _, _, h, _, _ => by cases n <;> cases h
theorem Seen.shaped {s : Shared} {t : T} {u : Value} (h : Seen s 9 t u) : SeqAt.shaped (toPy t) = true := by
 unfold SeqAt.shaped
 rw [h.1, Bool.true_and]
 exact decide_eq_true (by have := h.2.1; omega)
def rEqD (G : Gx) (neg : Bool) : R2 := fun x y H Q => ∃ W d e t u, StOk G H W ∧ Rep G H W d x ∧ Rep G H W e y ∧ rd 9 W.S d = some t ∧ rd 9 W.S e = some u ∧ Q (.bl (if neg = true then !eqT t u else eqT t u)) H
theorem op_eqX {k : Nat} (hr : Room k X.A) : OpR X (compareOp .Eq) (rEqD (gx X) false) := by
 intro pins s σ H x y v u Q I rx ry h
 obtain ⟨W, d, e, t, t', hS, rd1, re, pd, pe, q⟩ := h
 have sa := seen I hS pd rd1 rx
 have sb := seen I hS pe re ry
 obtain ⟨as, ra⟩ := sa.2.2
 obtain ⟨bs, rb⟩ := sb.2.2
 refine eq_dataH ra rb sa.shaped sb.shaped hr.units ?_
 rw [eqT_py]
 exact ⟨.bl _, H, I, rfl, q⟩
theorem op_neX {k : Nat} (hr : Room k X.A) : OpR X (compareOp .NotEq) (rEqD (gx X) true) := by
 intro pins s σ H x y v u Q I rx ry h
 obtain ⟨W, d, e, t, t', hS, rd1, re, pd, pe, q⟩ := h
 have sa := seen I hS pd rd1 rx
 have sb := seen I hS pe re ry
 obtain ⟨as, ra⟩ := sa.2.2
 obtain ⟨bs, rb⟩ := sb.2.2
 refine ne_dataH ra rb sa.shaped sb.shaped hr.units ?_
 rw [eqT_py]
 exact ⟨.bl _, H, I, rfl, q⟩
theorem od_eqK (neg : Bool) : OpD G (rEqD G neg) (fun x y S => eqK neg S (rd 9 S x) (rd 9 S y)) := by
 intro E H W x y dx dy Q rr hS rx ry e hA
 have e : eqK neg W.S (rd 9 W.S dx) (rd 9 W.S dy) = some rr := e
 cases h1 : rd 9 W.S dx with
 | none => rw [h1] at e; cases e
 | some t =>
  cases h2 : rd 9 W.S dy with
  | none => rw [h1, h2] at e; cases e
  | some u =>
   rw [h1, h2] at e
   obtain rfl : Rs.ok (D.bl (if neg = true then !eqT t u else eqT t u)) W.S = rr := Option.some.inj e
   exact ⟨W, dx, dy, t, u, hS, rx, ry, h1, h2, hA.now hS _ rfl⟩
theorem od_eq : OpD G (rEqD G false) eqD := od_eqK false
theorem od_ne : OpD G (rEqD G true) neD := od_eqK true
theorem od_lt : OpD G (rI0 fun i j => .bl (decide (i < j))) ltD := opD_cmp fun dx dy S rr e => by
 unfold ltD at e
 split at e
 ·exact ⟨_, _, rfl, rfl, (Option.some.inj e).symm⟩
 ·cases e
theorem od_le : OpD G (rI0 fun i j => .bl (decide (i ≤ j))) leD := opD_cmp fun dx dy S rr e => by
 unfold leD at e
 split at e
 ·exact ⟨_, _, rfl, rfl, (Option.some.inj e).symm⟩
 ·cases e
theorem od_gt : OpD G (rI0 fun i j => .bl (decide (j < i))) gtD := opD_cmp fun dx dy S rr e => by
 unfold gtD at e
 split at e
 ·exact ⟨_, _, rfl, rfl, (Option.some.inj e).symm⟩
 ·cases e
theorem od_ge : OpD G (rI0 fun i j => .bl (decide (j ≤ i))) geD := opD_cmp fun dx dy S rr e => by
 unfold geD at e
 split at e
 ·exact ⟨_, _, rfl, rfl, (Option.some.inj e).symm⟩
 ·cases e
theorem rep_non {H : Hp} {W : Wd} {d : D} {v : V} (r : Rep G H W d v) : decide (v = .non) = isNoneB d := by
 cases d with
 | non => cases r; rfl
 | bl _ => cases r; rfl
 | int _ => cases r; rfl
 | str _ => cases r; rfl
 | tup _ => obtain ⟨a, _, rfl, _⟩ := r; rfl
 | ref _ => obtain ⟨_, rfl⟩ := r; rfl
 | exc _ => obtain ⟨a, _, rfl, _⟩ := r; rfl
 | scr _ => obtain ⟨a, _, rfl, _⟩ := r; rfl
theorem od_isN : OpD G (fun x y H Q => y = .non ∧ Q (.bl (decide (x = .non))) H) isND := by
 intro E H W x y dx dy Q rr hS rx ry e hA
 unfold isND at e
 split at e
 ·obtain rfl := Option.some.inj e
  exact ⟨ry, by rw [rep_non rx]; exact hA.now hS _ rfl⟩
 ·cases e
def rIxD (K : PySem.W.Frag) : R2 := fun x y H Q => rIxL K x y H Q ∨ rIxT K x y H Q
theorem ix_X : IxR X (rIxD X.K) := ix_list.or ix_tup
theorem ixA_at {α : Type} {xs : List α} {i : Int} : (ixA xs.length i).bind (fun j => xs[j]?) = atI xs i := by
 unfold atI ixA ixN
 rfl
theorem at_rep {H : Hp} {W : Wd} {ds : List D} {vs : List V} {i : Int} {d : D} (rl : RepL G H W ds vs) (h : (ixA ds.length i).bind (fun j => ds[j]?) = some d) : ∃ v, atI vs i = some v ∧ Rep G H W d v := by
 rw [← ixA_at]
 rw [rl.length] at h
 cases z : ixA vs.length i with
 | none => rw [z] at h; cases h
 | some j =>
  rw [z] at h
  obtain ⟨v, hv, rv⟩ := rl.get (i := j) (d := d) h
  exact ⟨v, hv, rv⟩
theorem ixK_some {o : Option (List D)} {i : Int} {S : Sto} {rr : Rs D} (h : ixK o i S = some rr) : ∃ xs d, o = some xs ∧ (ixA xs.length i).bind (fun j => xs[j]?) = some d ∧ rr = .ok d S := by
 unfold ixK at h
 split at h
 ·rename_i xs
  split at h
  ·rename_i d hd
   exact ⟨xs, d, rfl, hd, (Option.some.inj h).symm⟩
  ·cases h
 ·cases h
theorem zU : OpD G (rIxD G.K) ixD := by
 intro E H W x y dx dy Q rr hS rx ry e hA
 unfold ixD at e
 split at e
 ·rename_i xs i
  obtain ⟨xs', d, e0, hd, rfl⟩ := ixK_some e
  cases e0
  obtain ⟨a, us, ea, qa, ra⟩ := rx
  obtain ⟨v, hv, rv⟩ := at_rep ra hd
  exact .inr ⟨a, us, i, v, ea, ry, qa, hv, hA.now hS _ rv⟩
 ·rename_i a i
  obtain ⟨xs', d, e0, hd, rfl⟩ := ixK_some e
  obtain ⟨us, ea, qa, ra⟩ := hS.lst rx e0
  obtain ⟨v, hv, rv⟩ := at_rep ra hd
  exact .inl ⟨_, us, i, v, ea, ry, .inl (.inl qa), hv, hA.now hS _ rv⟩
 ·rename_i xs i
  obtain ⟨xs', d, e0, hd, rfl⟩ := ixK_some e
  cases e0
  obtain ⟨a, us, ea, qa, ra⟩ := rx
  obtain ⟨v, hv, rv⟩ := at_rep ra hd
  exact .inl ⟨a, us, i, v, ea, ry, qa.sq, hv, hA.now hS _ rv⟩
 ·cases e
def rLenD (K : PySem.W.Frag) : List V → Hp → VK → Prop := fun xs H Q => (∃ p ys, xs = [.ref p] ∧ (SqL K H p ys ∨ SqT K H p ys) ∧ Q (.int ys.length) H) ∨ ∃ z, xs = [.str z] ∧ z.length ≤ sizeLine ∧ Q (.int z.length) H
theorem call_lenX : CallR X (.builtin "len") (rLenD X.K) := CallR.or call_len_seq call_len_str
theorem cd_len : CallD G (rLenD G.K) lenD := by
 intro E H W vs ds Q rr hS rl e hA
 unfold lenD at e
 split at e
 ·rename_i xs
  obtain rfl : Rs.ok (D.int xs.length) W.S = rr := Option.some.inj e
  obtain ⟨v, r, rfl, ⟨a, us, rfl, qa, ra⟩, t⟩ := rl
  have t : r = [] := t
  subst t
  exact .inl ⟨a, us, rfl, .inl qa.sq, by rw [← ra.length]; exact hA.now hS _ rfl⟩
 ·rename_i xs
  obtain rfl : Rs.ok (D.int xs.length) W.S = rr := Option.some.inj e
  obtain ⟨v, r, rfl, ⟨a, us, rfl, qa, ra⟩, t⟩ := rl
  have t : r = [] := t
  subst t
  exact .inl ⟨a, us, rfl, .inr qa, by rw [← ra.length]; exact hA.now hS _ rfl⟩
 ·rename_i a
  unfold lenK at e
  split at e
  ·rename_i xs hx
   obtain rfl : Rs.ok (D.int xs.length) W.S = rr := Option.some.inj e
   obtain ⟨v, r, rfl, rx, t⟩ := rl
   obtain ⟨us, ea, qa, ra⟩ := hS.lst rx hx
   have t : r = [] := t
   subst t ea
   exact .inl ⟨_, us, rfl, .inl (.inl (.inl qa)), by rw [← ra.length]; exact hA.now hS _ rfl⟩
  ·cases e
 ·rename_i z
  split at e
  ·rename_i hl
   obtain rfl : Rs.ok (D.int z.length) W.S = rr := Option.some.inj e
   obtain ⟨v, r, rfl, q, t⟩ := rl
   have q : v = .str z := q
   have t : r = [] := t
   subst q t
   exact .inr ⟨z, rfl, sz hl, hA.now hS _ rfl⟩
  ·cases e
 ·cases e
def kdT : Kd → String
 | .int => "int"
 | .bool => "bool"
 | .str => "str"
 | .lst => "list"
 | .tup => "tuple"
theorem call_isi (k : Kd) : CallR X (.builtin "isinstance") (fun xs H Q => ∃ W x d b, xs = [x, .ty (kdT k)] ∧ StOk (gx X) H W ∧ Rep (gx X) H W d x ∧ isK k d W.S = some b ∧ Q (.bl b) H) := by
 intro pins s σ H xs us Q I r h
 obtain ⟨W, x, d, b, rfl, hS, rd, hb, q⟩ := h
 obtain ⟨u, w, rfl, rx, rw'⟩ := Vals.two r
 cases rw'
 have qT : ∀ tk, EP X pins σ Q (.bool b) { s with toks := tk } := fun tk => ⟨.bl b, H, I.tok tk, rfl, q⟩
 have qS : EP X pins σ Q (.bool b) s := ⟨.bl b, H, I, rfl, q⟩
 cases d with
 | non =>
  cases rd; cases rx
  cases k <;> cases hb <;> first
   | exact PySem.IsiNone.NoneType_int (qT _)
   | exact PySem.IsiNone.NoneType_bool (qT _)
   | exact PySem.IsiNone.NoneType_str (qT _)
   | exact PySem.IsiNone.NoneType_list (qT _)
   | exact PySem.IsiNone.NoneType_tuple (qT _)
   | exact PySem.IsiPair.NoneType_int (qT _)
   | exact PySem.IsiPair.NoneType_bool (qT _)
   | exact PySem.IsiPair.NoneType_str (qT _)
   | exact PySem.IsiPair.NoneType_list (qT _)
   | exact PySem.IsiPair.NoneType_tuple (qT _)
 | bl c =>
  cases rd; cases rx
  cases k <;> cases hb <;> first
   | exact PySem.IsiPair.bool_int qS
   | exact PySem.IsiPair.bool_bool qS
   | exact PySem.IsiPair.bool_str (qT _)
   | exact PySem.IsiPair.bool_list (qT _)
   | exact PySem.IsiPair.bool_tuple (qT _)
 | int i =>
  cases rd
  obtain ⟨t, rfl⟩ := rx
  cases k <;> cases hb <;> first
   | exact PySem.IsiPair.int_int qS
   | exact PySem.IsiPair.int_bool (qT _)
   | exact PySem.IsiPair.int_str (qT _)
   | exact PySem.IsiPair.int_list (qT _)
   | exact PySem.IsiPair.int_tuple (qT _)
 | str i =>
  cases rd
  obtain ⟨t, rfl⟩ := rx
  cases k <;> cases hb <;> first
   | exact PySem.IsiPair.str_int (qT _)
   | exact PySem.IsiPair.str_bool (qT _)
   | exact PySem.IsiPair.str_str qS
   | exact PySem.IsiPair.str_list (qT _)
   | exact PySem.IsiPair.str_tuple (qT _)
 | tup ds =>
  obtain ⟨a, ys, rfl, hq, rl⟩ := rd
  cases rx
  obtain ⟨its, rv, ⟨o, ho, hc, kk, hd⟩, hz⟩ := I.tuple hq
  have ty : s.TypeIs (.ref a) "tuple" := ⟨o, ho, hc⟩
  cases k <;> cases hb <;> first
   | exact call_isinstance (isinstance_true (Tx := "tuple") F.isi_meta_tuple F.sub_tuple_tuple) ⟨ty, qS⟩
   | exact call_isinstance (isinstance_true (Tx := "tuple") F.isi_meta_tuple isi_sub_tuple) ⟨ty, qS⟩
   | exact call_isinstance (isinstance_false_tuple (by decide +kernel) F.isi_meta_int F.sub_tuple_int) ⟨ty, qT _⟩
   | exact call_isinstance (isinstance_false_tuple (by decide +kernel) F.isi_meta_bool F.sub_tuple_bool) ⟨ty, qT _⟩
   | exact call_isinstance (isinstance_false_tuple (by decide +kernel) F.isi_meta_str F.sub_tuple_str) ⟨ty, qT _⟩
   | exact call_isinstance (isinstance_false_tuple (by decide +kernel) F.isi_meta_list F.sub_tuple_list) ⟨ty, qT _⟩
 | ref a =>
  have hl : (∃ ds, zH W.S a = some ds ∧ b = decide (k = .lst)) ∨ ∃ kvs, W.S[a]? = some (.dct kvs) ∧ b = false := by
   unfold zH
   cases k <;> (simp only [isK] at hb; split at hb <;> first | (rename_i heq; cases hb; first | (refine .inl ?_; rw [heq]; exact ⟨_, rfl, by decide⟩) | exact .inr ⟨_, heq, rfl⟩) | cases hb)
  rcases hl with hl | ⟨kvs, hl, eb⟩
  rotate_left
  ·obtain ⟨_, hq⟩ := hS.get a _ hl
   have ea : x = .ref (W.μ a) := rd.2
   subst ea
   cases rx
   obtain ⟨_, _, vs, _, p⟩ := (show ObjOk X.prog X.w H s.heap (W.μ a) (.dK []) from I.hok _ _ hq)
   obtain ⟨o, es, ep, h1, h2, _⟩ := p
   have ty : s.TypeIs (.ref (W.μ a)) "dict" := ⟨o, h1, h2.1⟩
   subst eb
   cases k <;> first
    | exact call_isinstance (isinstance_false_dict (by decide +kernel) F.isi_meta_int F.sub_dict_int) ⟨ty, qT _⟩
    | exact call_isinstance (isinstance_false_dict (by decide +kernel) F.isi_meta_bool F.sub_dict_bool) ⟨ty, qT _⟩
    | exact call_isinstance (isinstance_false_dict (by decide +kernel) F.isi_meta_str F.sub_dict_str) ⟨ty, qT _⟩
    | exact call_isinstance (isinstance_false_dict (by decide +kernel) F.isi_meta_list F.sub_dict_list) ⟨ty, qT _⟩
    | exact call_isinstance (isinstance_false_dict (by decide +kernel) F.isi_meta_tuple F.sub_dict_tuple) ⟨ty, qT _⟩
  obtain ⟨ds, hl, eb⟩ := hl
  obtain ⟨ys, ea, hq, rl⟩ := hS.lst rd hl
  subst ea
  cases rx
  obtain ⟨z, its, kk, rv, hl, e⟩ := I.lstM hq
  have ty : s.TypeIs (.ref (W.μ a)) "list" := ⟨_, e, rfl⟩
  subst eb
  cases k <;> first
   | exact call_isinstance (isinstance_true (Tx := "list") F.isi_meta_list F.sub_list_list) ⟨ty, qS⟩
   | exact call_isinstance (isinstance_false_list (by decide +kernel) F.isi_meta_int F.sub_list_int) ⟨ty, qT _⟩
   | exact call_isinstance (isinstance_false_list (by decide +kernel) F.isi_meta_bool F.sub_list_bool) ⟨ty, qT _⟩
   | exact call_isinstance (isinstance_false_list (by decide +kernel) F.isi_meta_str F.sub_list_str) ⟨ty, qT _⟩
   | exact call_isinstance (isinstance_false_list (by decide +kernel) F.isi_meta_tuple F.sub_list_tuple) ⟨ty, qT _⟩
 | exc c => cases k <;> cases hb
 | scr _ => cases k <;> cases hb
theorem pd_isi (k : Kd) {e : Expr} {ge : DE} {p p2 pos : Pos} {T : Str} (hT : bootBuiltins T = some (.type (kdT k))) (hg : Gl X "isinstance") (hm : X.mg "isinstance" = none) (hgT : Gl X T) (hmT : X.mg T = none) (he : PDE X E e ge)
  (hv : bootBuiltins "isinstance" = some (.builtin "isinstance") := by decide +kernel) (hnT : T ≠ "__name__" := by decide +kernel) (hdT : (T == ("__debug__" : Str)) = false := by decide +kernel)
  (hst : starEach (e :: [.Name T p2]) X.env = (false, eval e X.env) :: starEach [.Name T p2] X.env := by rfl) (hst2 : starEach (.Name T p2 :: []) X.env = (false, eval (.Name T p2) X.env) :: starEach [] X.env := by rfl)
  (hpl : (backTo pos (starEach [.Name T p2] X.env)).any (·.1) = false := by rfl) :
  PDE X E (.Call (.Name "isinstance" p) [e, .Name T p2] [] pos) (op1 (isiD k) ge) := by
 try unfold PDE at *
 refine PE.imp (pe_callB (call_isi k) hg hm hv (pa_cons he (pa_cons (pe_bltn (v := .ty (kdT k)) hgT hmT hT rfl hnT hdT) pa_nil hst2) hst) (by decide +kernel) (by decide +kernel) hst hpl) fun σ H Q ⟨W, δ, rr, hS, hδ, hg', hA⟩ => ?_
 refine Go.thn hS hδ hg' hA fun d H1 W1 s1 hδ1 hg1 hA1 v rv => ?_
 unfold isiD at hg1
 split at hg1
 ·rename_i b hb
  obtain rfl : Rs.ok (D.bl b) W1.S = rr := Option.some.inj hg1
  exact ⟨W1, v, d, b, rfl, s1.ok, rv, hb, hA1.now s1.ok _ rfl⟩
 ·cases hg1
end
end Np
end
section
namespace Np
open PySem PySem.Spec PyProof.Rows L2
def clOf : List (Str × NameKind) → List (Str × Addr) → List (Str × Addr) → List (Str × Addr)
 | [], _, cs => cs
 | (n, k) :: r, cells, cs => clOf r cells (if k = .free then (match cells.lookup n with | some c => (n, c) :: cs | none => cs) else cs)
theorem clOf_get (cells : List (Str × Addr)) : ∀ (names : List (Str × NameKind)) (cs : List (Str × Addr)) (x : Str) (c : Addr), (clOf names cells cs).lookup x = some c → cs.lookup x = some c ∨ (cells.lookup x = some c ∧ (x, NameKind.free) ∈ names)
 | [], cs, x, c, h => .inl h
 | (n, k) :: r, cs, x, c, h => by
  rcases clOf_get cells r _ x c h with q | ⟨q, m⟩
  ·split at q
   ·rename_i hk
    split at q
    ·rename_i d hd
     rw [List.lookup_cons] at q
     cases e : x == n with
     | true =>
      rw [e] at q
      have e' : x = n := beq_iff_eq.mp e
      subst e' hk
      cases q
      exact .inr ⟨hd, .head _⟩
     | false =>
      rw [e] at q
      exact .inl q
    ·exact .inl q
   ·exact .inl q
  ·exact .inr ⟨q, .tail _ m⟩
theorem clOf_old (cells : List (Str × Addr)) : ∀ (names : List (Str × NameKind)) (cs : List (Str × Addr)) (x : Str), (∃ c, cs.lookup x = some c) → ∃ c, (clOf names cells cs).lookup x = some c
 | [], cs, x, h => h
 | (n, k) :: r, cs, x, h => by
  refine clOf_old cells r _ x ?_
  split
  ·split
   ·rw [List.lookup_cons]
    cases x == n with
    | true => exact ⟨_, rfl⟩
    | false => exact h
   ·exact h
  ·exact h
theorem clOf_has (cells : List (Str × Addr)) : ∀ (names : List (Str × NameKind)) (cs : List (Str × Addr)) (x : Str), (x, NameKind.free) ∈ names → (∃ c, cells.lookup x = some c) → ∃ c, (clOf names cells cs).lookup x = some c
 | (n, k) :: r, cs, x, hm, hc => by
  rcases List.mem_cons.mp hm with e | hm
  ·obtain ⟨rfl, rfl⟩ := Prod.mk.inj e
   obtain ⟨c, hc⟩ := hc
   refine clOf_old cells r _ _ ?_
   rw [if_pos rfl, hc]
   exact ⟨c, by simp [List.lookup_cons]⟩
  ·exact clOf_has cells r _ x hm hc
theorem forIn_clos {env : Env} : ∀ (names : List (Str × NameKind)) (cs : List (Str × Addr)), (∀ y ∈ names, y.2 = .free → ∃ c, env.cells.lookup y.1 = some c) →
  (forIn names cs (fun (x : Str × NameKind) (r : List (Str × Addr)) => do
   if (x.2 == NameKind.free) = true then do let c ← cellOf env x.1; pure (ForInStep.yield ((x.1, c) :: r)) else pure (ForInStep.yield r)) : Sem (List (Str × Addr))) = pure (clOf names env.cells cs)
 | [], cs, _ => rfl
 | (n, k) :: r, cs, h => by
  rw [List.forIn_cons]
  by_cases hk : k = .free
  ·subst hk
   obtain ⟨c, hc⟩ := h (n, .free) (.head _) rfl
   have e : cellOf env n = pure c := by unfold cellOf; rw [hc]
   have ih := forIn_clos (env := env) r ((n, c) :: cs) fun y hy => h y (.tail _ hy)
   have e2 : clOf ((n, NameKind.free) :: r) env.cells cs = clOf r env.cells ((n, c) :: cs) := by
    show clOf r env.cells (if NameKind.free = NameKind.free then (match env.cells.lookup n with | some c => (n, c) :: cs | none => cs) else cs) = _
    rw [if_pos rfl, hc]
   rw [e2, ← ih]
   simp only [beq_self_eq_true, if_true, e, pure_bind]
  ·have ih := forIn_clos (env := env) r cs fun y hy => h y (.tail _ hy)
   have hb : (k == NameKind.free) = false := by simpa using hk
   have e2 : clOf ((n, k) :: r) env.cells cs = clOf r env.cells cs := by
    show clOf r env.cells (if k = NameKind.free then (match env.cells.lookup n with | some c => (n, c) :: cs | none => cs) else cs) = _
    rw [if_neg hk]
   rw [e2, ← ih]
   simp only [hb, Bool.false_eq_true, if_false, pure_bind]
theorem closureFor_eq {scope : Scope} {env : Env} (h : ∀ y ∈ scope.names, y.2 = .free → ∃ c, env.cells.lookup y.1 = some c) : closureFor scope env = pure (clOf scope.names env.cells []) := by
 have := forIn_clos (env := env) scope.names [] h
 unfold closureFor
 simp only [bind_pure]
 exact this
theorem lookup_map (f : Str → NameKind → NameKind) : ∀ (names : List (Str × NameKind)) (x : Str), (names.map fun y => (y.1, f y.1 y.2)).lookup x = (names.lookup x).map (f x)
 | [], x => rfl
 | (n, k) :: r, x => by
  rw [List.map_cons, List.lookup_cons, List.lookup_cons, lookup_map f r x]
  cases e : x == n with
  | true =>
   have e' : x = n := beq_iff_eq.mp e
   subst e'
   rfl
  | false => rfl
theorem relabel_names (scope : Scope) (env : Env) (x : Str) : (relabel scope env).names.lookup x = (scope.names.lookup x).map fun k => if (k == .free && env.scope.kind == .function && env.kindOf x == some .cell) = true then .cell else k := by
 have := lookup_map (fun n k => if (k == .free && env.scope.kind == .function && env.kindOf n == some .cell) = true then .cell else k) scope.names x
 rw [← this]
 unfold relabel
 congr 1
 refine List.map_congr_left fun y _ => ?_
 obtain ⟨n, k⟩ := y
 dsimp only
 split <;> rfl
theorem relabel_look {scope : Scope} {env : Env} {x : Str} {kd : NameKind} (h : (relabel scope env).names.lookup x = some kd) : scope.names.lookup x = some kd ∨ (scope.names.lookup x = some .free ∧ kd = .cell) := by
 rw [relabel_names] at h
 cases q : scope.names.lookup x with
 | none => rw [q] at h; cases h
 | some k =>
  rw [q, Option.map_some] at h
  have h' := Option.some.inj h
  split at h'
  ·rename_i hc
   have hk : k = .free := by
    have := (Bool.and_eq_true_iff.mp (Bool.and_eq_true_iff.mp hc).1).1
    simpa using this
   exact .inr ⟨by rw [hk], h'.symm⟩
  ·exact .inl (by rw [h'])
structure CompOk (N : List Str) (fsc : Scope) (N' : List Str) (scope : Scope) : Prop where
 kind : scope.kind = .function
 names : ∀ x ∈ scope.names, x.2 = .local → scope.names.lookup x.1 = some .local
 celu : ∀ x ∈ scope.names, x.2 = .cell → scope.names.lookup x.1 = some .cell
 free : ∀ x ∈ scope.names, x.2 = .free → scope.names.lookup x.1 = some .free ∧ (fsc.names.lookup x.1 = some .cell ∨ fsc.names.lookup x.1 = some .free)
 pre : ((List.range N.length).all fun i => match N'[i]? with
  | some x => (match scope.names.lookup x with
   | some .local => false
   | some .cell => false
   | some .free => N[i]? == some x
   | _ => true)
  | none => true) = true
 len : N.length ≤ N'.length
 nd : N'.Nodup
def ownOf (scope : Scope) (x : Str) : Bool := scope.names.lookup x == some .local || scope.names.lookup x == some .cell
def cellsC (scope : Scope) (C : Addr) (cells : List (Str × Addr)) : List (Str × Addr) := cellsFrom (C + 1) scope.names (clOf scope.names cells [])
theorem cellsFrom_get : ∀ (names : List (Str × NameKind)) (h : Heap) (acc : List (Str × Addr)) (x : Str) (c : Addr), (cellsFrom h.objs.size names acc).lookup x = some c →
  acc.lookup x = some c ∨ ((x, NameKind.cell) ∈ names ∧ h.objs.size ≤ c ∧ (pushCells h names).IsCell c none)
 | [], h, acc, x, c, e => .inl e
 | (n, k) :: r, h, acc, x, c, e => by
  unfold cellsFrom at e
  unfold pushCells
  split at e
  ·rename_i hk
   rw [if_pos hk]
   have hk' : k = .cell := by simpa using hk
   have z : (h.push { cls := .type "cell", data := .cell none }).objs.size = h.objs.size + 1 := Heap.size_push ..
   rw [← z] at e
   rcases cellsFrom_get r _ _ x c e with q | ⟨q1, q2, q3⟩
   ·rw [List.lookup_cons] at q
    cases en : x == n with
    | true =>
     rw [en] at q
     have en' : x = n := beq_iff_eq.mp en
     cases q
     refine .inr ⟨by rw [en', hk']; exact .head _, Nat.le_refl _, { cls := .type "cell", data := .cell none }, pushCells_keeps _ _ _ _ (Heap.get?_push_size _ rfl), rfl⟩
    | false =>
     rw [en] at q
     exact .inl q
   ·exact .inr ⟨.tail _ q1, by omega, q3⟩
  ·rename_i hk
   rw [if_neg hk]
   rcases cellsFrom_get r _ _ x c e with q | ⟨q1, q2⟩
   ·exact .inl q
   ·exact .inr ⟨.tail _ q1, q2⟩
theorem cellsFrom_at : ∀ (names : List (Str × NameKind)) (n : Nat) (acc : List (Str × Addr)) (x : Str) (c : Addr), (cellsFrom n names acc).lookup x = some c → acc.lookup x = some c ∨ ((x, NameKind.cell) ∈ names ∧ n ≤ c)
 | [], n, acc, x, c, e => .inl e
 | (y, k) :: r, n, acc, x, c, e => by
  unfold cellsFrom at e
  split at e
  ·rename_i hk
   have hk' : k = .cell := by simpa using hk
   rcases cellsFrom_at r _ _ x c e with q | ⟨q1, q2⟩
   ·rw [List.lookup_cons] at q
    cases en : x == y with
    | true =>
     rw [en] at q
     have en' : x = y := beq_iff_eq.mp en
     cases q
     exact .inr ⟨by rw [en', hk']; exact .head _, Nat.le_refl _⟩
    | false =>
     rw [en] at q
     exact .inl q
   ·exact .inr ⟨.tail _ q1, by omega⟩
  ·rcases cellsFrom_at r _ _ x c e with q | ⟨q1, q2⟩
   ·exact .inl q
   ·exact .inr ⟨.tail _ q1, q2⟩
theorem cellsFrom_old : ∀ (names : List (Str × NameKind)) (n : Nat) (acc : List (Str × Addr)) (x : Str), (∃ c, acc.lookup x = some c) → ∃ c, (cellsFrom n names acc).lookup x = some c
 | [], n, acc, x, e => e
 | (y, k) :: r, n, acc, x, e => by
  unfold cellsFrom
  split
  ·refine cellsFrom_old r _ _ x ?_
   rw [List.lookup_cons]
   cases x == y with
   | true => exact ⟨_, rfl⟩
   | false => exact e
  ·exact cellsFrom_old r _ _ x e
theorem cellsFrom_inj : ∀ (names : List (Str × NameKind)) (n : Nat) (acc : List (Str × Addr)), (∀ x c, acc.lookup x = some c → c < n) → (∀ x y c, acc.lookup x = some c → acc.lookup y = some c → x = y) →
  ∀ x y c, (cellsFrom n names acc).lookup x = some c → (cellsFrom n names acc).lookup y = some c → x = y
 | [], n, acc, _, h2 => h2
 | (z, k) :: r, n, acc, h1, h2 => by
  unfold cellsFrom
  split
  ·refine cellsFrom_inj r _ _ (fun x c e => ?_) fun x y c e1 e2 => ?_
   ·rw [List.lookup_cons] at e
    cases en : x == z with
    | true => rw [en] at e; cases e; exact Nat.lt_succ_self _
    | false => rw [en] at e; exact Nat.lt_succ_of_lt (h1 x c e)
   ·rw [List.lookup_cons] at e1 e2
    cases en : x == z with
    | true =>
     rw [en] at e1
     cases e1
     cases en2 : y == z with
     | true => rw [beq_iff_eq.mp en, beq_iff_eq.mp en2]
     | false => rw [en2] at e2; exact absurd (h1 y _ e2) (Nat.lt_irrefl _)
    | false =>
     rw [en] at e1
     cases en2 : y == z with
     | true => rw [en2] at e2; cases e2; exact absurd (h1 x _ e1) (Nat.lt_irrefl _)
     | false => rw [en2] at e2; exact h2 x y c e1 e2
  ·exact cellsFrom_inj r _ _ h1 h2
theorem newEnv_comp {M : Model} {A : Around} {E : Value → Shared → Prop} {s : Shared} {scope : Scope} {globals : Addr} {closure : List (Str × Addr)} {qual : Str} {env : Env} {Q : Env → Shared → Prop}
  (hQ : ∀ h', h'.Ns s.heap.objs.size (fun _ => none) → (∀ b o, s.heap.get? b = some o → h'.get? b = some o) →
   (∀ x c, (cellsFrom (s.heap.objs.size + 1) scope.names closure).lookup x = some c → closure.lookup x = some c ∨ ((x, NameKind.cell) ∈ scope.names ∧ s.heap.objs.size + 1 ≤ c ∧ h'.IsCell c none)) →
   Q (newEnv scope s.heap.objs.size globals (cellsFrom (s.heap.objs.size + 1) scope.names closure) qual none .none (some env) builtinsNs) { s with heap := h' }) :
  wpAny M A (newFunctionEnv scope globals closure [] qual none .none (some env)) Q E s := by
 simp only [newFunctionEnv, Option.isSome_some, if_true]
 refine wpAny_bind (wpAny_alloc ?_)
 refine wpAny_bind (wpAny_layCells _ (fun name kind cells => by cases hkc : kind == NameKind.cell <;> simp [hkc]) _ _ _ _ ?_)
 have z : (s.heap.push { cls := .type "dict", data := .dict #[] }).objs.size = s.heap.objs.size + 1 := Heap.size_push ..
 rw [List.forIn_nil]
 refine wpAny_bind (wpAny_pure (wpAny_pure ?_))
 have := hQ (pushCells (s.heap.push { cls := .type "dict", data := .dict #[] }) scope.names) ((Heap.Ns.new s.heap (.type "dict")).keeps (pushCells_keeps _ _)) (fun b o e => pushCells_keeps _ _ b o (Heap.get?_push_of_some _ e)) (fun x c e => by
  rw [← z] at e ⊢
  exact cellsFrom_get _ _ _ _ _ e)
 rw [← z] at this
 exact this
def compCx (X : Cx) (N' : List Str) (scope : Scope) (C : Addr) (s₃ : Shared) (H₃ : Hp) (ex : List Addr) (pn : List (Addr × Obj)) : Cx where
 prog := X.prog
 w := X.w
 K := X.K
 mg := X.mg
 base := X.base
 A := X.A
 N := N'
 s₀ := s₃
 H₀ := H₃
 env := compEnvC scope (cellsC scope C X.env.cells) C X.env
 outer := X.stack
 stack := X.stack
 ex := ex
 fn := ownOf scope
 calm := X.calm
 pn := pn
 xe := fun _ _ => False
section
variable {X : Cx} {N' : List Str} {scope : Scope}
theorem cl_sub {x : Str} {c : Addr} (h : (clOf scope.names X.env.cells []).lookup x = some c) : X.env.cells.lookup x = some c ∧ (x, NameKind.free) ∈ scope.names := by
 rcases clOf_get _ _ _ _ _ h with z | z
 ·cases z
 ·exact z
theorem cellsC_get {C : Addr} {x : Str} {c : Addr} (h : (cellsC scope C X.env.cells).lookup x = some c) : (X.env.cells.lookup x = some c ∧ (x, NameKind.free) ∈ scope.names) ∨ ((x, NameKind.cell) ∈ scope.names ∧ C < c) := by
 rcases cellsFrom_at _ _ _ _ _ h with q | ⟨q1, q2⟩
 ·exact .inl (cl_sub q)
 ·exact .inr ⟨q1, q2⟩
theorem cells_lt {pins : List (Addr × Obj)} {σ : L2.St} {H₃ : Hp} {s₃ : Shared} (I : Inv X pins σ H₃ s₃) {x : Str} {c : Addr} (h : X.env.cells.lookup x = some c) : c < s₃.heap.objs.size := by
 obtain ⟨v, o, ho, _⟩ := I.cell x c h
 exact Heap.lt_size ho
theorem comp_ok {pins : List (Addr × Obj)} {σ : L2.St} {H₃ : Hp} {s₃ : Shared} {C : Addr} {fp : List Addr} (O : CompOk X.N X.env.scope N' scope) (I : Inv X pins σ H₃ s₃) (hC : s₃.heap.objs.size ≤ C) (hf : ∀ b ∈ fp, FpOk X pins H₃ b) (hfl : ∀ b ∈ fp, b < s₃.heap.objs.size) :
  (compCx X N' scope C s₃ H₃ fp (X.pn ++ pins)).Ok where
 mod := I.ok.mod
 kind := by show (relabel scope X.env).kind = _; exact O.kind
 glob := I.ok.glob
 blt := I.ok.blt
 above := hC
 inj := fun x y c h1 h2 => cellsFrom_inj scope.names (C + 1) (clOf scope.names X.env.cells []) (fun x c h => Nat.lt_succ_of_lt (Nat.lt_of_lt_of_le (cells_lt I (cl_sub h).1) hC)) (fun x y c h1 h2 => I.ok.inj x y c (cl_sub h1).1 (cl_sub h2).1) x y c h1 h2
 has := fun x hx => by
  have hx' : (relabel scope X.env).names.lookup x = some .cell ∨ (relabel scope X.env).names.lookup x = some .free := hx
  have hfree : scope.names.lookup x = some .cell ∨ scope.names.lookup x = some .free := by
   rcases hx' with z | z
   ·rcases relabel_look z with y | ⟨y, _⟩
    ·exact .inl y
    ·exact .inr y
   ·rcases relabel_look z with y | ⟨y, y2⟩
    ·exact .inr y
    ·cases y2
  rcases hfree with hfree | hfree
  ·exact Option.isSome_iff_exists.mp (PySem.W.cellsFrom_some scope.names (C + 1) _ (.inl hfree))
  ·have hm := PySem.mem_of_lookup hfree
   have hcell : ∃ c, X.env.cells.lookup x = some c := I.ok.has x (O.free _ hm rfl).2
   exact cellsFrom_old _ _ _ _ (clOf_has _ _ _ _ hm hcell)
 cab := fun x c h1 h2 => by
  rcases cellsC_get (X := X) h2 with ⟨_, hm⟩ | ⟨_, hc⟩
  ·have q := (O.free _ hm rfl).1
   have h1' : (scope.names.lookup x == some .local || scope.names.lookup x == some .cell) = true := h1
   rw [q] at h1'
   cases h1'
  ·exact Nat.le_of_lt (Nat.lt_of_le_of_lt hC hc)
 hd := I.ok.hd
 frames := I.ok.frames
 stk := .inl rfl
 exf := fun b hb => ⟨Nat.ne_of_lt (Nat.lt_of_lt_of_le (hfl b hb) hC), fun x c h => by
  rcases cellsC_get (X := X) h with ⟨q, _⟩ | ⟨_, q⟩
  ·exact (hf b hb).2.2.2.2.1 x c q
  ·exact Nat.ne_of_gt (Nat.lt_trans (Nat.lt_of_lt_of_le (hfl b hb) hC) q)⟩
 bs := I.bs
 bsz := Nat.le_trans I.ok.bsz I.sz
 noex := fun b o e hb => by
  rcases (hf b hb).2.2.2.1 with z | z
  ·exact I.ok.noex b o e z
  ·exact absurd (Nat.lt_of_lt_of_le (Heap.lt_size (I.ok.bs b o e).1) z) (Nat.lt_irrefl _)
 exfs := fun b hb z => by
  rcases List.mem_cons.mp (I.stkSub b z) with e | e
  ·exact (hf b hb).2.1 e
  ·exact (hf b hb).2.2.1 e
 funs := I.stack
 frf := I.stkFree
theorem inv_comp {pins : List (Addr × Obj)} {σ : L2.St} {H₃ : Hp} {s₃ s₄ : Shared} {C : Addr} {fp : List Addr} {m : Str → Option Value} {k : Nat} (O : CompOk X.N X.env.scope N' scope) (I : Inv X pins σ H₃ s₃) (hC : s₃.heap.objs.size ≤ C) (hf : ∀ b ∈ fp, FpOk X pins H₃ b) (hfl : ∀ b ∈ fp, b < s₃.heap.objs.size)
  (hs : ∃ h' t', s₄ = { s₃ with heap := h', toks := t' }) (hk : ∀ b o, s₃.heap.get? b = some o → s₄.heap.get? b = some o) (hn : s₄.heap.Ns C m)
  (hce : ∀ x c, (cellsC scope C X.env.cells).lookup x = some c → (clOf scope.names X.env.cells []).lookup x = some c ∨ ((x, NameKind.cell) ∈ scope.names ∧ C + 1 ≤ c ∧ s₄.heap.IsCell c none)) (hlen : X.N.length + k = N'.length) : Inv (compCx X N' scope C s₃ H₃ fp (X.pn ++ pins)) [] (σ ++ List.replicate k none) H₃ s₄ := by
 obtain ⟨h', t', rfl⟩ := hs
 have hHC : H₃ C = none := I.hok.fresh hC
 refine ⟨comp_ok O I hC hf hfl, rfl, I.bare, Un.kept hk, ⟨m, hn, fun i x v h1 h2 h3 => ?_⟩, fun x c h => ?_, hHC, fun x c h => ?_, fun p hp => ?_, I.hok.kept hk, ?_⟩
 ·have hi : i < σ.length := by
   by_cases hi : i < σ.length
   ·exact hi
   ·rw [List.getElem?_append_right (by omega), List.getElem?_replicate] at h2
    split at h2 <;> cases h2
  rw [List.getElem?_append_left hi] at h2
  have hiN : i < X.N.length := by rw [← I.len]; exact hi
  have hp := List.all_eq_true.mp O.pre i (List.mem_range.mpr hiN)
  have h1' : N'[i]? = some x := h1
  rw [h1'] at hp
  have h3' : (relabel scope X.env).names.lookup x = some .local ∨ (relabel scope X.env).names.lookup x = some .cell ∨ (relabel scope X.env).names.lookup x = some .free := h3
  have hp2 : (match scope.names.lookup x with
   | some .local => false
   | some .cell => false
   | some .free => X.N[i]? == some x
   | _ => true) = true := hp
  have hfree : scope.names.lookup x = some .free := by
   rcases h3' with z | z | z
   ·rcases relabel_look z with y | ⟨y, y2⟩
    ·rw [y] at hp2; cases hp2
    ·cases y2
   ·rcases relabel_look z with y | ⟨y, _⟩
    ·rw [y] at hp2; cases hp2
    ·exact y
   ·rcases relabel_look z with y | ⟨y, y2⟩
    ·exact y
    ·cases y2
  have hm := PySem.mem_of_lookup hfree
  rw [hfree] at hp2
  have hNx : X.N[i]? = some x := by simpa using hp2
  have hkx := (O.free _ hm rfl).2
  obtain ⟨m0, hn0, hl0⟩ := I.loc
  have vis : Vis X.env.scope x := by
   rcases hkx with z | z
   ·exact .inr (.inl z)
   ·exact .inr (.inr z)
  obtain ⟨u, r, l⟩ := hl0 i x v hNx h2 vis
  refine ⟨u, r, .inr ⟨?_, ?_⟩⟩
  ·rcases h3' with z | z | z
   ·exfalso
    rcases relabel_look z with y | ⟨y, y2⟩
    ·rw [hfree] at y; cases y
    ·cases y2
   ·exact .inl z
   ·exact .inr z
  ·rcases l with ⟨z, _⟩ | ⟨_, c, hc, hcell⟩
   ·exfalso
    have z' : X.env.scope.names.lookup x = some .local := z
    rcases hkx with y | y
    ·rw [z'] at y; cases y
    ·rw [z'] at y; cases y
   ·obtain ⟨c', hc'⟩ := cellsFrom_old scope.names (C + 1) _ x (clOf_has X.env.cells scope.names [] x hm ⟨c, hc⟩)
    have hcc : X.env.cells.lookup x = some c' := by
     rcases cellsC_get (X := X) (C := C) hc' with ⟨q, _⟩ | ⟨q, _⟩
     ·exact q
     ·have := O.celu _ q rfl
      rw [hfree] at this
      cases this
    rw [hc] at hcc
    cases hcc
    obtain ⟨o, ho, hd⟩ := hcell
    exact ⟨c, hc', o, hk _ _ ho, hd⟩
 ·rcases hce x c h with q | ⟨_, _, q⟩
  ·obtain ⟨v, o, ho, hd⟩ := I.cell x c (cl_sub q).1
   exact ⟨v, o, hk _ _ ho, hd⟩
  ·exact ⟨_, q⟩
 ·rcases cellsC_get (X := X) h with ⟨q, _⟩ | ⟨_, q⟩
  ·exact I.freeC x c q
  ·exact I.hok.fresh (Nat.le_of_lt (Nat.lt_of_le_of_lt hC q))
 ·have hp' : p ∈ X.pn ++ pins := by
   have q : p ∈ (X.pn ++ pins) ++ [] := hp
   rwa [List.append_nil] at q
  obtain ⟨e, n, ne, nf, d⟩ := I.pin p hp'
  refine ⟨hk _ _ e, n, Nat.ne_of_lt (Nat.lt_of_lt_of_le (Heap.lt_size e) hC), fun z => ?_, d⟩
  rcases List.mem_cons.mp (I.stkSub p.1 z) with y | y
  ·exact ne y
  ·exact nf y
 ·show _ = N'.length
  rw [List.length_append, List.length_replicate, I.len, hlen]
end
section
variable {prog : Program} {w : World} {A : Around} {R : Result → Shared → Prop} {s : Shared}
theorem compLoop_any {elt target iter : Expr} {scope : Scope} {pos : Pos} {it acc : Value} {env : Env} (I : Nat → Shared → Prop)
  (turn : ∀ n s, I n s → wpAny (model prog w) A (pyNext it) (fun r s₁ => match r with
   | none => R (.ok .next) s₁
   | some v => wpAny (model prog w) A (letOwnedTupleGo target it v) (fun _ s₂ => wpAny (model prog w) A (assign target env v) (fun _ s₃ => wpAny (model prog w) A (eval elt env) (fun x s₄ =>
     wpAny (model prog w) A (call (.builtin "list.append") [acc, x]) (fun _ s₅ => ∃ m, m < n ∧ I m s₅) (fun _ _ => False) s₄) (fun _ _ => False) s₃) (fun _ _ => False) s₂) (fun _ _ => False) s₁) (fun _ _ => False) s)
  (n : Nat) (h : I n s) :
  codeAny (model prog w) A (.compLoop (.ListComp elt [⟨target, iter, [], 0⟩] scope pos) 0 it acc env) R s := by
 refine codeAny_loop rfl I (fun n s hI => ?_) n h
 show wpAny _ _ ((compTurn (.ListComp elt [⟨target, iter, [], 0⟩] scope pos) 0 it acc env).onRaise (fun x => do noteFrame x env; theTreesLotGoes x)) _ _ s
 refine wpAny_noted ?_
 rw [compTurn_list1]
 refine wpAny_bind (wpAny_standAt (wpAny_bind (wpAny_mono (turn n s hI) (fun r s₁ h₁ => ?_) fun _ _ h' => h'.elim)))
 cases r with
 | none => exact wpAny_pure h₁
 | some v =>
  refine wpAny_bind (wpAny_mono h₁ (fun _ s₂ h₂ => ?_) fun _ _ h' => h'.elim)
  exact wpAny_bind (wpAny_mono h₂ (fun _ s₂ h₂ => wpAny_bind (wpAny_bind (wpAny_mono h₂ (fun x s₃ h₃ => wpAny_bind (wpAny_mono h₃
   (fun _ s₄ h₄ => wpAny_pure (wpAny_pure ⟨rfl, h₄⟩)) fun _ _ h' => h'.elim)) fun _ _ h' => h'.elim))) fun _ _ h' => h'.elim)
end
def tComp (wi : TI) (g : TG) (te : TE) (k : Nat) : TE := fun σ H Q => wi σ H fun J H1 => ∃ W : Nat → Nat → List V → L2.St → Hp → Prop, (∃ n, W 0 n [] (σ ++ List.replicate k none) H1) ∧ ∀ i n vs σ H, W i n vs σ H →
 (J.stop i H ∧ ∀ p, H p = none → Q (.ref p) (upd H p (.lst vs))) ∨ (J.go i H ∧ vs.length < sizeLine ∧ ∀ x H', J.yld i H x H' → g x σ H' fun σ2 H2 => te σ2 H2 fun v H3 => ∃ n', n' < n ∧ W (i + 1) n' (vs ++ [v]) σ2 H3)
section
variable {X : Cx} {N' : List Str} {scope : Scope}
theorem Inv.adopt {pins : List (Addr × Obj)} {σ : L2.St} {H : Hp} {s : Shared} {a : Addr} {vs : List V} {its : List Value} {n : Nat} (I : Inv X pins σ H s) (f : FpOk X pins H a) (e : s.heap.get? a = some { cls := .type "list", data := .seq its.toArray n }) (rv : Vals vs its) (hz : vs.length ≤ sizeLine) :
  Inv X pins σ (upd H a (.lst vs)) s := by
 have hn := f.1
 have ne : ∀ b u, H b = some u → b ≠ a := fun b u q => ne_of_none q hn
 have J := I.step (h' := s.heap) (H' := upd H a (.lst vs)) (g' := s.gens) (t' := s.toks) (d' := s.drawn) (ch := [a]) (fun b hb => by
   have z : b = a := by simpa using hb
   subst z
   exact ⟨f.2.2.2.1, f.2.1, f.2.2.2.2.1, f.2.2.2.2.2⟩) (fun b o _ _ _ q _ => q) (fun b o _ _ _ q _ => ⟨o.slots, q⟩) (fun b o hc _ q => by rw [zO (by simpa using hc)]; exact q) (fun b o _ q => ⟨o, q⟩)
  (fun b xs q => by rw [zO (ne b _ q)]; exact q) (fun b o u q => by rw [zO (ne b _ q)]; exact q) (fun b ps q => ⟨#[], by rw [zO (ne b _ q), q]; simp⟩) (fun m hm => hm) (fun b u q => ?_) I.bare
 ·exact J
 ·by_cases hb : b = a
  ·subst hb
   rw [zW] at q
   cases q
   exact ⟨hz, its, n, rv, e⟩
  ·rw [zO hb] at q
   exact (I.hok b u q).stay (fun c v _ z => z) (fun c z => by rw [zO (ne c _ z)]; exact z) fun c xs z => by rw [zO (ne c _ z)]; exact z
end
section
variable {X : Cx} {N' : List Str} {scope : Scope}
theorem comp_run {elt iter tg : Expr} {pos : Pos} {wi : TI} {g : TG} {te : TE} {k : Nat} (O : CompOk X.N X.env.scope N' scope) (hlen : X.N.length + k = N'.length) (hcal : X.calm = true) (hi : PI X tg iter wi)
  (hg : ∀ C s₃ H₃ ex pn, PG (compCx X N' scope C s₃ H₃ ex pn) tg g) (he : ∀ C s₃ H₃ ex pn, PE (compCx X N' scope C s₃ H₃ ex pn) elt te)
  {use : Option (Value → Sem Unit)} {Qf : Value → Shared → Prop} {pins : List (Addr × Obj)} {s : Shared} {σ : L2.St} {H : Hp} {Q : VK} (I : Inv X pins σ H s) (h : tComp wi g te k σ H Q)
  (fin : ∀ (C acc : Addr) (H' : Hp) (s' : Shared) (m : Str → Option Value), Inv X pins σ H' s' → s'.heap.Ns C m → FpOk X pins H' C → Q (.ref acc) H' → compPost (model X.prog X.w) X.A X.xe use Qf (.ref acc) C (.ok .next) s')
  (hs : ∀ x, foldedSetIterable iter X.env x = pure x := by intro _; rfl) :
  wpAny (model X.prog X.w) X.A (comprehension (.ListComp elt [⟨tg, iter, [], 0⟩] scope pos) scope X.env (firstIterPos [⟨tg, iter, [], 0⟩] pos) (newList []) false (eval iter X.env) use) Qf X.xe s := by
 have hclos : closureFor scope X.env = pure (clOf scope.names X.env.cells []) := closureFor_eq fun y hy hf => I.ok.has y.1 (O.free y hy hf).2
 refine wpAny_comprehension_free (use := use) rfl hs hclos O.kind O.names (thn (hi pins s σ H _ I h) fun xv s1 h1 => thn h1 fun itv s2 h2 => ?_)
 obtain ⟨it, fp, tn, J, H2, rfl, I2, T, st2, f2, hW⟩ := h2
 refine wpAny_newObj_type (newEnv_comp fun h₁ hns₁ hk₁ hce₁ => ?_)
 have hfp2 : ∀ b ∈ fp, b < s2.heap.objs.size := fun b hb => by
  obtain ⟨o, e, _⟩ := T.obj 0 _ st2 b hb
  exact Heap.lt_size e
 have hpn : H2 s2.heap.objs.size = none := I2.hok.fresh (Nat.le_refl _)
 have I3 : Inv X pins σ H2 { s2 with heap := s2.heap.push { cls := .type "list", data := .seq ([] : List Value).toArray } } := I2.kept (t' := s2.toks) fun b o e => Heap.get?_push_of_some _ e
 have facc : FpOk X pins H2 s2.heap.objs.size := I2.fpOk (Nat.le_refl _) hpn
 have gacc : (s2.heap.push { cls := .type "list", data := .seq ([] : List Value).toArray }).get? s2.heap.objs.size = some { cls := .type "list", data := .seq ([] : List Value).toArray } := Heap.get?_push_size _ rfl
 obtain ⟨W, ⟨n0, w0⟩, turn⟩ := hW
 generalize hs3 : ({ s2 with heap := s2.heap.push { cls := .type "list", data := .seq ([] : List Value).toArray } } : Shared) = s3 at I3
 have hh3 : s3.heap = s2.heap.push { cls := .type "list", data := .seq ([] : List Value).toArray } := by rw [← hs3]
 rw [← hh3] at gacc
 have z3 : s3.heap.objs.size = s2.heap.objs.size + 1 := by rw [hh3, Heap.size_push]
 generalize hacc : s2.heap.objs.size = acc at *
 have f3 : ∀ b ∈ acc :: fp, FpOk X pins H2 b := fun b hb => by
  rcases List.mem_cons.mp hb with e | hb
  ·rw [e]; exact facc
  ·exact f2 b hb
 have hfp3 : ∀ b ∈ acc :: fp, b < s3.heap.objs.size := fun b hb => by
  rw [z3]
  rcases List.mem_cons.mp hb with e | hb
  ·rw [e]; exact Nat.lt_succ_self _
  ·exact Nat.lt_succ_of_lt (hfp2 b hb)
 have hk4 : ∀ b o, s3.heap.get? b = some o → h₁.get? b = some o := fun b o e => hk₁ b o (by rw [hh3] at e; exact e)
 have hCe : (s2.heap.push { cls := .type "list", dict := none, data := .seq ([] : List Value).toArray }).objs.size = s3.heap.objs.size := by rw [hh3]
 generalize hC : (s2.heap.push { cls := .type "list", dict := none, data := .seq ([] : List Value).toArray }).objs.size = C at *
 have st3 : tn 0 h₁ := T.keep 0 _ _ st2 fun b hb o e => hk4 b o (by rw [hh3]; exact Heap.get?_push_of_some _ e)
 have okx := comp_ok (fp := acc :: fp) O I3 (show s3.heap.objs.size ≤ C by rw [hCe]; exact Nat.le_refl _) f3 hfp3
 have pinOk : ∀ {H' : Hp} {its : List Value} {kk : Nat} {h' : Heap}, H' acc = none → h'.get? acc = some { cls := .type "list", data := .seq its.toArray kk } → ∀ p ∈ [(acc, ({ cls := .type "list", data := .seq its.toArray kk } : Obj))], h'.get? p.1 = some p.2 ∧ H' p.1 = none ∧ p.1 ≠ (compCx X N' scope C s3 H2 (acc :: fp) (X.pn ++ pins)).env.locals ∧ p.1 ∉ (compCx X N' scope C s3 H2 (acc :: fp) (X.pn ++ pins)).fs ∧ ∀ v, p.2.data ≠ .cell v := fun {H' its kk h'} hn e p hp => by
  have z : p = (acc, ({ cls := .type "list", data := .seq its.toArray kk } : Obj)) := by simpa using hp
  subst z
  exact ⟨e, hn, (okx.exf acc (.head _)).1, okx.exfs acc (.head _), fun v q => by cases q⟩
 have I4 : Inv (compCx X N' scope C s3 H2 (acc :: fp) (X.pn ++ pins)) [] (σ ++ List.replicate k none) H2 { s3 with heap := h₁ } :=
  inv_comp O I3 (by rw [hCe]; exact Nat.le_refl _) f3 hfp3 ⟨h₁, _, rfl⟩ hk4 hns₁ hce₁ hlen
 have I4' : Inv (compCx X N' scope C s3 H2 (acc :: fp) (X.pn ++ pins)) [(acc, { cls := .type "list", data := .seq ([] : List Value).toArray 0 })] (σ ++ List.replicate k none) H2 { s3 with heap := h₁ } :=
  I4.pins_of (pinOk facc.1 (hk4 _ _ gacc))
 have loop : codeAny (model X.prog X.w) X.A (.compLoop (.ListComp elt [⟨tg, iter, [], 0⟩] scope pos) 0 (.ref it) (.ref acc) (compEnvC scope (cellsC scope C X.env.cells) C X.env)) (compPost (model X.prog X.w) X.A X.xe use Qf (.ref acc) C) { s3 with heap := h₁ } := by
  have fpx : ∀ {H' : Hp} {ob : Obj}, (∀ b ∈ fp, H' b = none) → ∀ b ∈ fp, FpOk (compCx X N' scope C s3 H2 (acc :: fp) (X.pn ++ pins)) [(acc, ob)] H' b := fun {H' ob} hn b hb => by
   have hb' : b ∈ acc :: fp := .tail _ hb
   refine ⟨hn b hb, (okx.exf b hb').1, okx.exfs b hb', .inl hb', fun x c h => (okx.exf b hb').2 x c h, fun p hp => ?_⟩
   have hp' : p ∈ (X.pn ++ pins) ++ [(acc, ob)] := hp
   rcases List.mem_append.mp hp' with z | z
   ·exact (f3 b hb').2.2.2.2.2 p z
   ·have e : p = (acc, ob) := by simpa using z
    rw [e]
    exact Nat.ne_of_gt (hfp2 b hb)
  refine compLoop_any (fun n s' => ∃ i vs its kk σ' H', Inv (compCx X N' scope C s3 H2 (acc :: fp) (X.pn ++ pins)) [(acc, { cls := .type "list", data := .seq its.toArray kk })] σ' H' s' ∧ Vals vs its ∧ vs.length ≤ sizeLine ∧ tn i s'.heap ∧ (∀ b ∈ fp, H' b = none) ∧ W i n vs σ' H') ?_ n0 ⟨0, [], [], 0, _, _, I4', .nil, Nat.zero_le _, st3, fun b hb => (f2 b hb).1, w0⟩
  rintro n s5 ⟨i, vs, its, kk, σ5, H5, I5, rv, hz, st5, fr5, w5⟩
  rcases turn i n vs σ5 H5 w5 with ⟨stop, qn⟩ | ⟨go, hlt, step⟩
  ·refine thn (T.done (compCx X N' scope C s3 H2 (acc :: fp) (X.pn ++ pins)) rfl rfl rfl hcal i _ s5 σ5 H5 _ I5 (fpx fr5) st5 stop) fun r s6 ⟨hr, I6⟩ => ?_
   subst hr
   have back : Inv X pins σ H5 s6 := by
    have e : s6.os = s3.os := I6.os
    refine I3.call' e (ch := acc :: fp) I6.base I6.hok I6.bare fun b hb => ?_
    obtain ⟨a1, a2, a3, a4, a5, a6⟩ := f3 b hb
    exact ⟨a4, a2, a5, a6⟩
   obtain ⟨m6, hn6, _⟩ := I6.loc
   have hn6' : s6.heap.Ns C m6 := hn6
   obtain ⟨e6, n6, _⟩ := I6.pin (acc, { cls := .type "list", data := .seq its.toArray kk }) (List.mem_append_right _ (.head _))
   have fa : FpOk X pins H5 acc := ⟨n6, facc.2⟩
   have hCa : C ≠ acc := Nat.ne_of_gt (by rw [hCe]; exact hfp3 acc (.head _))
   refine fin C acc _ s6 m6 (Inv.adopt back fa e6 rv hz) hn6' ?_ (qn acc n6)
   exact I3.fpOk (by rw [hCe]; exact Nat.le_refl _) (by rw [zO hCa]; exact I6.free)
  ·refine thn (T.item (compCx X N' scope C s3 H2 (acc :: fp) (X.pn ++ pins)) rfl rfl rfl hcal i _ s5 σ5 H5 _ I5 (fpx fr5) st5 go) fun r s6 ⟨u, hr, h6⟩ => ?_
   subst hr
   refine thn h6 fun _ s7 ⟨x, H7, I7, r7, y7, st7, fr7⟩ => ?_
   have I7' := I7.pinned (fpx fr7) (T.obj _ _ st7)
   refine thn (hg _ _ _ _ _ _ s7 σ5 H7 x u _ I7' r7 (step x H7 y7)) fun _ s8 ⟨σ8, H8, I8, q8⟩ => ?_
   refine thn (he _ _ _ _ _ _ s8 σ8 H8 _ I8 q8) fun xv s9 ⟨v, H9, I9, r9, q9⟩ => ?_
   obtain ⟨n', hn', w9⟩ := q9
   obtain ⟨e9, n9, l9, f9, _⟩ := I9.pin (acc, { cls := .type "list", data := .seq its.toArray kk }) (List.mem_append_right _ (List.mem_append_left _ (.head _)))
   have hlen9 := rv.length
   refine call_meets F.slot_list_append ⟨_, e9, rfl⟩ F.entry_list_append (F.args_list_append_2 _ _) (PySem.list_append acc its.toArray kk xv (by rw [List.size_toArray]; omega)) ⟨e9, ?_⟩
   have q10 := PySem.IsL.update e9 (fun xs => xs.push xv)
   have ea : (its.toArray.push xv) = (its ++ [xv]).toArray := by simp
   rw [ea] at q10
   have I9' := I9.pins_of (pins' := pinsAt fp s7.heap) fun p hp => I9.pin p (List.mem_append_right _ (List.mem_append_right _ hp))
   have I10 : Inv (compCx X N' scope C s3 H2 (acc :: fp) (X.pn ++ pins)) (pinsAt fp s7.heap) σ8 H9 { s9 with heap := s9.heap.update acc (Obj.mapSeq fun xs => xs.push xv) } :=
    I9'.turned (t' := s9.toks) (it := acc) (fun b o hb e => (Heap.get?_update_other s9.heap _ (Ne.symm hb)).trans e) n9 (okx.exf acc (.head _)).1 (.inl (.head _)) (fun x c h => (okx.exf acc (.head _)).2 x c h) fun p hp => by
     have hp' : p ∈ (X.pn ++ pins) ++ pinsAt fp s7.heap := hp
     rcases List.mem_append.mp hp' with z | z
     ·exact facc.2.2.2.2.2 p z
     ·exact Nat.ne_of_lt (hfp2 p.1 (of_pinsAt z).1)
   refine ⟨n', hn', i + 1, vs ++ [v], its ++ [xv], _, σ8, H9, I10.pins_of (pinOk n9 q10), rv.append (.cons r9 .nil), by rw [List.length_append, List.length_singleton]; omega, T.keep _ _ _ st7 fun b hb o eo => (I10.pin (b, o) (List.mem_append_right _ (mem_pinsAt hb eo))).1, fun b hb => ?_, w9⟩
   obtain ⟨o, eo, d⟩ := T.obj _ _ st7 b hb
   exact (I10.pin (b, o) (List.mem_append_right _ (mem_pinsAt hb eo))).2.1
 have whole := codeAny_compStart_list loop (T.self _ 0 _ _ _ st3 loop)
 subst hCe
 exact whole
end
section
variable {X : Cx} {N' : List Str} {scope : Scope}
theorem pe_comp {elt iter tg : Expr} {pos : Pos} {wi : TI} {g : TG} {te : TE} (k : Nat) (O : CompOk X.N X.env.scope N' scope) (hcal : X.calm = true) (hi : PI X tg iter wi)
  (hg : ∀ C s₃ H₃ ex pn, PG (compCx X N' scope C s₃ H₃ ex pn) tg g) (he : ∀ C s₃ H₃ ex pn, PE (compCx X N' scope C s₃ H₃ ex pn) elt te)
  (hlen : X.N.length + k = N'.length := by rfl) (hs : ∀ x, foldedSetIterable iter X.env x = pure x := by intro _; rfl) : PE X (.ListComp elt [⟨tg, iter, [], 0⟩] scope pos) (tComp wi g te k) := by
 intro pins s σ H Q I h
 rw [eval_ListComp]
 exact comp_run (use := none) O hlen hcal hi hg he I h (fun C acc H' s' m J hn f q => ⟨m, hn, fun h' hs' => ⟨.ref acc, H', J.turned (t' := s'.toks) (fun b o hb e => (hs'.2 b hb).trans e) f.1 f.2.1 f.2.2.2.1 f.2.2.2.2.1 f.2.2.2.2.2, rfl, q⟩⟩) hs
end
end Np
end
section
namespace Np
open PySem PySem.Spec PyProof.Rows L2
theorem RepS.more {G : Gx} {H : Hp} {W : Wd} {δ : DS} {σ : L2.St} (h : RepS G H W δ σ) (k : Nat) : RepS G H W (δ ++ List.replicate k none) (σ ++ List.replicate k none) := by
 refine ⟨by simp [h.1], fun i d e => ?_⟩
 by_cases hi : i < δ.length
 ·rw [List.getElem?_append_left hi] at e
  obtain ⟨v, e1, r⟩ := h.2 i d e
  exact ⟨v, by rw [List.getElem?_append_left (h.1 ▸ hi)]; exact e1, r⟩
 ·rw [List.getElem?_append_right (by omega), List.getElem?_replicate] at e
  split at e <;> cases e
theorem compD_cases {src : Src} {g : DG} {e : DE} {n i : Nat} {δ : DS} {S : Sto} {r : Rs (List D)} (h : compD src g e n i δ S = some r) :
  (src.get S i = some none ∧ r = .ok [] S) ∨ ∃ x m, n = m + 1 ∧ src.get S i = some (some x) ∧ bnd (g x δ S) (compK e (compD src g e m (i + 1))) = some r := by
 cases n with
 | zero =>
  unfold compD at h
  split at h
  ·rename_i e
   exact .inl ⟨e, (Option.some.inj h).symm⟩
  ·cases h
 | succ n =>
  unfold compD at h
  split at h
  ·rename_i e
   exact .inl ⟨e, (Option.some.inj h).symm⟩
  ·rename_i x e
   exact .inr ⟨x, n, rfl, e, h⟩
  ·cases h
section
variable {X : Cx} {E : XK} {N' : List Str} {scope : Scope}
theorem tF_comp {gi : DI} {k : Nat} {g : DG} {ge : DE} : ∀ σ H Q, tF (gx X) E (compE gi k g ge) σ H Q → tComp (tFI (gx X) E gi) (tFG (gx X) E0 g) (tF (gx X) E0 ge) k σ H Q := by
 intro σ H Q ⟨W, δ, rr, hS, hδ, hg, hA⟩
 refine Go.thn hS hδ hg hA fun src H1 W1 s1 hδ1 hg1 hA1 J hJ => ?_
 have q' : (if src.len W1.S ≤ 1000000 then bnd (noer (compD src g ge (src.len W1.S) 0 (δ ++ List.replicate k none) W1.S)) lstK else none) = some rr := hg1
 split at q'
 ·rename_i hsz
  rcases bnd_some q' with ⟨ds, S2, e2, q2⟩ | ⟨c, S2, e2, _⟩
  ·obtain ⟨ds', S2', e3, e4⟩ := noer_some e2
   cases e4
   refine ⟨fun i n vs σ2 H2 => i + n = src.len W1.S ∧ ∃ W2 δ2 ds1 ds2, Nxt (gx X) H1 W1 H2 W2 ∧ RepS (gx X) H2 W2 δ2 σ2 ∧ ds = ds1 ++ ds2 ∧ ds1.length = i ∧ RepL (gx X) H2 W2 ds1 vs ∧ compD src g ge n i δ2 W2.S = ok ds2 S2,
    ⟨src.len W1.S, by simp, W1, _, [], ds, .rfl s1.ok, hδ1.more k, rfl, rfl, rfl, e3⟩, ?_⟩
   rintro i n vs σ2 H2 ⟨hn, W2, δ2, ds1, ds2, s2, hδ2, hds, hl1, rl, hc⟩
   obtain ⟨w1, w2⟩ := hJ i H2 W2 s2
   rcases compD_cases hc with ⟨hend, hr⟩ | ⟨x, m, rfl, hx, hb⟩
   ·refine .inl ⟨w1 hend, fun p hp => ?_⟩
    cases hr
    rw [List.append_nil] at hds
    subst hds
    exact new_lst s2.ok q2 (hA1.nxt s2) rl hp
   ·obtain ⟨wg, wy⟩ := w2 x hx
    refine .inr ⟨wg, ?_, fun v H3 y => ?_⟩
    ·rw [← rl.length, hl1]
     exact Nat.lt_of_lt_of_le (by omega) (sz hsz)
    ·obtain ⟨W3, e3', s3, rx⟩ := wy v H3 y
     rcases bnd_some hb with ⟨δ4, S4, e4, q4⟩ | ⟨c, S4, _, q4⟩
     ·refine ⟨W3, δ2, x, .ok δ4 S4, s3.ok, hδ2.mv (s3.mv s2.ok), rx, by rw [e3']; exact e4, fun H4 W4 eS4 s4 σ4 hδ4 => ?_⟩
      rcases bnd_some (show bnd (ge δ4 S4) (compK2 (compD src g ge m (i + 1)) δ4) = some (Rs.ok ds2 S2) from q4) with ⟨d, S5, e5, q5⟩ | ⟨c, S5, _, q5⟩
      ·refine ⟨W4, δ4, .ok d S5, s4.ok, hδ4, by rw [eS4]; exact e5, fun H5 W5 eS5 s5 v' rv => ?_⟩
       rcases bnd_some (show bnd (compD src g ge m (i + 1) δ4 S5) (consK d) = some (Rs.ok ds2 S2) from q5) with ⟨ds3, S6, e6, q6⟩ | ⟨c, S6, _, q6⟩
       ·have q6' : Rs.ok (d :: ds3) S6 = Rs.ok ds2 S2 := Option.some.inj q6
        cases q6'
        refine ⟨m, Nat.lt_succ_self m, by omega, W5, δ4, ds1 ++ [d], ds3, ((s2.trans s3).trans s4).trans s5, hδ4.mv (s5.mv s4.ok), by rw [hds]; simp, by simp [hl1], ?_, by rw [eS5]; exact e6⟩
        exact (rl.mv (((s3.trans s4).trans s5).mv s2.ok)).append (RepL.one rv)
       ·cases q6
      ·cases q5
     ·cases q4
  ·obtain ⟨_, _, _, z⟩ := noer_some e2
   cases z
 ·cases q'
theorem pd_comp {elt iter tg : Expr} {pos : Pos} {gi : DI} {g : DG} {ge : DE} (k : Nat) (O : CompOk X.N X.env.scope N' scope) (hcal : X.calm = true) (hi : PDI X E tg iter gi)
  (hg : ∀ C s₃ H₃ ex pn, PDG (compCx X N' scope C s₃ H₃ ex pn) E0 tg g) (he : ∀ C s₃ H₃ ex pn, PDE (compCx X N' scope C s₃ H₃ ex pn) E0 elt ge)
  (hlen : X.N.length + k = N'.length := by rfl) (hs : ∀ x, foldedSetIterable iter X.env x = pure x := by intro _; rfl) : PDE X E (.ListComp elt [⟨tg, iter, [], 0⟩] scope pos) (compE gi k g ge) := by
 first
 | exact (
  PE.imp (pe_comp (g := tFG (gx X) E0 g) (te := tF (gx X) E0 ge) k O hcal hi hg he hlen hs) tF_comp)
 | ((try unfold PDE at *); (try unfold PDG at *); (try unfold PDI at *); exact (
  PE.imp (pe_comp (g := tFG (gx X) E0 g) (te := tF (gx X) E0 ge) k O hcal hi hg he hlen hs) tF_comp))
end
def Itz (K : PySem.W.Frag) (a b : Addr) : It :=
  ⟨fun i H => ∃ xs ys x y, SqL K H a xs ∧ SqL K H b ys ∧ xs[i]? = some x ∧ ys[i]? = some y,
   fun i H v H' => ∃ p x y, v = .ref p ∧ H p = none ∧ H' = upd H p (.tup [x, y]) ∧ (∀ xs, SqL K H a xs → xs[i]? = some x) ∧ ∀ ys, SqL K H b ys → ys[i]? = some y,
   fun i H => ∃ xs ys, SqL K H a xs ∧ SqL K H b ys ∧ (xs.length ≤ i ∨ ys.length ≤ i)⟩
theorem Inv.moved {X : Cx} {pins : List (Addr × Obj)} {σ : L2.St} {H : Hp} {s : Shared} {h' : Heap} {t' : Nat} {ch : List Addr} {p : Addr} {o : HO} (I : Inv X pins σ H s) (hch : ∀ b ∈ ch, FpOk X pins H b) (k : ∀ b u, b ∉ ch → s.heap.get? b = some u → h'.get? b = some u) (hp : s.heap.objs.size ≤ p)
  (new : ObjOk X.prog X.w (upd H p o) h' p o) : Inv X pins σ (upd H p o) { s with heap := h', toks := t' } := by
 have hn : H p = none := I.hok.fresh hp
 have nch : ∀ b u, H b = some u → b ∉ ch := fun b u e z => by rw [(hch b z).1] at e; cases e
 have ne : ∀ b u, H b = some u → b ≠ p := fun b u q => ne_of_none q hn
 refine I.step (g' := s.gens) (d' := s.drawn) (ch := ch) (fun b hb => ⟨(hch b hb).2.2.2.1, (hch b hb).2.1, (hch b hb).2.2.2.2.1, (hch b hb).2.2.2.2.2⟩) (fun b u _ _ hc e _ => k b u hc e) (fun b u _ _ hc e _ => ⟨u.slots, k b u hc e⟩)
  (fun b u hc e n => by rw [zO (Nat.ne_of_lt (Nat.lt_of_lt_of_le (Heap.lt_size e) hp))]; exact n) (fun b u hc e => ⟨u, k b u hc e⟩)
  (fun b xs q => by rw [zO (ne b _ q)]; exact q) (fun b u v q => by rw [zO (ne b _ q)]; exact q) (fun b ps q => ⟨#[], by rw [zO (ne b _ q), q]; simp⟩) (fun m hm => ?_) (fun b u q => ?_) I.bare
 ·obtain ⟨ob, es, ep, ho, r⟩ := hm
  refine ⟨ob, es, ep, k _ ob (fun z => (hch _ z).2.1 rfl) ho, r⟩
 ·by_cases hb : b = p
  ·subst hb
   rw [zW] at q
   cases q
   exact new
  ·rw [zO hb] at q
   refine (I.hok b u q).stay (fun c v hc z => k c v ?_ z) (fun c z => by rw [zO (ne c _ z)]; exact z) fun c xs z => by rw [zO (ne c _ z)]; exact z
   rcases hc with rfl | hc
   ·exact nch _ _ q
   ·exact nch _ _ hc
theorem turn_zip {P : Program} {w : World} {K : PySem.W.Frag} {elts : List Expr} {x1 : Nat} {tpos : Pos} {z TI TO i1 i2 l1 l2 : Addr} (D : ZipApart z TI TO i1 i2 l1 l2) :
  Turn P w K (.Tuple elts x1 tpos) (Itz K l1 l2) [z, TI, TO, i1, i2] z (fun i h => IsZip h z TI TO .none ∧ IsPair h TI (.ref i1) (.ref i2) ∧ (∃ a b, IsPair h TO a b) ∧ h.IsListIter i1 l1 i ∧ h.IsListIter i2 l2 i) where
 mem := by simp
 obj := fun i h st b hb => by
  obtain ⟨hz, hTI, ⟨u, v, hTO⟩, h1, h2⟩ := st
  simp only [List.mem_cons, List.not_mem_nil, or_false] at hb
  rcases hb with rfl | rfl | rfl | rfl | rfl
  ·exact ⟨_, hz, fun v q => by cases q⟩
  ·exact ⟨_, hTI, fun v q => by cases q⟩
  ·exact ⟨_, hTO, fun v q => by cases q⟩
  ·obtain ⟨o, e, c, d⟩ := h1
   exact ⟨o, e, fun v q => by rw [d] at q; cases q⟩
  ·obtain ⟨o, e, c, d⟩ := h2
   exact ⟨o, e, fun v q => by rw [d] at q; cases q⟩
 keep := fun i h h' st k => by
  obtain ⟨hz, hTI, ⟨u, v, hTO⟩, h1, h2⟩ := st
  exact ⟨k z (by simp) _ hz, k TI (by simp) _ hTI, ⟨u, v, k TO (by simp) _ hTO⟩, h1.at fun o e => k i1 (by simp) o e, h2.at fun o e => k i2 (by simp) o e⟩
 item := by
  intro X hP hw hK hc i pins s σ H E I hf st hg
  subst hP hw hK
  obtain ⟨hz, hTI, ⟨u, v, hTO⟩, h1, h2⟩ := st
  obtain ⟨xs, ys, x, y, hqx, hqy, hx, hy⟩ := hg
  obtain ⟨its, rx, px, zx⟩ := I.list hqx
  obtain ⟨jts, ry, py, zy⟩ := I.list hqy
  obtain ⟨ux, hux, rux⟩ := rx.get hx
  obtain ⟨uy, huy, ruy⟩ := ry.get hy
  refine wpAny_pyNext_zip_item D hz hTI hTO h1 h2 px.isList py.isList (x := ux) (y := uy) (by simpa using hux) (by simpa using huy) fun h' a1 a2 a3 a4 a5 a6 hk => ?_
  refine ⟨_, rfl, wpAny_letOwnedTupleGo_zip a1 fun h'' hz' hs' => ?_⟩
  have hTn : s.heap.objs.size ≠ z := Nat.ne_of_gt (Heap.lt_size hz)
  have kk : ∀ b o, b ∉ [z, TI, TO, i1, i2] → s.heap.get? b = some o → h''.get? b = some o := fun b o hb e => by
   simp only [List.mem_cons, List.not_mem_nil, or_false, not_or] at hb
   exact hs'.extBut _ _ hb.1 (hk b o hb.1 hb.2.2.1 hb.2.2.2.1 hb.2.2.2.2 e)
  have hp5 : IsPair h'' s.heap.objs.size ux uy := hs'.extBut _ _ hTn a5
  have new : ObjOk X.prog X.w (upd H s.heap.objs.size (.tup [x, y])) h'' s.heap.objs.size (.tup [x, y]) := ⟨by show 2 ≤ sizeLine; decide, [ux, uy], .cons rux (.cons ruy .nil), ⟨_, hp5, rfl, _, rfl⟩⟩
  have I5 := Inv.moved (s := s) (h' := h'') (t' := s.toks) I hf kk (Nat.le_refl _) new
  refine ⟨.ref s.heap.objs.size, upd H s.heap.objs.size (.tup [x, y]), I5, rfl, ⟨s.heap.objs.size, x, y, rfl, I.hok.fresh (Nat.le_refl _), rfl, fun ws hws => by rw [I.list_inj hws hqx]; exact hx, fun ws hws => by rw [I.list_inj hws hqy]; exact hy⟩, ?_, fun b hb => ?_⟩
  ·exact ⟨hz', hs'.extBut _ _ D.TIz (hk _ _ D.TIz D.TITO D.TIi1 D.TIi2 hTI), ⟨_, _, hs'.extBut _ _ D.TOz a2⟩, a3.extBut hs'.extBut D.i1z, a4.extBut hs'.extBut D.i2z⟩
  ·have hlt : b < s.heap.objs.size := by
    simp only [List.mem_cons, List.not_mem_nil, or_false] at hb
    rcases hb with rfl | rfl | rfl | rfl | rfl
    ·exact Heap.lt_size hz
    ·exact Heap.lt_size hTI
    ·exact Heap.lt_size hTO
    ·obtain ⟨o, e, _⟩ := h1; exact Heap.lt_size e
    ·obtain ⟨o, e, _⟩ := h2; exact Heap.lt_size e
   rw [zO (Nat.ne_of_lt hlt)]
   exact (hf b hb).1
 done := by
  intro X hP hw hK hc i pins s σ H E I hf st hg
  subst hP hw hK
  obtain ⟨hz, hTI, ⟨u, v, hTO⟩, h1, h2⟩ := st
  obtain ⟨xs, ys, hqx, hqy, hend⟩ := hg
  obtain ⟨its, rx, px, zx⟩ := I.list hqx
  obtain ⟨jts, ry, py, zy⟩ := I.list hqy
  have lx := rx.length
  have ly := ry.length
  refine wpAny_pyNext_zip_end (I.ok.hd hc) D hz hTI hTO h1 h2 px.isList py.isList (by
   rcases hend with z | z
   ·exact .inl (by simp; omega)
   ·exact .inr (by simp; omega)) fun h' hk => ⟨rfl, ?_⟩
  have nch : ∀ b u, H b = some u → b ∉ [z, TI, TO, i1, i2] := fun b u e zz => by rw [(hf b zz).1] at e; cases e
  have kk : ∀ b o, b ∉ [z, TI, TO, i1, i2] → s.heap.get? b = some o → h'.get? b = some o := fun b o hb e => by
   simp only [List.mem_cons, List.not_mem_nil, or_false, not_or] at hb
   exact hk b o hb.1 hb.2.2.1 hb.2.2.2.1 hb.2.2.2.2 e
  refine I.step (g' := s.gens) (d' := s.drawn) (t' := s.toks) (ch := [z, TI, TO, i1, i2]) (fun b hb => ⟨(hf b hb).2.2.2.1, (hf b hb).2.1, (hf b hb).2.2.2.2.1, (hf b hb).2.2.2.2.2⟩) (fun b u _ _ hc e _ => kk b u hc e) (fun b u _ _ hc e _ => ⟨u.slots, kk b u hc e⟩)
   (fun _ _ _ _ n => n) (fun b u hc e => ⟨u, kk b u hc e⟩) (fun _ _ q => q) (fun _ _ _ q => q) (fun b ps q => ⟨#[], by rw [q]; simp⟩) (fun m hm => ?_) (fun b u q => ?_) I.bare
  ·obtain ⟨ob, es, ep, ho, r⟩ := hm
   exact ⟨ob, es, ep, kk _ ob (fun z => (hf _ z).2.1 rfl) ho, r⟩
  ·refine (I.hok b u q).stay (fun c v hc zz => kk c v ?_ zz) (fun c zz => zz) fun c xs zz => zz
   rcases hc with rfl | hc
   ·exact nch _ _ q
   ·exact nch _ _ hc
 self := fun _ _ _ _ _ st h => wpAny_pyIter_zip st.1 h
section
variable {X : Cx} {E : XK}
theorem boot_zip : bootBuiltins "zip" = some (.type "zip") := by decide +kernel
theorem two_some {a b : Nat} {S : Sto} {i : Nat} {o : Option D} (h : (Src.two a b).get S i = some o) : ∃ ds es, zH S a = some ds ∧ zH S b = some es ∧ two1 ds[i]? es[i]? = o := by
 have h' : (match zH S a, zH S b with | some xs, some ys => some (two1 xs[i]? ys[i]?) | _, _ => none) = some o := h
 cases q : zH S a with
 | none => rw [q] at h'; cases h'
 | some ds =>
  cases q2 : zH S b with
  | none => rw [q, q2] at h'; cases h'
  | some es => rw [q, q2] at h'; exact ⟨ds, es, rfl, rfl, Option.some.inj h'⟩
theorem two1_some {x y : Option D} {d : D} (h : two1 x y = some d) : ∃ u v, x = some u ∧ y = some v ∧ d = .tup [u, v] := by
 cases x with
 | none => cases h
 | some u =>
  cases y with
  | none => cases h
  | some v => exact ⟨u, v, rfl, rfl, (Option.some.inj h).symm⟩
theorem two1_none {x y : Option D} (h : two1 x y = none) : x = none ∨ y = none := by
 cases x with
 | none => exact .inl rfl
 | some u =>
  cases y with
  | none => exact .inr rfl
  | some v => cases h
theorem walks_zip {G : Gx} {H : Hp} {W : Wd} {a b : Nat} (ha : a < W.S.length) (hb : b < W.S.length) : Walks G (Itz G.K (W.μ a) (W.μ b)) H W (.two a b) := fun i H1 W1 s1 => by
 refine ⟨fun h => ?_, fun d hd => ?_⟩
 ·obtain ⟨ds, es, ea, eb, hn⟩ := two_some h
  obtain ⟨xs, _, qx, rx⟩ := s1.ok.lst (v := .ref (W1.μ a)) ⟨Nat.lt_of_lt_of_le ha s1.len, rfl⟩ ea
  obtain ⟨ys, _, qy, ry⟩ := s1.ok.lst (v := .ref (W1.μ b)) ⟨Nat.lt_of_lt_of_le hb s1.len, rfl⟩ eb
  rw [s1.old a ha] at qx
  rw [s1.old b hb] at qy
  refine ⟨xs, ys, .inl (.inl qx), .inl (.inl qy), ?_⟩
  rcases two1_none hn with h | h
  ·exact .inl (by rw [← rx.length]; exact List.getElem?_eq_none_iff.mp h)
  ·exact .inr (by rw [← ry.length]; exact List.getElem?_eq_none_iff.mp h)
 ·obtain ⟨ds, es, ea, eb, hn⟩ := two_some hd
  obtain ⟨xs, _, qx, rx⟩ := s1.ok.lst (v := .ref (W1.μ a)) ⟨Nat.lt_of_lt_of_le ha s1.len, rfl⟩ ea
  obtain ⟨ys, _, qy, ry⟩ := s1.ok.lst (v := .ref (W1.μ b)) ⟨Nat.lt_of_lt_of_le hb s1.len, rfl⟩ eb
  rw [s1.old a ha] at qx
  rw [s1.old b hb] at qy
  obtain ⟨u, v, hu, hv, rfl⟩ := two1_some hn
  obtain ⟨vx, ex, rvx⟩ := rx.get hu
  obtain ⟨vy, ey, rvy⟩ := ry.get hv
  refine ⟨⟨xs, ys, vx, vy, .inl (.inl qx), .inl (.inl qy), ex, ey⟩, fun z H3 hz => ?_⟩
  obtain ⟨p, x', y', rfl, hp, rfl, k1, k2⟩ := hz
  have e1 := k1 xs (.inl (.inl qx))
  have e2 := k2 ys (.inl (.inl qy))
  rw [ex] at e1
  rw [ey] at e2
  cases e1
  cases e2
  have sn := Nxt.heap s1.ok hp (HO.tup [vx, vy])
  exact ⟨W1, rfl, sn, p, _, rfl, SqT.of zW, ⟨vx, _, rfl, rvx.mv (sn.mv s1.ok), ⟨vy, _, rfl, rvy.mv (sn.mv s1.ok), rfl⟩⟩⟩
end
end Np
end
section
namespace Np
open PySem PySem.Spec PyProof.Rows L2
theorem put_lst {G : Gx} {H : Hp} {W : Wd} {E : XK} {Q : VK} {ds : List D} {vs : List V} {a : Nat} (hS : StOk G H W) (ha : a < W.S.length) (hA : After G E H W (.ok D.non (W.S.set a (.lst ds))) (VP G Q)) (rl : RepL G H W ds vs) : Q .non (upd H (W.μ a) (.lst vs)) :=
 hA _ (W.put a (.lst ds)) rfl (Nxt.write hS ha ⟨vs, zW, rl.mv (Mv.put hS ha _ _)⟩) .non rfl
section
variable {X : Cx} {E : XK} {o e e2 : Expr} {go ge ge2 : DE} {apos cpos : Pos}
theorem isL_true {x : D} {S : Sto} (h : isL x S = true) : ∃ a xs, x = .ref a ∧ zH S a = some xs := by
 cases x with
 | ref a =>
  have h : (zH S a).isSome = true := h
  obtain ⟨xs, e⟩ := Option.isSome_iff_exists.mp h
  exact ⟨a, xs, rfl, e⟩
 | _ => cases h
theorem tyV_list {K : PySem.W.Frag} {H : Hp} {p : Addr} {xs : List V} (h : H p = some (.lst xs)) : tyV K "list" (.ref p) H := .inl ⟨rfl, xs, .inl (.inl h)⟩
theorem tF_meth {r : V → List V → Hp → VK → Prop} {f : D → D → Sto → R D} (hf : ∀ (E : XK) (H : Hp) (W : Wd) (x y : V) (dx dy : D) (Q : VK) (rr : Rs D), StOk (gx X) H W → Rep (gx X) H W dx x → Rep (gx X) H W dy y → f dx dy W.S = some rr → After (gx X) E H W rr (VP (gx X) Q) → r x [y] H Q) :
  ∀ σ H Q, tF (gx X) E (opM f go ge) σ H Q → tBM X.K "list" r (tF (gx X) E go) (tFA (gx X) E (yF ge aNil)) σ H Q := by
 intro σ H Q ⟨W, δ, rr, hS, hδ, hg, hA⟩
 refine Go.thn hS hδ hg hA fun dx H1 W1 s1 hδ1 hg1 hA1 x rx => ?_
 unfold opMK at hg1
 split at hg1
 ·rename_i hl
  obtain ⟨a, xs, rfl, el⟩ := isL_true hl
  obtain ⟨us, ex, hq, rl⟩ := s1.ok.lst rx el
  subst ex
  refine ⟨tyV_list hq, ?_⟩
  rcases bnd_some hg1 with ⟨dy, S2, e2, q2⟩ | ⟨c, S2, e2, q2⟩
  ·refine ⟨W1, δ, .ok [dy] S2, s1.ok, hδ1, by show bnd (ge δ W1.S) (aConsK aNil δ) = _; rw [e2]; rfl, fun H2 W2 eS s2 vs rvs => ?_⟩
   obtain ⟨y, r', rfl, ry, t⟩ := rvs
   have t : r' = [] := t
   subst t
   subst eS
   exact hf E H2 W2 _ y (.ref a) dy Q rr s2.ok (Rep.mv (s2.mv s1.ok) rx) ry q2 (hA1.nxt s2)
  ·subst q2
   exact ⟨W1, δ, .er c S2, s1.ok, hδ1, by show bnd (ge δ W1.S) (aConsK aNil δ) = _; rw [e2]; rfl, hA1⟩
 ·cases hg1
theorem md_append (E : XK) (H : Hp) (W : Wd) (x y : V) (dx dy : D) (Q : VK) (rr : Rs D) (hS : StOk (gx X) H W) (rx : Rep (gx X) H W dx x) (ry : Rep (gx X) H W dy y) (e : appD dx dy W.S = some rr) (hA : After (gx X) E H W rr (VP (gx X) Q)) : rAppend x [y] H Q := by
 unfold appD at e
 split at e
 ·rename_i a
  split at e
  ·rename_i xs hx
   split at e
   ·rename_i hl
    obtain rfl : Rs.ok D.non (W.S.set a (.lst (xs ++ [dy]))) = rr := Option.some.inj e
    obtain ⟨us, ex, hq, rl⟩ := hS.lst rx hx
    exact ⟨_, us, y, ex, rfl, hq, by rw [← rl.length]; exact Nat.lt_of_lt_of_le hl (sz (Nat.le_refl _)), put_lst hS rx.1 hA (rl.append (RepL.one ry))⟩
   ·cases e
  ·cases e
 ·cases e
theorem pd_append (ho : PDE X E o go) (he : PDE X E e ge) (hbase : attributeBase o "append" X.env (eval o X.env) = eval o X.env := by rfl)
  (hfew : ((backTo cpos (starEach (e :: []) X.env)).all (fun x => !x.1) && (backToKw cpos (keywordEach [] X.env)).all (fun x => x.1.isSome) && decide ((e :: []).length + ([] : List Keyword).length + (if ([] : List Keyword).isEmpty then 0 else 1) < 30)) = true := by rfl)
  (hline : (apos.endLine == cpos.line) = true := by rfl) (hs : starEach (e :: []) X.env = (false, eval e X.env) :: starEach [] X.env := by rfl) (hplain : (backTo cpos (starEach [] X.env)).any (·.1) = false := by rfl) :
  PDE X E (.Call (.Attribute o "append" apos) [e] [] cpos) (opM appD go ge) := by
 first
 | exact (
  PE.imp (pe_bm PySem.F.plainAttrs_list PySem.F.slot_list_append PySem.F.type_list_append mt_append ho.o (zB he zE hs).o hbase hfew hline hs hplain) (tF_meth md_append))
 | ((try unfold PDE); exact (
  PE.imp (pe_bm PySem.F.plainAttrs_list PySem.F.slot_list_append PySem.F.type_list_append mt_append ho.o (zB he zE hs).o hbase hfew hline hs hplain) (tF_meth md_append)))
theorem pd_clear (ho : PDE X E o go) (hbase : attributeBase o "clear" X.env (eval o X.env) = eval o X.env := by rfl) (hline : (apos.endLine == cpos.line) = true := by rfl) : PDE X E (.Call (.Attribute o "clear" apos) [] [] cpos) (op1 clearD go) := by
 try unfold PDE at *
 refine PE.imp (pe_bm0 PySem.F.plainAttrs_list PySem.F.slot_list_clear PySem.F.type_list_clear mt_clear ho hbase hline) fun σ H Q ⟨W, δ, rr, hS, hδ, hg, hA⟩ => ?_
 refine Go.thn hS hδ hg hA fun dx H1 W1 s1 hδ1 hg1 hA1 x rx => ?_
 unfold clearD at hg1
 split at hg1
 ·rename_i a
  split at hg1
  ·rename_i xs hx
   obtain rfl : Rs.ok D.non (W1.S.set a (.lst [])) = rr := Option.some.inj hg1
   obtain ⟨us, ex, hq, rl⟩ := s1.ok.lst rx hx
   subst ex
   exact ⟨tyV_list hq, _, us, rfl, rfl, hq, put_lst s1.ok rx.1 hA1 rfl⟩
  ·cases hg1
 ·cases hg1
theorem pdg_sub {pos : Pos} (ho : PDE X E o go) (he : PDE X E e ge)
  (ha : ∀ v, assign (.Subscript o e pos) X.env v = (do
   let ov ← holding [v] (eval o X.env)
   let iv ← holding [v, ov] (eval e X.env)
   standAt pos
   holding [v, ov, iv] (setItem ov iv v)
   release [v, ov, iv] []) := by intro _; rfl) : PDG X E (.Subscript o e pos) (setXG go ge) := by
 try unfold PDE at *
 try unfold PDG at *
 intro pins s σ H v u Q I rv h
 obtain ⟨W, δ, d, rr, hS, hδ, hd, hg, hA⟩ := h
 refine pg_sub ho he set_list ha pins s σ H v u Q I rv ?_
 refine Go.thn hS hδ hg hA fun dx H1 W1 s1 hδ1 hg1 hA1 x rx => ?_
 refine Go.thn s1.ok hδ1 hg1 hA1 fun di H2 W2 s2 hδ2 hg2 hA2 i ri => ?_
 have rx2 := Rep.mv (s2.mv s1.ok) rx
 have rd2 := Rep.mv (((s1.trans s2)).mv hS) hd
 unfold setXA at hg2
 split at hg2
 ·rename_i a j
  split at hg2
  ·rename_i xs hx
   split at hg2
   ·rename_i k hk
    obtain rfl : Rs.ok δ (W2.S.set a (.lst (xs.set k d))) = rr := Option.some.inj hg2
    obtain ⟨us, ex, hq, rl⟩ := s2.ok.lst rx2 hx
    refine ⟨_, us, j, k, ex, ri, hq, by rw [← rl.length]; exact hk, ?_⟩
    have nx : Nxt (gx X) H2 W2 (upd H2 (W2.μ a) (.lst (us.set k v))) (W2.put a (.lst (xs.set k d))) := Nxt.write s2.ok rx2.1 ⟨_, zW, (rl.set rd2 k).mv (Mv.put s2.ok rx2.1 _ _)⟩
    exact hA2 _ _ rfl nx σ (hδ2.mv (nx.mv s2.ok))
   ·cases hg2
  ·cases hg2
 ·cases hg2
variable {a b c : Expr} {ga gb gc : DE} {pos : Pos}
theorem tF_chain {r r' : R2} {f f' : D → D → Sto → R D} (hf : OpD (gx X) r f) (hf' : OpD (gx X) r' f') : ∀ σ H Q, tF (gx X) E (chn f f' ga gb gc) σ H Q → tChain r r' (tF (gx X) E ga) (tF (gx X) E gb) (tF (gx X) E gc) σ H Q := by
 intro σ H Q ⟨W, δ, rr, hS, hδ, hg, hA⟩
 refine Go.thn hS hδ hg hA fun dx H1 W1 s1 hδ1 hg1 hA1 x rx => ?_
 refine Go.thn s1.ok hδ1 hg1 hA1 fun dy H2 W2 s2 hδ2 hg2 hA2 y ry => ?_
 have rx2 := Rep.mv (s2.mv s1.ok) rx
 rcases bnd_some (show bnd (f dx dy W2.S) (chnT f' gc δ dy) = some rr from hg2) with ⟨t, S3, e3, q3⟩ | ⟨c, S3, e3, q3⟩
 ·refine hf E H2 W2 x y dx dy _ (.ok t S3) s2.ok rx2 ry e3 fun H3 W3 eS s3 z rz => ?_
  subst eS
  cases t with
  | bl k =>
   refine ⟨k, rz, ?_⟩
   cases k with
   | true =>
    rw [if_pos rfl]
    refine Go.thn s3.ok (hδ2.mv (s3.mv s2.ok)) (show bnd (gc δ W3.S) (f' dy) = some rr from q3) (hA2.nxt s3) fun dw H4 W4 s4 hδ4 hg4 hA4 w rw' => ?_
    exact hf' E H4 W4 y w dy dw Q rr s4.ok (Rep.mv ((s3.trans s4).mv s2.ok) ry) rw' hg4 hA4
   | false =>
    rw [if_neg (by decide)]
    obtain rfl : Rs.ok (D.bl false) W3.S = rr := Option.some.inj q3
    exact (hA2.nxt s3).now s3.ok _ rfl
  | _ => cases q3
 ·subst q3
  exact hf E H2 W2 x y dx dy _ (.er c S3) s2.ok rx2 ry e3 hA2
theorem pd_chain {op op' : CmpOp} {r r' : R2} {f f' : D → D → Sto → R D} (ho : OpR X (compareOp op) r) (hf : OpD (gx X) r f) (ho' : OpR X (compareOp op') r') (hf' : OpD (gx X) r' f') (ha : PDE X E a ga) (hb : PDE X E b gb) (hc : PDE X E c gc)
  (hm : lastMarks [op, op'] [b, c] = false := by with_unfolding_all rfl) : PDE X E (.Compare a [op, op'] [b, c] pos) (chn f f' ga gb gc) := by
 first
 | exact (
  PE.imp (pe_chain ho ho' ha hb hc hm) (tF_chain hf hf'))
 | ((try unfold PDE at *); exact (
  PE.imp (pe_chain ho ho' ha hb hc hm) (tF_chain hf hf')))
theorem cd_lof {G : Gx} : CallD G (fun xs H Q => ∃ p ys, xs = [.ref p] ∧ (SqL G.K H p ys ∨ SqT G.K H p ys) ∧ ∀ l, H l = none → Q (.ref l) (upd H l (.lst ys))) lofD := by
 intro E H W vs ds Q rr hS rl e hA
 unfold lofD at e
 split at e
 ·rename_i a
  split at e
  ·rename_i xs hx
   obtain ⟨v, r, rfl, rx, t⟩ := rl
   have t : r = [] := t
   subst t
   obtain ⟨us, ex, hq, rl⟩ := hS.lst rx hx
   subst ex
   exact ⟨_, us, rfl, .inl (.inl (.inl hq)), fun p hp => new_lst hS e hA rl hp⟩
  ·cases e
 ·rename_i xs
  obtain ⟨v, r, rfl, ⟨a, us, rfl, q, rl⟩, t⟩ := rl
  have t : r = [] := t
  subst t
  exact ⟨a, us, rfl, .inl q.sq, fun p hp => new_lst hS e hA rl hp⟩
 ·rename_i xs
  obtain ⟨v, r, rfl, ⟨a, us, rfl, q, rl⟩, t⟩ := rl
  have t : r = [] := t
  subst t
  exact ⟨a, us, rfl, .inr q, fun p hp => new_lst hS e hA rl hp⟩
 ·cases e
def rDvm : List V → Hp → VK → Prop := fun xs H Q => ∃ i j, xs = [.int i, .int j] ∧ j ≠ 0 ∧ ∀ p, H p = none → Q (.ref p) (upd H p (.tup [.int (i.fdiv j), .int (i.fmod j)]))
theorem call_divmodX {k : Nat} (hr : Room k X.A) (ht : X.prog.given.tree = none) (hst : X.stack = X.env :: X.outer) (hgen : X.env.scope.isGenerator = false) (hco : X.env.scope.isCoroutine = false) : CallR X (.builtin "divmod") rDvm := by
 intro pins s σ H xs us Q I r h
 obtain ⟨i, j, rfl, h1, q⟩ := h
 obtain ⟨u, w', rfl, ⟨t, rfl⟩, ⟨t', rfl⟩⟩ := vals2 r
 refine divmod_int h1 ?_ (.inr (room_pylong I hr ht hst hgen hco))
 have hn : H s.heap.objs.size = none := I.hok.fresh (Nat.le_refl _)
 refine ⟨.ref s.heap.objs.size, upd H s.heap.objs.size (.tup [.int (i.fdiv j), .int (i.fmod j)]), ?_, rfl, q _ hn⟩
 refine I.laid (fun b o e => Heap.get?_push_of_some _ e) (Nat.le_refl _) ⟨by simp only [List.length_cons, List.length_nil]; rw [sizeLine_eq]; decide, [.int (i.fdiv j) s.toks, .int (i.fmod j) (s.toks + 1)], .cons ⟨_, rfl⟩ (.cons ⟨_, rfl⟩ .nil), ?_⟩
 exact ⟨_, Heap.get?_push_size s.heap rfl, rfl, 0, rfl⟩
theorem cd_dvm {G : Gx} : CallD G rDvm dvmD := by
 intro E H W vs ds Q rr hS rl e hA
 unfold dvmD at e
 split at e
 ·rename_i i j
  split at e
  ·cases e
  ·rename_i hj
   obtain rfl : Rs.ok (D.tup [.int (i.fdiv j), .int (i.fmod j)]) W.S = rr := Option.some.inj e
   obtain ⟨v, r, rfl, q, v2, r2, rfl, q2, t⟩ := rl
   have q : v = .int i := q
   have q2 : v2 = .int j := q2
   have t : r2 = [] := t
   subst q q2 t
   exact ⟨i, j, rfl, hj, fun p hp => hA _ W rfl (Nxt.heap hS hp _) _ ⟨p, _, rfl, SqT.of zW, ⟨_, _, rfl, rfl, ⟨_, _, rfl, rfl, rfl⟩⟩⟩⟩
 ·cases e
theorem vals_bl : ∀ {bs : List Bool} {its : List Value}, Vals (bs.map V.bl) its → its = bs.map Value.bool
 | [], _, h => by cases h; rfl
 | b :: bs, _, h => by
  cases h with
  | cons h1 h2 =>
   cases h1
   rw [vals_bl h2]
   rfl
theorem call_allX (hc : X.calm = true) : CallR X (.builtin "all") (fun xs H Q => ∃ (l : Addr) (bs : List Bool), xs = [.ref l] ∧ SqL X.K H l (bs.map V.bl) ∧ Q (.bl (bs.all id)) H) := by
 intro pins s σ H xs us Q I r h
 obtain ⟨l, bs, rfl, hq, q⟩ := h
 obtain ⟨u, rfl, rx⟩ := vals1 r
 cases rx
 obtain ⟨its, rv, pl, hz⟩ := I.list hq
 have hl := pl.isList
 obtain rfl := vals_bl rv
 have hlt : l < s.heap.objs.size := by obtain ⟨_, e, _⟩ := hl; exact Heap.lt_size e
 refine call_all_walk (wpAny_pyIter_list hl ?_)
 refine ⟨s.heap.objs.size, [s.heap.objs.size, l], [s.heap.objs.size], (bs.map Value.bool).toArray.size, _, _, fun i => (bs[i]?).getD true, rfl, Walks.list (A := X.A.in1) (I.ok.hd hc) _ l (Nat.ne_of_lt hlt) (bs.map Value.bool).toArray,
  ⟨⟨_, Heap.get?_push_size _ rfl, rfl, rfl⟩, hl.push _⟩, fun i v s' Q' E' hP hQ => ?_, fun h' tk hk => ?_⟩
 ·have hP : (bs.map Value.bool)[i]? = some v := by simpa using hP
  rw [List.getElem?_map] at hP
  cases e : bs[i]? with
  | none => rw [e] at hP; cases hP
  | some b =>
   rw [e] at hP
   cases hP
   simp only [e, Option.getD_some] at hQ
   exact wpAny_truthy_bool hQ
 ·have e : ((List.range (bs.map Value.bool).toArray.size).all fun i => (bs[i]?).getD true) = bs.all id := by
   rw [List.size_toArray, List.length_map]; exact LSm.range_all bs
  rw [e]
  exact ⟨.bl _, H, I.kept fun b x eb => hk b x (fun hm => by rw [List.mem_singleton.mp hm] at eb; exact Nat.lt_irrefl _ (Heap.lt_size eb)) (Heap.get?_push_of_some _ eb), rfl, q⟩
theorem allB_some : ∀ {ds : List D} {b : Bool}, allB ds = some b → ∃ bs : List Bool, ds = bs.map D.bl ∧ b = bs.all id
 | [], _, h => by cases h; exact ⟨[], rfl, rfl⟩
 | .bl c :: ds, b, h => by
  have h : (match allB ds with | some e => some (c && e) | none => none) = some b := h
  cases q : allB ds with
  | none => rw [q] at h; cases h
  | some e =>
   rw [q] at h
   cases h
   obtain ⟨bs, rfl, rfl⟩ := allB_some q
   exact ⟨c :: bs, rfl, rfl⟩
 | .non :: _, _, h => by cases h
 | .int _ :: _, _, h => by cases h
 | .str _ :: _, _, h => by cases h
 | .tup _ :: _, _, h => by cases h
 | .ref _ :: _, _, h => by cases h
 | .exc _ :: _, _, h => by cases h
 | .scr _ :: _, _, h => by cases h
theorem repL_bl {G : Gx} {H : Hp} {W : Wd} : ∀ {bs : List Bool} {vs : List V}, RepL G H W (bs.map D.bl) vs → vs = bs.map V.bl
 | [], _, h => h
 | b :: bs, _, h => by
  obtain ⟨v, r, rfl, q, t⟩ := h
  have q : v = .bl b := q
  rw [q, repL_bl t]
  rfl
theorem cd_all {G : Gx} : CallD G (fun xs H Q => ∃ (l : Addr) (bs : List Bool), xs = [.ref l] ∧ SqL G.K H l (bs.map V.bl) ∧ Q (.bl (bs.all id)) H) allD := by
 intro E H W vs ds Q rr hS rl e hA
 unfold allD at e
 split at e
 ·rename_i a
  split at e
  ·rename_i xs hx
   split at e
   ·rename_i b hb
    obtain rfl : Rs.ok (D.bl b) W.S = rr := Option.some.inj e
    obtain ⟨v, r, rfl, rx, t⟩ := rl
    have t : r = [] := t
    subst t
    obtain ⟨us, ex, hq, rl⟩ := hS.lst rx hx
    subst ex
    obtain ⟨bs, rfl, rfl⟩ := allB_some hb
    obtain rfl := repL_bl rl
    exact ⟨_, bs, rfl, .inl (.inl hq), hA.now hS _ rfl⟩
   ·cases e
  ·cases e
 ·cases e
end
end Np
end
section
namespace Np
open PySem PySem.Spec PyProof.Rows L2
section
variable {X : Cx} {E : XK} {e1 e2 ek : Expr} {g1 g2 gk : DE} {pos kpos p : Pos} {kw x : Str}
end
end Np
end
section
namespace Np
open PySem PySem.Spec PyProof.Rows L2
section
variable {X : Cx} {E : XK}
end
end Np
end
section
namespace Np
open PySem PySem.Spec PyProof.Rows L2
section
variable {X : Cx} {E : XK}
end
end Np
end
section
namespace Np
open PySem PySem.Spec PyProof.Rows L2
section
variable {prog : Program} {w : World} {A : Around} {R : Result → Shared → Prop} {s : Shared}
theorem compLoop_anyI {elt target iter ce : Expr} {scope : Scope} {pos : Pos} {it acc : Value} {env : Env} (I : Nat → Shared → Prop)
  (turn : ∀ n s, I n s → wpAny (model prog w) A (pyNext it) (fun r s₁ => match r with
   | none => R (.ok .next) s₁
   | some v => wpAny (model prog w) A (letOwnedTupleGo target it v) (fun _ s₂ => wpAny (model prog w) A (assign target env v) (fun _ s₃ =>
     wpAny (model prog w) A (isTrue ce env (eval ce env)) (fun b s₃ => match b with
      | false => ∃ m, m < n ∧ I m s₃
      | true => wpAny (model prog w) A (eval elt env) (fun x s₄ =>
     wpAny (model prog w) A (call (.builtin "list.append") [acc, x]) (fun _ s₅ => ∃ m, m < n ∧ I m s₅) (fun _ _ => False) s₄) (fun _ _ => False) s₃) (fun _ _ => False) s₃) (fun _ _ => False) s₂) (fun _ _ => False) s₁) (fun _ _ => False) s)
  (n : Nat) (h : I n s) :
  codeAny (model prog w) A (.compLoop (.ListComp elt [⟨target, iter, [ce], 0⟩] scope pos) 0 it acc env) R s := by
 refine codeAny_loop rfl I (fun n s hI => ?_) n h
 show wpAny _ _ ((compTurn (.ListComp elt [⟨target, iter, [ce], 0⟩] scope pos) 0 it acc env).onRaise (fun x => do noteFrame x env; theTreesLotGoes x)) _ _ s
 refine wpAny_noted ?_
 rw [compTurn_list]
 refine wpAny_bind (wpAny_standAt (wpAny_bind (wpAny_mono (turn n s hI) (fun r s₁ h₁ => ?_) fun _ _ h' => h'.elim)))
 cases r with
 | none => exact wpAny_pure h₁
 | some v =>
  refine wpAny_bind (wpAny_mono h₁ (fun _ s₂ h₂ => ?_) fun _ _ h' => h'.elim)
  refine wpAny_bind (wpAny_mono h₂ (fun _ s₂ h₂ => wpAny_bind (wpAny_mono (wpAny_tests_one h₂) (fun ok s₃ h₃ => ?_) fun _ _ h' => h'.elim)) fun _ _ h' => h'.elim)
  cases ok with
  | false => exact wpAny_pure ⟨rfl, h₃⟩
  | true => exact wpAny_bind (wpAny_bind (wpAny_mono h₃ (fun x s₄ h₄ => wpAny_bind (wpAny_mono h₄ (fun _ s₅ h₅ => wpAny_pure (wpAny_pure ⟨rfl, h₅⟩)) fun _ _ h' => h'.elim)) fun _ _ h' => h'.elim))
end
def tCompI (wi : TI) (g : TG) (tt : TT) (te : TE) (k : Nat) : TE := fun σ H Q => wi σ H fun J H1 => ∃ W : Nat → Nat → List V → L2.St → Hp → Prop, (∃ n, W 0 n [] (σ ++ List.replicate k none) H1) ∧ ∀ i n vs σ H, W i n vs σ H →
 (J.stop i H ∧ ∀ p, H p = none → Q (.ref p) (upd H p (.lst vs))) ∨ (J.go i H ∧ vs.length < sizeLine ∧ ∀ x H', J.yld i H x H' → g x σ H' fun σ2 H2 => tt σ2 H2 fun b H3 => match b with
  | false => ∃ n', n' < n ∧ W (i + 1) n' vs σ2 H3
  | true => te σ2 H3 fun v H4 => ∃ n', n' < n ∧ W (i + 1) n' (vs ++ [v]) σ2 H4)
section
variable {X : Cx} {N' : List Str} {scope : Scope}
theorem comp_runI {elt iter tg ce : Expr} {pos : Pos} {wi : TI} {g : TG} {tt : TT} {te : TE} {k : Nat} (O : CompOk X.N X.env.scope N' scope) (hlen : X.N.length + k = N'.length) (hcal : X.calm = true) (hi : PI X tg iter wi)
  (hg : ∀ C s₃ H₃ ex pn, PG (compCx X N' scope C s₃ H₃ ex pn) tg g) (hc : ∀ C s₃ H₃ ex pn, PT (compCx X N' scope C s₃ H₃ ex pn) ce tt) (he : ∀ C s₃ H₃ ex pn, PE (compCx X N' scope C s₃ H₃ ex pn) elt te)
  {use : Option (Value → Sem Unit)} {Qf : Value → Shared → Prop} {pins : List (Addr × Obj)} {s : Shared} {σ : L2.St} {H : Hp} {Q : VK} (I : Inv X pins σ H s) (h : tCompI wi g tt te k σ H Q)
  (fin : ∀ (C acc : Addr) (H' : Hp) (s' : Shared) (m : Str → Option Value), Inv X pins σ H' s' → s'.heap.Ns C m → FpOk X pins H' C → Q (.ref acc) H' → compPost (model X.prog X.w) X.A X.xe use Qf (.ref acc) C (.ok .next) s')
  (hs : ∀ x, foldedSetIterable iter X.env x = pure x := by intro _; rfl) :
  wpAny (model X.prog X.w) X.A (comprehension (.ListComp elt [⟨tg, iter, [ce], 0⟩] scope pos) scope X.env (firstIterPos [⟨tg, iter, [ce], 0⟩] pos) (newList []) false (eval iter X.env) use) Qf X.xe s := by
 have hclos : closureFor scope X.env = pure (clOf scope.names X.env.cells []) := closureFor_eq fun y hy hf => I.ok.has y.1 (O.free y hy hf).2
 refine wpAny_comprehension_free (use := use) rfl hs hclos O.kind O.names (thn (hi pins s σ H _ I h) fun xv s1 h1 => thn h1 fun itv s2 h2 => ?_)
 obtain ⟨it, fp, tn, J, H2, rfl, I2, T, st2, f2, hW⟩ := h2
 refine wpAny_newObj_type (newEnv_comp fun h₁ hns₁ hk₁ hce₁ => ?_)
 have hfp2 : ∀ b ∈ fp, b < s2.heap.objs.size := fun b hb => by
  obtain ⟨o, e, _⟩ := T.obj 0 _ st2 b hb
  exact Heap.lt_size e
 have hpn : H2 s2.heap.objs.size = none := I2.hok.fresh (Nat.le_refl _)
 have I3 : Inv X pins σ H2 { s2 with heap := s2.heap.push { cls := .type "list", data := .seq ([] : List Value).toArray } } := I2.kept (t' := s2.toks) fun b o e => Heap.get?_push_of_some _ e
 have facc : FpOk X pins H2 s2.heap.objs.size := I2.fpOk (Nat.le_refl _) hpn
 have gacc : (s2.heap.push { cls := .type "list", data := .seq ([] : List Value).toArray }).get? s2.heap.objs.size = some { cls := .type "list", data := .seq ([] : List Value).toArray } := Heap.get?_push_size _ rfl
 obtain ⟨W, ⟨n0, w0⟩, turn⟩ := hW
 generalize hs3 : ({ s2 with heap := s2.heap.push { cls := .type "list", data := .seq ([] : List Value).toArray } } : Shared) = s3 at I3
 have hh3 : s3.heap = s2.heap.push { cls := .type "list", data := .seq ([] : List Value).toArray } := by rw [← hs3]
 rw [← hh3] at gacc
 have z3 : s3.heap.objs.size = s2.heap.objs.size + 1 := by rw [hh3, Heap.size_push]
 generalize hacc : s2.heap.objs.size = acc at *
 have f3 : ∀ b ∈ acc :: fp, FpOk X pins H2 b := fun b hb => by
  rcases List.mem_cons.mp hb with e | hb
  ·rw [e]; exact facc
  ·exact f2 b hb
 have hfp3 : ∀ b ∈ acc :: fp, b < s3.heap.objs.size := fun b hb => by
  rw [z3]
  rcases List.mem_cons.mp hb with e | hb
  ·rw [e]; exact Nat.lt_succ_self _
  ·exact Nat.lt_succ_of_lt (hfp2 b hb)
 have hk4 : ∀ b o, s3.heap.get? b = some o → h₁.get? b = some o := fun b o e => hk₁ b o (by rw [hh3] at e; exact e)
 have hCe : (s2.heap.push { cls := .type "list", dict := none, data := .seq ([] : List Value).toArray }).objs.size = s3.heap.objs.size := by rw [hh3]
 generalize hC : (s2.heap.push { cls := .type "list", dict := none, data := .seq ([] : List Value).toArray }).objs.size = C at *
 have st3 : tn 0 h₁ := T.keep 0 _ _ st2 fun b hb o e => hk4 b o (by rw [hh3]; exact Heap.get?_push_of_some _ e)
 have okx := comp_ok (fp := acc :: fp) O I3 (show s3.heap.objs.size ≤ C by rw [hCe]; exact Nat.le_refl _) f3 hfp3
 have pinOk : ∀ {H' : Hp} {its : List Value} {kk : Nat} {h' : Heap}, H' acc = none → h'.get? acc = some { cls := .type "list", data := .seq its.toArray kk } → ∀ p ∈ [(acc, ({ cls := .type "list", data := .seq its.toArray kk } : Obj))], h'.get? p.1 = some p.2 ∧ H' p.1 = none ∧ p.1 ≠ (compCx X N' scope C s3 H2 (acc :: fp) (X.pn ++ pins)).env.locals ∧ p.1 ∉ (compCx X N' scope C s3 H2 (acc :: fp) (X.pn ++ pins)).fs ∧ ∀ v, p.2.data ≠ .cell v := fun {H' its kk h'} hn e p hp => by
  have z : p = (acc, ({ cls := .type "list", data := .seq its.toArray kk } : Obj)) := by simpa using hp
  subst z
  exact ⟨e, hn, (okx.exf acc (.head _)).1, okx.exfs acc (.head _), fun v q => by cases q⟩
 have I4 : Inv (compCx X N' scope C s3 H2 (acc :: fp) (X.pn ++ pins)) [] (σ ++ List.replicate k none) H2 { s3 with heap := h₁ } :=
  inv_comp O I3 (by rw [hCe]; exact Nat.le_refl _) f3 hfp3 ⟨h₁, _, rfl⟩ hk4 hns₁ hce₁ hlen
 have I4' : Inv (compCx X N' scope C s3 H2 (acc :: fp) (X.pn ++ pins)) [(acc, { cls := .type "list", data := .seq ([] : List Value).toArray 0 })] (σ ++ List.replicate k none) H2 { s3 with heap := h₁ } :=
  I4.pins_of (pinOk facc.1 (hk4 _ _ gacc))
 have loop : codeAny (model X.prog X.w) X.A (.compLoop (.ListComp elt [⟨tg, iter, [ce], 0⟩] scope pos) 0 (.ref it) (.ref acc) (compEnvC scope (cellsC scope C X.env.cells) C X.env)) (compPost (model X.prog X.w) X.A X.xe use Qf (.ref acc) C) { s3 with heap := h₁ } := by
  have fpx : ∀ {H' : Hp} {ob : Obj}, (∀ b ∈ fp, H' b = none) → ∀ b ∈ fp, FpOk (compCx X N' scope C s3 H2 (acc :: fp) (X.pn ++ pins)) [(acc, ob)] H' b := fun {H' ob} hn b hb => by
   have hb' : b ∈ acc :: fp := .tail _ hb
   refine ⟨hn b hb, (okx.exf b hb').1, okx.exfs b hb', .inl hb', fun x c h => (okx.exf b hb').2 x c h, fun p hp => ?_⟩
   have hp' : p ∈ (X.pn ++ pins) ++ [(acc, ob)] := hp
   rcases List.mem_append.mp hp' with z | z
   ·exact (f3 b hb').2.2.2.2.2 p z
   ·have e : p = (acc, ob) := by simpa using z
    rw [e]
    exact Nat.ne_of_gt (hfp2 b hb)
  refine compLoop_anyI (fun n s' => ∃ i vs its kk σ' H', Inv (compCx X N' scope C s3 H2 (acc :: fp) (X.pn ++ pins)) [(acc, { cls := .type "list", data := .seq its.toArray kk })] σ' H' s' ∧ Vals vs its ∧ vs.length ≤ sizeLine ∧ tn i s'.heap ∧ (∀ b ∈ fp, H' b = none) ∧ W i n vs σ' H') ?_ n0 ⟨0, [], [], 0, _, _, I4', .nil, Nat.zero_le _, st3, fun b hb => (f2 b hb).1, w0⟩
  rintro n s5 ⟨i, vs, its, kk, σ5, H5, I5, rv, hz, st5, fr5, w5⟩
  rcases turn i n vs σ5 H5 w5 with ⟨stop, qn⟩ | ⟨go, hlt, step⟩
  ·refine thn (T.done (compCx X N' scope C s3 H2 (acc :: fp) (X.pn ++ pins)) rfl rfl rfl hcal i _ s5 σ5 H5 _ I5 (fpx fr5) st5 stop) fun r s6 ⟨hr, I6⟩ => ?_
   subst hr
   have back : Inv X pins σ H5 s6 := by
    have e : s6.os = s3.os := I6.os
    refine I3.call' e (ch := acc :: fp) I6.base I6.hok I6.bare fun b hb => ?_
    obtain ⟨a1, a2, a3, a4, a5, a6⟩ := f3 b hb
    exact ⟨a4, a2, a5, a6⟩
   obtain ⟨m6, hn6, _⟩ := I6.loc
   have hn6' : s6.heap.Ns C m6 := hn6
   obtain ⟨e6, n6, _⟩ := I6.pin (acc, { cls := .type "list", data := .seq its.toArray kk }) (List.mem_append_right _ (.head _))
   have fa : FpOk X pins H5 acc := ⟨n6, facc.2⟩
   have hCa : C ≠ acc := Nat.ne_of_gt (by rw [hCe]; exact hfp3 acc (.head _))
   refine fin C acc _ s6 m6 (Inv.adopt back fa e6 rv hz) hn6' ?_ (qn acc n6)
   exact I3.fpOk (by rw [hCe]; exact Nat.le_refl _) (by rw [zO hCa]; exact I6.free)
  ·refine thn (T.item (compCx X N' scope C s3 H2 (acc :: fp) (X.pn ++ pins)) rfl rfl rfl hcal i _ s5 σ5 H5 _ I5 (fpx fr5) st5 go) fun r s6 ⟨u, hr, h6⟩ => ?_
   subst hr
   refine thn h6 fun _ s7 ⟨x, H7, I7, r7, y7, st7, fr7⟩ => ?_
   have I7' := I7.pinned (fpx fr7) (T.obj _ _ st7)
   refine thn (hg _ _ _ _ _ _ s7 σ5 H7 x u _ I7' r7 (step x H7 y7)) fun _ s8 ⟨σ8, H8, I8, q8⟩ => ?_
   refine thn (hc _ _ _ _ _ _ s8 σ8 H8 _ I8 q8) fun b s8' ⟨H8', I8', q8'⟩ => ?_
   cases b with
   | false =>
    obtain ⟨n', hn', w9⟩ := q8'
    obtain ⟨e9, n9, l9, f9, _⟩ := I8'.pin (acc, { cls := .type "list", data := .seq its.toArray kk }) (List.mem_append_right _ (List.mem_append_left _ (.head _)))
    have I9' := I8'.pins_of (pins' := pinsAt fp s7.heap) fun p hp => I8'.pin p (List.mem_append_right _ (List.mem_append_right _ hp))
    refine ⟨n', hn', i + 1, vs, its, _, σ8, H8', I9'.pins_of (pinOk n9 e9), rv, hz, T.keep _ _ _ st7 fun b hb o eo => (I9'.pin (b, o) (List.mem_append_right _ (mem_pinsAt hb eo))).1, fun b hb => ?_, w9⟩
    obtain ⟨o, eo, d⟩ := T.obj _ _ st7 b hb
    exact (I9'.pin (b, o) (List.mem_append_right _ (mem_pinsAt hb eo))).2.1
   | true =>
   refine thn (he _ _ _ _ _ _ s8' σ8 H8' _ I8' q8') fun xv s9 ⟨v, H9, I9, r9, q9⟩ => ?_
   obtain ⟨n', hn', w9⟩ := q9
   obtain ⟨e9, n9, l9, f9, _⟩ := I9.pin (acc, { cls := .type "list", data := .seq its.toArray kk }) (List.mem_append_right _ (List.mem_append_left _ (.head _)))
   have hlen9 := rv.length
   refine call_meets F.slot_list_append ⟨_, e9, rfl⟩ F.entry_list_append (F.args_list_append_2 _ _) (PySem.list_append acc its.toArray kk xv (by rw [List.size_toArray]; omega)) ⟨e9, ?_⟩
   have q10 := PySem.IsL.update e9 (fun xs => xs.push xv)
   have ea : (its.toArray.push xv) = (its ++ [xv]).toArray := by simp
   rw [ea] at q10
   have I9' := I9.pins_of (pins' := pinsAt fp s7.heap) fun p hp => I9.pin p (List.mem_append_right _ (List.mem_append_right _ hp))
   have I10 : Inv (compCx X N' scope C s3 H2 (acc :: fp) (X.pn ++ pins)) (pinsAt fp s7.heap) σ8 H9 { s9 with heap := s9.heap.update acc (Obj.mapSeq fun xs => xs.push xv) } :=
    I9'.turned (t' := s9.toks) (it := acc) (fun b o hb e => (Heap.get?_update_other s9.heap _ (Ne.symm hb)).trans e) n9 (okx.exf acc (.head _)).1 (.inl (.head _)) (fun x c h => (okx.exf acc (.head _)).2 x c h) fun p hp => by
     have hp' : p ∈ (X.pn ++ pins) ++ pinsAt fp s7.heap := hp
     rcases List.mem_append.mp hp' with z | z
     ·exact facc.2.2.2.2.2 p z
     ·exact Nat.ne_of_lt (hfp2 p.1 (of_pinsAt z).1)
   refine ⟨n', hn', i + 1, vs ++ [v], its ++ [xv], _, σ8, H9, I10.pins_of (pinOk n9 q10), rv.append (.cons r9 .nil), by rw [List.length_append, List.length_singleton]; omega, T.keep _ _ _ st7 fun b hb o eo => (I10.pin (b, o) (List.mem_append_right _ (mem_pinsAt hb eo))).1, fun b hb => ?_, w9⟩
   obtain ⟨o, eo, d⟩ := T.obj _ _ st7 b hb
   exact (I10.pin (b, o) (List.mem_append_right _ (mem_pinsAt hb eo))).2.1
 have whole := codeAny_compStart_list loop (T.self _ 0 _ _ _ st3 loop)
 subst hCe
 exact whole
end
section
variable {X : Cx} {N' : List Str} {scope : Scope}
theorem ps_setCompI {elt iter tg ce : Expr} {pos spos py : Pos} {y : Str} {j : Nat} {wi : TI} {g : TG} {tt : TT} {te : TE} (k : Nat) (O : CompOk X.N X.env.scope N' scope) (hcal : X.calm = true) (hi : PI X tg iter wi)
  (hg : ∀ C s₃ H₃ ex pn, PG (compCx X N' scope C s₃ H₃ ex pn) tg g) (hc : ∀ C s₃ H₃ ex pn, PT (compCx X N' scope C s₃ H₃ ex pn) ce tt) (he : ∀ C s₃ H₃ ex pn, PE (compCx X N' scope C s₃ H₃ ex pn) elt te)
  (hN : X.N.Nodup) (hj : X.N[j]? = some y) (hy : X.env.scope.names.lookup y = some .local) (hsw : swapsWith (.ListComp elt [⟨tg, iter, [ce], 0⟩] scope pos) (some (.Name y py)) spos.line X.env = pure true)
  (hlen : X.N.length + k = N'.length := by rfl) (hs : ∀ x, foldedSetIterable iter X.env x = pure x := by intro _; rfl) : PS X (.Assign [.Name y py] (.ListComp elt [⟨tg, iter, [ce], 0⟩] scope pos) spos) (tAsg (tCompI wi g tt te k) (gName j)) := by
 intro pins s σ H D I h
 rw [exec_Assign_Name_used _ _ _ _ hsw]
 refine wpAny_bind (wpAny_standAt (wpAny_bind ?_))
 show wpAny _ X.A (do let _ ← comprehension (.ListComp elt [⟨tg, iter, [ce], 0⟩] scope pos) scope X.env _ (newList []) false (eval iter X.env) (some (assign (.Name y py) X.env))) _ _ s
 refine wpAny_bind (wpAny_mono (comp_runI (use := some (assign (.Name y py) X.env)) (Qf := fun _ s' => SP X pins D .next s') O hlen hcal hi hg hc he I h (fun C acc H' s' m J hn f q => ?_) hs) (fun _ s' hq => wpAny_pure (wpAny_pure hq)) fun _ _ e => e)
 show wpAny _ X.A (assign (.Name y py) X.env (.ref acc)) _ _ _
 refine wpAny_assign_Name ?_
 refine store_ok2 J hN hj (.inl hy) (v := .ref acc) rfl (fun s2 J2 ⟨a, hsb, ha⟩ => ?_) (.inr hy)
 have haC : C ≠ a := by
  rcases ha with z | z
  ·rw [z]; exact f.2.1
  ·exact fun e => f.2.2.2.2.1 _ _ z e.symm
 exact ⟨m, hn.sameBut hsb haC, fun h' hs' => ⟨σ.set j (some (.ref acc)), H', J2.turned (t' := s2.toks) (fun b o hb e => (hs'.2 b hb).trans e) f.1 f.2.1 f.2.2.2.1 f.2.2.2.2.1 f.2.2.2.2.2, q⟩⟩
end
theorem compID_cases {src : Src} {g : DG} {t : DT} {e : DE} {n i : Nat} {δ : DS} {S : Sto} {r : Rs (List D)} (h : compID src g t e n i δ S = some r) :
  (src.get S i = some none ∧ r = .ok [] S) ∨ ∃ x m, n = m + 1 ∧ src.get S i = some (some x) ∧ bnd (g x δ S) (compIK t e (compID src g t e m (i + 1))) = some r := by
 cases n with
 | zero =>
  unfold compID at h
  split at h
  ·rename_i e
   exact .inl ⟨e, (Option.some.inj h).symm⟩
  ·cases h
 | succ n =>
  unfold compID at h
  split at h
  ·rename_i e
   exact .inl ⟨e, (Option.some.inj h).symm⟩
  ·rename_i x e
   exact .inr ⟨x, n, rfl, e, h⟩
  ·cases h
section
variable {X : Cx} {E : XK} {N' : List Str} {scope : Scope}
theorem tF_compI {gi : DI} {k : Nat} {g : DG} {gc : DT} {ge : DE} : ∀ σ H Q, tF (gx X) E (compI gi k g gc ge) σ H Q → tCompI (tFI (gx X) E gi) (tFG (gx X) E0 g) (tFT (gx X) E0 gc) (tF (gx X) E0 ge) k σ H Q := by
 intro σ H Q ⟨W, δ, rr, hS, hδ, hg, hA⟩
 refine Go.thn hS hδ hg hA fun src H1 W1 s1 hδ1 hg1 hA1 J hJ => ?_
 have q' : (if src.len W1.S ≤ 1000000 then bnd (noer (compID src g gc ge (src.len W1.S) 0 (δ ++ List.replicate k none) W1.S)) lstK else none) = some rr := hg1
 split at q'
 ·rename_i hsz
  rcases bnd_some q' with ⟨ds, S2, e2, q2⟩ | ⟨c, S2, e2, _⟩
  ·obtain ⟨ds', S2', e3, e4⟩ := noer_some e2
   cases e4
   refine ⟨fun i n vs σ2 H2 => i + n = src.len W1.S ∧ ∃ W2 δ2 ds1 ds2, Nxt (gx X) H1 W1 H2 W2 ∧ RepS (gx X) H2 W2 δ2 σ2 ∧ ds = ds1 ++ ds2 ∧ ds1.length ≤ i ∧ RepL (gx X) H2 W2 ds1 vs ∧ compID src g gc ge n i δ2 W2.S = ok ds2 S2,
    ⟨src.len W1.S, by simp, W1, _, [], ds, .rfl s1.ok, hδ1.more k, rfl, Nat.le_refl _, rfl, e3⟩, ?_⟩
   rintro i n vs σ2 H2 ⟨hn, W2, δ2, ds1, ds2, s2, hδ2, hds, hl1, rl, hc⟩
   obtain ⟨w1, w2⟩ := hJ i H2 W2 s2
   rcases compID_cases hc with ⟨hend, hr⟩ | ⟨x, m, rfl, hx, hb⟩
   ·refine .inl ⟨w1 hend, fun p hp => ?_⟩
    cases hr
    rw [List.append_nil] at hds
    subst hds
    exact new_lst s2.ok q2 (hA1.nxt s2) rl hp
   ·obtain ⟨wg, wy⟩ := w2 x hx
    refine .inr ⟨wg, ?_, fun v H3 y => ?_⟩
    ·rw [← rl.length]
     exact Nat.lt_of_lt_of_le (by omega) (sz hsz)
    ·obtain ⟨W3, e3', s3, rx⟩ := wy v H3 y
     rcases bnd_some hb with ⟨δ4, S4, e4, q4⟩ | ⟨c, S4, _, q4⟩
     ·refine ⟨W3, δ2, x, .ok δ4 S4, s3.ok, hδ2.mv (s3.mv s2.ok), rx, by rw [e3']; exact e4, fun H4 W4 eS4 s4 σ4 hδ4 => ?_⟩
      rcases bnd_some (show bnd (gc δ4 S4) (compIB ge (compID src g gc ge m (i + 1)) δ4) = some (Rs.ok ds2 S2) from q4) with ⟨b, S5, e5, q5⟩ | ⟨c, S5, _, q5⟩
      ·refine ⟨W4, δ4, .ok b S5, s4.ok, hδ4, by rw [eS4]; exact e5, fun H5 W5 eS5 s5 => ?_⟩
       cases b with
       | false =>
        refine ⟨m, Nat.lt_succ_self m, by omega, W5, δ4, ds1, ds2, ((s2.trans s3).trans s4).trans s5, hδ4.mv (s5.mv s4.ok), hds, by omega, rl.mv (((s3.trans s4).trans s5).mv s2.ok), by rw [eS5]; exact q5⟩
       | true =>
        rcases bnd_some (show bnd (ge δ4 S5) (compK2 (compID src g gc ge m (i + 1)) δ4) = some (Rs.ok ds2 S2) from q5) with ⟨d, S6, e6, q6⟩ | ⟨c, S6, _, q6⟩
        ·refine ⟨W5, δ4, .ok d S6, s5.ok, hδ4.mv (s5.mv s4.ok), by rw [eS5]; exact e6, fun H6 W6 eS6 s6 v' rv => ?_⟩
         rcases bnd_some (show bnd (compID src g gc ge m (i + 1) δ4 S6) (consK d) = some (Rs.ok ds2 S2) from q6) with ⟨ds3, S7, e7, q7⟩ | ⟨c, S7, _, q7⟩
         ·have q7' : Rs.ok (d :: ds3) S7 = Rs.ok ds2 S2 := Option.some.inj q7
          cases q7'
          refine ⟨m, Nat.lt_succ_self m, by omega, W6, δ4, ds1 ++ [d], ds3, (((s2.trans s3).trans s4).trans s5).trans s6, (hδ4.mv (s5.mv s4.ok)).mv (s6.mv s5.ok), by rw [hds]; simp, by simp; omega, ?_, by rw [eS6]; exact e7⟩
          exact (rl.mv ((((s3.trans s4).trans s5).trans s6).mv s2.ok)).append (RepL.one rv)
         ·cases q7
        ·cases q6
      ·cases q5
     ·cases q4
  ·obtain ⟨_, _, _, z⟩ := noer_some e2
   cases z
 ·cases q'
theorem pd_setCompI (j : Nat) {elt iter tg ce : Expr} {pos spos py : Pos} {y : Str} {gi : DI} {g : DG} {gc : DT} {ge : DE} (k : Nat) (O : CompOk X.N X.env.scope N' scope) (hcal : X.calm = true) (hi : PDI X E tg iter gi)
  (hg : ∀ C s₃ H₃ ex pn, PDG (compCx X N' scope C s₃ H₃ ex pn) E0 tg g) (hc : ∀ C s₃ H₃ ex pn, PDT (compCx X N' scope C s₃ H₃ ex pn) E0 ce gc) (he : ∀ C s₃ H₃ ex pn, PDE (compCx X N' scope C s₃ H₃ ex pn) E0 elt ge)
  (hN : X.N.Nodup) (hj : X.N[j]? = some y := by rfl) (hy : X.env.scope.names.lookup y = some .local := by rfl) (hsw : swapsWith (.ListComp elt [⟨tg, iter, [ce], 0⟩] scope pos) (some (.Name y py)) spos.line X.env = pure true := by rfl)
  (hlen : X.N.length + k = N'.length := by rfl) (hs : ∀ x, foldedSetIterable iter X.env x = pure x := by intro _; rfl) : PDS X E (.Assign [.Name y py] (.ListComp elt [⟨tg, iter, [ce], 0⟩] scope pos) spos) (setS j (compI gi k g gc ge)) := by
 try unfold PDE at *
 try unfold PDT at *
 try unfold PDS at *
 try unfold PDG at *
 try unfold PDI at *
 refine PS.imp (ps_setCompI (g := tFG (gx X) E0 g) (tt := tFT (gx X) E0 gc) (te := tF (gx X) E0 ge) k O hcal hi hg hc he hN hj hy hsw hlen hs) fun D σ H ⟨W, δ, rr, hS, hδ, hg', hA⟩ => ?_
 refine tF_compI σ H _ (Go.thn hS hδ hg' hA fun d H1 W1 s1 hδ1 hg1 hA1 v rv => ?_)
 obtain rfl : Rs.ok (Fl.nx (δ.set j (some d))) W1.S = rr := Option.some.inj hg1
 exact hA1.now s1.ok _ (hδ1.set j rv)
end
end Np
end
section
namespace Np
open PySem PySem.Spec PyProof.Rows L2
section
variable {prog : Program} {w : World} {A : Around} {E : Value → Shared → Prop}
end
section
variable {X : Cx} {E : XK}
end
end Np
end
section
namespace Np
open PySem PySem.Spec PyProof.Rows L2
mutual
theorem eqT_comm : ∀ (d e : T), eqT d e = eqT e d
 | .non, e => by cases e <;> simp [eqT]
 | .bl a, e => by cases e <;> simp only [eqT] <;> exact BEq.comm
 | .int a, e => by cases e <;> simp only [eqT] <;> exact BEq.comm
 | .str a, e => by cases e <;> simp only [eqT] <;> exact BEq.comm
 | .tup ds, e => by
  cases e with
  | tup es => simp only [eqT]; exact eqTs_comm ds es
  | _ => simp [eqT]
 | .lst ds, e => by
  cases e with
  | lst es => simp only [eqT]; exact eqTs_comm ds es
  | _ => simp [eqT]
theorem eqTs_comm : ∀ (ds es : List T), eqTs ds es = eqTs es ds
 | [], es => by cases es <;> simp [eqTs]
 | d :: ds, es => by
  cases es with
  | nil => simp [eqTs]
  | cons e es => simp only [eqTs]; rw [eqT_comm d e, eqTs_comm ds es]
end
theorem memT_py (t : T) : ∀ ts : List T, ((toPys ts).any fun y => PyData.eqv y (toPy t)) = memT t ts
 | [] => rfl
 | u :: us => by simp only [toPys, List.any_cons, memT, memT_py t us, eqT_py, eqT_comm u t]
section
variable {X : Cx} {G : Gx}
def rInD (G : Gx) (neg : Bool) : R2 := fun x y H Q => ∃ W d a ys t ts, StOk G H W ∧ Rep G H W d x ∧ Rep G H W (.ref a) y ∧ zH W.S a = some ys ∧ rd 8 W.S d = some t ∧ rdl (rd 8 W.S) ys = some ts ∧ Q (.bl (if neg = true then !memT t ts else memT t ts)) H
theorem in_seen {pins : List (Addr × Obj)} {s : Shared} {σ : L2.St} {H : Hp} {W : Wd} {a : Nat} {ys : List D} {ts : List T} {y : V} {u : Value} (I : Inv X pins σ H s) (hS : StOk (gx X) H W) (r : Rep (gx X) H W (.ref a) y) (q : RelV y u) (hl : zH W.S a = some ys) (h : rdl (rd 8 W.S) ys = some ts) : Seen s 9 (.lst ts) u :=
 seen I hS (n := 9) (d := .ref a) (by simp only [rd, hl, h]; rfl) r q
theorem op_notinX {k : Nat} (hr : Room k X.A) : OpR X (compareOp .NotIn) (rInD (gx X) true) := by
 intro pins s σ H x y v u Q I rx ry h
 obtain ⟨W, d, a, ys, t, ts, hS, rd1, re, hl, pd, pe, q⟩ := h
 have sa := seen I hS pd rd1 rx
 obtain ⟨c1, c2, bs, rb⟩ := in_seen I hS re ry hl pe
 obtain ⟨as, ra⟩ := sa.2.2
 have c1' : PyData.canLayAll0 (toPys ts) = true := by simpa only [toPy, PyData.canLay0] using c1
 refine SeqAt.notIn_list_reads (xs := toPys ts) rb ra c1' sa.1 ?_ ?_
 ·have := hr.units
  have := sa.2.1
  omega
 ·rw [memT_py]
  exact ⟨.bl _, H, I, rfl, q⟩
theorem od_inK (neg : Bool) : OpD G (rInD G neg) (inA neg) := by
 intro E H W x y dx dy Q rr hS rx ry e hA
 cases dy with
 | ref a =>
  simp only [inA] at e
  split at e
  ·rename_i ys hl
   split at e
   ·rename_i t ts h1 h2
    obtain rfl := Option.some.inj e
    exact ⟨W, dx, a, ys, t, ts, hS, rx, ry, hl, h1, h2, hA.now hS _ rfl⟩
   ·cases e
  ·cases e
 | _ => cases e
theorem od_notin : OpD G (rInD G true) notinD := od_inK true
end
end Np
end
section
namespace Np
open PySem
section
variable {prog : Program} {w : World} {A : Around} {s : Shared} {R : Result → Shared → Prop}
variable {I : Addr} {fp wr : List Addr} {G : Array GenState → Array GenState → Prop} {n : Nat} {P : Nat → Value → Prop} {St : Nat → Shared → Prop}
end
section
variable {prog : Program} {w : World} {A : Around} {E : Value → Shared → Prop} {s : Shared}
variable {I : Addr} {fp wr : List Addr} {G : Array GenState → Array GenState → Prop} {n : Nat} {P : Nat → Value → Prop} {St : Nat → Shared → Prop}
end
end Np
namespace Np
open PySem PySem.Spec PyProof.Rows L2
section
variable {X : Cx} {E : XK}
end
end Np
end
section
namespace Np
open PySem PySem.Spec PyProof.Rows L2
theorem ObjOk.at' {P : Program} {w : World} {H : Hp} {h : Heap} {a : Addr} {o : HO} (x : ObjOk P w H h a o) : ∃ ob, h.get? a = some ob := by
 cases o with
 | lst xs => obtain ⟨_, _, _, _, e⟩ := x; exact ⟨_, e⟩
 | tup xs => obtain ⟨_, _, _, o, e, _⟩ := x; exact ⟨_, e⟩
 | dK kvs => obtain ⟨_, _, _, _, o, _, _, e, _⟩ := x; exact ⟨_, e⟩
 | dT kvs => obtain ⟨_, _, _, _, o, _, _, e, _⟩ := x; exact ⟨_, e⟩
 | set S n => obtain ⟨o, _, _, _, e, _⟩ := x; exact ⟨_, e⟩
 | ins C dx fs => obtain ⟨_, _, _, e, _⟩ := x; exact ⟨_, e⟩
 | own y => obtain ⟨_, e⟩ := x; exact ⟨_, e⟩
 | xd fs => obtain ⟨_, ⟨_, _, _, e, _⟩, _⟩ := x; exact ⟨_, e⟩
 | rng lo hi => obtain ⟨_, _, _, e⟩ := x; exact ⟨_, e⟩
 | frz ob u => obtain ⟨e, _⟩ := x; exact ⟨_, e⟩
 | tbl ps => exact ⟨_, (show h.get? a = some _ from x)⟩
 | met f y => exact ⟨_, (show h.get? a = some _ from x)⟩
 | ext φ => obtain ⟨_, ⟨_, e⟩, _⟩ := x; exact ⟨_, e⟩
structure Fly (P : Program) (w : World) (l : List Env) (H H' : Hp) (s : Shared) (ea : Addr) (B h : Heap) : Prop where
 un : Un (frs l) [] H H' s.heap h
 hok : HOk P w H' h
 newe : s.heap.get? ea = none
 free : H' ea = none
 frf : ∀ b ∈ frs l, H' b = none
 ff : h.FunFrames B l
 keep : ∀ b o, h.get? b = some o → ((∃ o0, s.heap.get? b = some o0) ∨ H' b ≠ none) → b ∉ frs l → B.get? b = some o
 st : B.StaysIn h
def CX1 (P : Program) (w : World) : CXT := fun outer H s E e s' => ∃ (ea C : Addr) (H' : Hp) (B : Heap) (a0 : Value), e = .ref ea ∧ s'.os = s.os ∧ AllBare s'.gens ∧ Fly P w outer H H' s ea B s'.heap ∧ Heap.FlyingW B outer ea (.ref C) a0 s'.heap ∧ E (.ref C) none H'
section
variable {P : Program} {w : World} {K : PySem.W.Frag} {mg : Str → Option Value} {base : Heap} {N : List Str} {qual : Str} {scope : Scope} {f : Addr} {cd : Value} {A : Around} {outer : List Env} {s : Shared} {H : Hp} {E : XK}
end
section
variable {X : Cx} {E : XK}
end
end Np
end
section
namespace Np
open PySem PySem.Spec PyProof.Rows L2
def markCx (X : Cx) (ea : Addr) : Cx := { X with A := X.A.mark (some (.ref ea)), calm := false, xe := fun _ _ => False }
section
variable {X : Cx} {pins : List (Addr × Obj)} {σ : L2.St} {H : Hp} {s : Shared} {ea : Addr}
theorem Inv.mark (I : Inv X pins σ H s) (ea : Addr) : Inv (markCx X ea) pins σ H s :=
 ⟨⟨I.ok.mod, I.ok.kind, I.ok.glob, I.ok.blt, I.ok.above, I.ok.inj, I.ok.has, I.ok.cab, fun h => (by cases h), I.ok.frames, I.ok.stk, I.ok.exf, I.ok.bs, I.ok.bsz, I.ok.noex, I.ok.exfs, I.ok.funs, I.ok.frf⟩, I.os, I.bare, I.base, I.loc, I.cell, I.free, I.freeC, I.pin, I.hok, I.len⟩
end
section
variable {X : Cx}
end
section
variable {X : Cx} {E : XK}
end
end Np
end
section
namespace Np
open PySem PySem.Spec PyProof.Rows L2
def excGet (K : PySem.W.Frag) (C : Addr) : Bool := (PySem.W.clsIn K C).isSome && PySem.W.findIn K (.ref C) "__getattribute__" == some (some (.builtin "BaseException.__getattribute__")) && PySem.W.findIn K (.ref C) "__getattr__" == some none && PySem.W.findIn K (.ref C) "__class__" == some (some (.builtin "object.__class__"))
 && PySem.W.subIn K (.ref C) (.type "BaseException") == some true && PySem.W.subIn K (.ref C) (.type "object") == some true
structure ExcGet (K : PySem.W.Frag) (C : Addr) : Prop where
 cls : (PySem.W.clsIn K C).isSome = true
 ga : PySem.W.findIn K (.ref C) "__getattribute__" = some (some (.builtin "BaseException.__getattribute__"))
 nga : PySem.W.findIn K (.ref C) "__getattr__" = some none
 cl : PySem.W.findIn K (.ref C) "__class__" = some (some (.builtin "object.__class__"))
 be : PySem.W.subIn K (.ref C) (.type "BaseException") = some true
 ob : PySem.W.subIn K (.ref C) (.type "object") = some true
section
variable {prog : Program} {w : World} {A : Around} {E : Value → Shared → Prop} {h : Heap} {g : Array GenState} {d : Drawn} {t : Nat} {os : OsState} {a C : Addr} {o : Obj} {K : PySem.W.Frag}
end
section
variable {X : Cx} {E : XK}
end
end Np
end
section
namespace Np
open PySem PySem.Spec PyProof.Rows L2
section
variable {M : Model} {K : PySem.W.Frag} {A : Around} {E : Value → Shared → Prop}
end
section
variable {X : Cx}
end
end Np
end
section
namespace Np
open PySem PySem.Spec PyProof.Rows L2
section
variable {X : Cx} {E : XK}
end
end Np
end
section
namespace Np
open PySem PySem.Spec PyProof.Rows L2
theorem lookup_rep {G : Gx} {H : Hp} {W : Wd} {f : Str} {d : D} : ∀ {fs : List (Str × D)} {ps : List (Str × V)}, ps.map (·.1) = fs.map (·.1) → RepL G H W (fs.map (·.2)) (ps.map (·.2)) → fs.lookup f = some d → ∃ v, ps.lookup f = some v ∧ Rep G H W d v
 | [], _, _, _, h => by cases h
 | (g, x) :: fs, ps, e, r, h => by
  cases ps with
  | nil => cases e
  | cons p ps =>
   obtain ⟨k, v⟩ := p
   obtain ⟨e1, e2⟩ := List.cons.inj e
   have e1 : k = g := e1
   subst e1
   obtain ⟨v', r', ev, r1, r2⟩ := r
   obtain ⟨rfl, rfl⟩ := List.cons.inj ev
   rw [List.lookup_cons] at h ⊢
   split at h
   ·rename_i hb
    cases h
    exact ⟨v, rfl, r1⟩
   ·exact lookup_rep e2 r2 h
theorem lookup_none {f : Str} : ∀ {fs : List (Str × D)} {ps : List (Str × V)}, ps.map (·.1) = fs.map (·.1) → fs.lookup f = none → ps.lookup f = none
 | [], ps, e, _ => by
  cases ps with
  | nil => rfl
  | cons p ps => cases e
 | (g, x) :: fs, ps, e, h => by
  cases ps with
  | nil => cases e
  | cons p ps =>
   obtain ⟨k, v⟩ := p
   obtain ⟨e1, e2⟩ := List.cons.inj e
   have e1 : k = g := e1
   subst e1
   rw [List.lookup_cons] at h ⊢
   split at h
   ·cases h
   ·exact lookup_none e2 h
theorem put_rep {G : Gx} {H : Hp} {W : Wd} {f : Str} {d : D} {v : V} (q : Rep G H W d v) : ∀ {fs : List (Str × D)} {ps : List (Str × V)}, ps.map (·.1) = fs.map (·.1) → RepL G H W (fs.map (·.2)) (ps.map (·.2)) → (putF f v ps).map (·.1) = (putD f d fs).map (·.1) ∧ RepL G H W ((putD f d fs).map (·.2)) ((putF f v ps).map (·.2))
 | [], ps, e, _ => by
  cases ps with
  | nil => exact ⟨rfl, ⟨v, [], rfl, q, rfl⟩⟩
  | cons p ps => cases e
 | (g, x) :: fs, ps, e, r => by
  cases ps with
  | nil => cases e
  | cons p ps =>
   obtain ⟨k, y⟩ := p
   obtain ⟨e1, e2⟩ := List.cons.inj e
   have e1 : k = g := e1
   subst e1
   obtain ⟨v', r', ev, r1, r2⟩ := r
   obtain ⟨rfl, rfl⟩ := List.cons.inj ev
   rw [show putF f v ((k, y) :: ps) = (if k = f then (k, v) :: ps else (k, y) :: putF f v ps) from rfl, show putD f d ((k, x) :: fs) = (if k = f then (k, d) :: fs else (k, x) :: putD f d fs) from rfl]
   by_cases hk : k = f
   ·rw [if_pos hk, if_pos hk]
    exact ⟨congrArg (k :: ·) e2, ⟨v, _, rfl, q, r2⟩⟩
   ·rw [if_neg hk, if_neg hk]
    obtain ⟨i1, i2⟩ := put_rep q e2 r2
    exact ⟨congrArg (k :: ·) i1, ⟨y, _, rfl, r1, i2⟩⟩
section
variable {X : Cx} {E : XK} {c f m : Str} {C : Addr} {e o : Expr} {ge go : DE} {pos pos' : Pos}
theorem StOk.inst {H : Hp} {W : Wd} {a : Nat} {fs : List (Str × D)} (h : StOk (gx X) H W) (hm : X.mg c = some (.ref C)) (e : insAt W.S a = some (c, fs)) : ∃ dx ps, H (W.μ a) = some (.ins C dx ps) ∧ ps.map (·.1) = fs.map (·.1) ∧ RepL (gx X) H W (fs.map (·.2)) (ps.map (·.2)) := by
 obtain ⟨C', dx, ps, m', q, n, r⟩ := h.get a _ (insAt_some e)
 have m' : X.mg c = some (.ref C') := m'
 rw [hm] at m'
 cases m'
 exact ⟨dx, ps, q, n, r⟩
theorem pd_fld (hc : Cls X.K C) (hn : NoAttr X.K C f) (hm : X.mg c = some (.ref C)) (he : PDE X E e ge) (hb : attributeBase e f X.env (eval e X.env) = eval e X.env := by rfl) : PDE X E (.Attribute e f pos) (op1 (fldD c f) ge) := by
 try unfold PDE at *
 refine PE.imp (pe_fld he hb) fun σ H Q ⟨W, δ, rr, hS, hδ, hg, hA⟩ => ?_
 refine Go.thn hS hδ hg hA fun d H1 W1 s1 hδ1 hg1 hA1 v rv => ?_
 unfold fldD at hg1
 split at hg1
 ·rename_i a
  split at hg1
  ·rename_i c' fs hi
   split at hg1
   ·rename_i ec
    subst ec
    split at hg1
    ·rename_i d hl
     obtain rfl : Rs.ok d W1.S = rr := Option.some.inj hg1
     obtain ⟨dx, ps, q, n, r⟩ := s1.ok.inst hm hi
     obtain ⟨u, hu, ru⟩ := lookup_rep n r hl
     exact ⟨_, C, dx, ps, u, rv.2, q, hc, hn, hu, hA1.now s1.ok _ ru⟩
    ·cases hg1
   ·cases hg1
  ·cases hg1
 ·cases hg1
theorem pd_setf {value : Expr} {gv : DE} (hc : Cls X.K C) (hn : NoAttr X.K C f) (hm : X.mg c = some (.ref C)) (ho : PDE X E o go) (hv : PDE X E value gv) (hs : swapsWith value (some (.Attribute o f pos')) pos.line X.env = pure false := by rfl) :
  PDS X E (.Assign [.Attribute o f pos'] value pos) (setfS c f go gv) := by
 try unfold PDE at *
 try unfold PDS at *
 refine PS.imp (ps_fld ho hv hs) fun D σ H ⟨W, δ, rr, hS, hδ, hg, hA⟩ => ?_
 refine Go.thn hS hδ hg hA fun d H1 W1 s1 hδ1 hg1 hA1 v rv => ?_
 refine Go.thn s1.ok hδ1 hg1 hA1 fun x H2 W2 s2 hδ2 hg2 hA2 y ry => ?_
 have rv2 := rv.mv (s2.mv s1.ok)
 unfold setfA at hg2
 split at hg2
 ·rename_i a
  split at hg2
  ·rename_i c' fs hi
   split at hg2
   ·rename_i ec
    obtain ⟨ec, hl⟩ := ec
    subst ec
    obtain rfl : Rs.ok (Fl.nx δ) (W2.S.set a (.ins c' (putD f d fs))) = rr := Option.some.inj hg2
    obtain ⟨dx, ps, q, n, r⟩ := s2.ok.inst hm hi
    refine ⟨_, C, dx, ps, ry.2, q, hc, hn, ?_, ?_⟩
    ·have := congrArg List.length n
     simp at this
     omega
    ·have mp := Mv.put (G := gx X) (W := W2) s2.ok ry.1 (.ins C dx (putF f v ps)) (.ins c' (putD f d fs))
     obtain ⟨k1, k2⟩ := put_rep (f := f) rv2 n r
     have nx : Nxt (gx X) H2 W2 (upd H2 (W2.μ a) (.ins C dx (putF f v ps))) (W2.put a (.ins c' (putD f d fs))) := Nxt.write s2.ok ry.1 ⟨C, dx, putF f v ps, hm, zW, k1, k2.mv mp⟩
     exact hA2 _ (W2.put a (.ins c' (putD f d fs))) rfl nx σ (hδ2.mv mp)
   ·cases hg2
  ·cases hg2
 ·cases hg2
theorem pd_meth {CX : CXT} {k : Nat} {fa : Addr} {fd : FuncData} {ps : List Str} {F : List D → Sto → R D} {es : List Expr} {gs : DA} {apos : Pos} {pl : Sem Bool} (hc : Cls X.K C) (hM : Meth X.K C m fa) (hm : X.mg c = some (.ref C)) (O : FnOk X.prog X.w X.K X.mg X.base CX k fa fd ps (spF (gx X) F)) (hr : Room k X.A) (hb : zV X.K fd ps []) (hx : Passes CX X E) (ho : PDE X E o go) (ha : PDA X E (e :: es) gs)
  (hst : starEach (e :: es) X.env = (false, eval e X.env) :: starEach es X.env := by rfl) (hpl : (backTo pos (starEach es X.env)).any (·.1) = false := by rfl)
  (ht : eval (.Call (.Attribute o m apos) (e :: es) [] pos) X.env = (do
   let ov ← eval o X.env
   standAt apos.atName
   let (f, first) ← holding [ov] (getMethod ov m pl)
   callWith pos f first (backTo pos (starEach (e :: es) X.env)) (backToKw pos (keywordEach [] X.env))) := by rfl) : PDE X E (.Call (.Attribute o m apos) (e :: es) [] pos) (methE c m F go gs) := by
 try unfold PDE at *
 try unfold PDA at *
 refine PE.imp (pe_meth ho hc hM O hr hb .nil hx ha hst hpl ht) fun σ H Q ⟨W, δ, rr, hS, hδ, hg, hA⟩ => ?_
 refine Go.thn hS hδ hg hA fun d H1 W1 s1 hδ1 hg1 hA1 v rv => ?_
 unfold methK at hg1
 split at hg1
 ·rename_i a
  split at hg1
  ·rename_i c' fs hi
   split at hg1
   ·rename_i ec
    obtain ⟨ec, hl⟩ := ec
    subst ec
    obtain ⟨dx, qs, q, n, r⟩ := s1.ok.inst hm hi
    refine ⟨_, dx, qs, rv.2, q, lookup_none n hl, ?_⟩
    refine Go.thn s1.ok hδ1 hg1 hA1 fun as H2 W2 s2 hδ2 hg2 hA2 vs rvs => ?_
    rw [rv.2]
    exact ⟨W2, .ref a :: as, rr, s2.ok, by rw [List.append_nil]; exact ⟨_, _, rfl, by rw [← rv.2]; exact rv.mv (s2.mv s1.ok), rvs⟩, hg2, hA2⟩
   ·cases hg1
  ·cases hg1
 ·cases hg1
theorem pd_meth0 {CX : CXT} {k : Nat} {fa : Addr} {fd : FuncData} {ps : List Str} {F : List D → Sto → R D} {apos : Pos} {pl : Sem Bool} (hc : Cls X.K C) (hM : Meth X.K C m fa) (hm : X.mg c = some (.ref C)) (O : FnOk X.prog X.w X.K X.mg X.base CX k fa fd ps (spF (gx X) F)) (hr : Room k X.A) (hb : zV X.K fd ps []) (hx : Passes CX X E) (ho : PDE X E o go)
  (ht : eval (.Call (.Attribute o m apos) [] [] pos) X.env = (do
   let ov ← eval o X.env
   standAt apos.atName
   let (f, first) ← holding [ov] (getMethod ov m pl)
   callWith pos f first (backTo pos (starEach [] X.env)) (backToKw pos (keywordEach [] X.env))) := by rfl) : PDE X E (.Call (.Attribute o m apos) [] [] pos) (methE c m F go aNil) := by
 try unfold PDE at *
 refine PE.imp (pe_meth0 ho hc hM O hr hb .nil hx ht) fun σ H Q ⟨W, δ, rr, hS, hδ, hg, hA⟩ => ?_
 refine Go.thn hS hδ hg hA fun d H1 W1 s1 hδ1 hg1 hA1 v rv => ?_
 unfold methK at hg1
 split at hg1
 ·rename_i a
  split at hg1
  ·rename_i c' fs hi
   split at hg1
   ·rename_i ec
    obtain ⟨ec, hl⟩ := ec
    subst ec
    obtain ⟨dx, qs, q, n, r⟩ := s1.ok.inst hm hi
    refine ⟨_, dx, qs, rv.2, q, lookup_none n hl, ?_⟩
    rw [rv.2]
    exact ⟨W1, [.ref a], rr, s1.ok, ⟨_, _, rfl, by rw [← rv.2]; exact rv, rfl⟩, hg1, hA1⟩
   ·cases hg1
  ·cases hg1
 ·cases hg1
theorem pd_make {CX : CXT} {k : Nat} {fa : Addr} {fd : FuncData} {ps : List Str} {F : List D → Sto → R D} {es : List Expr} {gs : DA} {p : Pos} (hM : Mk X.K C fa) (hm : X.mg c = some (.ref C)) (O : FnOk X.prog X.w X.K X.mg X.base CX k fa fd ps (spF (gx X) F)) (hr : Room (k + 1) X.A) (hg : Gl X c) (hb : zV X.K fd ps []) (hx : Passes CX X E) (ha : PDA X E (e :: es) gs)
  (hdb : (c == ("__debug__" : Str)) = false := by decide +kernel) (he : starEach (e :: es) X.env = (false, eval e X.env) :: starEach es X.env := by rfl) (hpl : (backTo pos (starEach es X.env)).any (·.1) = false := by rfl) :
  PDE X E (.Call (.Name c p) (e :: es) [] pos) (mkE c F gs) := by
 try unfold PDE at *
 try unfold PDA at *
 refine PE.imp (pe_make hM O hr hg hm hb .nil hx ha hdb he hpl) fun σ H Q ⟨W, δ, rr, hS, hδ, hg, hA⟩ => ?_
 refine Go.thn hS hδ hg hA fun as H1 W1 s1 hδ1 hg1 hA1 vs rvs x dx nx ndx ne => ?_
 have n1 := Nxt.heap s1.ok ndx (.own x)
 have nx' : upd H1 dx (.own x) x = none := by rw [zO (Ne.symm ne)]; exact nx
 have n2 : Nxt (gx X) (upd H1 dx (.own x)) W1 (upd (upd H1 dx (.own x)) x (.ins C dx [])) (W1.push x (.ins c [])) := Nxt.alloc n1.ok nx' ⟨C, dx, [], hm, zW, rfl, rfl⟩
 have n12 := n1.trans n2
 have hμ : (W1.push x (.ins c [])).μ W1.S.length = x := if_pos rfl
 have hl : W1.S.length < (W1.push x (.ins c [])).S.length := by simp [Wd.push]
 unfold mkA at hg1
 cases hF : F (.ref W1.S.length :: as) (W1.S ++ [.ins c []]) with
 | none => rw [hF] at hg1; cases hg1
 | some r =>
  rw [hF] at hg1
  refine ⟨W1.push x (.ins c []), .ref W1.S.length :: as, r, n12.ok, ?_, hF, ?_⟩
  ·rw [List.append_nil]
   exact ⟨_, _, rfl, ⟨hl, by rw [hμ]⟩, rvs.mv (n12.mv s1.ok)⟩
  ·cases r with
   | ok d S' =>
    cases d with
    | non =>
     obtain rfl : Rs.ok (D.ref W1.S.length) S' = rr := Option.some.inj hg1
     intro H' W' eS n3 v rv
     refine ⟨rv, hA1 H' W' eS (n12.trans n3) _ ⟨Nat.lt_of_lt_of_le hl n3.len, ?_⟩⟩
     rw [n3.old _ hl, hμ]
    | _ => cases hg1
   | er c' S' =>
    obtain rfl : Rs.er c' S' = rr := Option.some.inj hg1
    obtain ⟨C', hC', h⟩ := hA1
    exact ⟨C', hC', fun H' W' eS n3 => h H' W' eS (n12.trans n3)⟩
theorem pd_methD {CX : CXT} {k : Nat} {fa : Addr} {fd : FuncData} {ps : List Str} {F : List D → Sto → R D} {es : List Expr} {gs : DA} {apos : Pos} {pl : Sem Bool} (hc : Cls X.K C) (hM : Meth X.K C m fa) (hm : X.mg c = some (.ref C)) (O : FnOk X.prog X.w X.K X.mg X.base CX k fa fd ps (spF (gx X) F)) (hr : Room k X.A) (hb : zV X.K fd ps [.none]) (hx : Passes CX X E) (ho : PDE X E o go) (ha : PDA X E (e :: es) gs)
  (hst : starEach (e :: es) X.env = (false, eval e X.env) :: starEach es X.env := by rfl) (hpl : (backTo pos (starEach es X.env)).any (·.1) = false := by rfl)
  (ht : eval (.Call (.Attribute o m apos) (e :: es) [] pos) X.env = (do
   let ov ← eval o X.env
   standAt apos.atName
   let (f, first) ← holding [ov] (getMethod ov m pl)
   callWith pos f first (backTo pos (starEach (e :: es) X.env)) (backToKw pos (keywordEach [] X.env))) := by rfl) : PDE X E (.Call (.Attribute o m apos) (e :: es) [] pos) (methE c m (fnD F [.non]) go gs) := by
 try unfold PDE at *
 try unfold PDA at *
 refine PE.imp (pe_meth ho hc hM O hr hb (dvs := [.non]) (.cons (show RelV V.non Value.none from rfl) .nil) hx ha hst hpl ht) fun σ H Q ⟨W, δ, rr, hS, hδ, hg, hA⟩ => ?_
 refine Go.thn hS hδ hg hA fun d H1 W1 s1 hδ1 hg1 hA1 v rv => ?_
 unfold methK at hg1
 split at hg1
 ·rename_i a
  split at hg1
  ·rename_i c' fs hi
   split at hg1
   ·rename_i ec
    obtain ⟨ec, hl⟩ := ec
    subst ec
    obtain ⟨dx, qs, q, n, r⟩ := s1.ok.inst hm hi
    refine ⟨_, dx, qs, rv.2, q, lookup_none n hl, ?_⟩
    refine Go.thn s1.ok hδ1 hg1 hA1 fun as H2 W2 s2 hδ2 hg2 hA2 vs rvs => ?_
    rw [rv.2]
    exact ⟨W2, D.ref a :: (as ++ [D.non]), rr, s2.ok, ⟨_, _, rfl, by rw [← rv.2]; exact rv.mv (s2.mv s1.ok), rvs.append ⟨_, _, rfl, rfl, rfl⟩⟩, hg2, hA2⟩
   ·cases hg1
  ·cases hg1
 ·cases hg1
theorem cd_min {G : Gx} : CallD G (fun xs H Q => ∃ i j, xs = [.int i, .int j] ∧ Q (.int (if j < i then j else i)) H) minD := by
 intro E H W vs ds Q rr hS rl e hA
 unfold minD at e
 split at e
 ·rename_i i j
  obtain rfl : Rs.ok (D.int (if j < i then j else i)) W.S = rr := Option.some.inj e
  obtain ⟨v, r, rfl, q, v2, r2, rfl, q2, t⟩ := rl
  have q : v = .int i := q
  have q2 : v2 = .int j := q2
  have t : r2 = [] := t
  subst q q2 t
  exact ⟨i, j, rfl, hA.now hS _ rfl⟩
 ·cases e
theorem RepL.erase {G : Gx} {H : Hp} {W : Wd} : ∀ {ds : List D} {vs : List V} (k : Nat), RepL G H W ds vs → RepL G H W (ds.eraseIdx k) (vs.eraseIdx k)
 | [], _, _, h => by cases h; rfl
 | d :: ds, _, 0, h => by
  obtain ⟨v, r, rfl, q, t⟩ := h
  exact t
 | d :: ds, _, k + 1, h => by
  obtain ⟨v, r, rfl, q, t⟩ := h
  exact ⟨v, _, rfl, q, RepL.erase k t⟩
theorem pd_popAt {apos cpos : Pos} (ho : PDE X E o go) (he : PDE X E e ge) (hbase : attributeBase o "pop" X.env (eval o X.env) = eval o X.env := by rfl)
  (hfew : ((backTo cpos (starEach (e :: []) X.env)).all (fun x => !x.1) && (backToKw cpos (keywordEach [] X.env)).all (fun x => x.1.isSome) && decide ((e :: []).length + ([] : List Keyword).length + (if ([] : List Keyword).isEmpty then 0 else 1) < 30)) = true := by rfl)
  (hline : (apos.endLine == cpos.line) = true := by rfl) (hs : starEach (e :: []) X.env = (false, eval e X.env) :: starEach [] X.env := by rfl) (hplain : (backTo cpos (starEach [] X.env)).any (·.1) = false := by rfl) :
  PDE X E (.Call (.Attribute o "pop" apos) [e] [] cpos) (opM popAtD go ge) := by
 have hm := tF_meth (X := X) (E := E) (go := go) (ge := ge) (f := popAtD) (r := rPopAt) fun E H W x y dx dy Q rr hS rx ry e hA => by
  unfold popAtD at e
  split at e
  ·rename_i a i
   split at e
   ·rename_i xs hx
    split at e
    ·rename_i hi
     split at e
     ·rename_i d hd
      obtain rfl : Rs.ok d (W.S.set a (.lst (xs.eraseIdx i.toNat))) = rr := Option.some.inj e
      obtain ⟨us, ex, hq, rl⟩ := hS.lst rx hx
      obtain ⟨v, hv, rv⟩ := rl.get hd
      have hlt : i.toNat < xs.length := (List.getElem?_eq_some_iff.mp hd).1
      have hl := rl.length
      refine ⟨_, us, i, i.toNat, v, ex, by rw [show y = .int i from ry], hq, by omega, by omega, ?_, hv, ?_⟩
      ·exact seqIndex_of hi.1 (by omega)
      ·exact hA _ (W.put a (.lst (xs.eraseIdx i.toNat))) rfl (Nxt.write hS rx.1 ⟨_, zW, (rl.erase i.toNat).mv (Mv.put hS rx.1 _ _)⟩) v (rv.mv (Mv.put hS rx.1 _ _))
     ·cases e
    ·cases e
   ·cases e
  ·cases e
 (try unfold PDE); exact PE.imp (pe_bm PySem.F.plainAttrs_list PySem.F.slot_list_pop PySem.F.type_list_pop mt_popAt ho.o (zB he zE hs).o hbase hfew hline hs hplain) hm
end
end Np
end
section
namespace Np
open PySem PySem.Spec PyProof.Rows L2
section
variable {P : Program} {w : World} {A : Around}
structure Itx (P : Program) (w : World) (A : Around) (i l : Addr) (St : Nat → Heap → Prop) (g : Nat → Option Value) : Prop where
 ext : ∀ k h h' b, St k h → Heap.ExtBut b h h' → i ≠ b → l ≠ b → St k h'
 more : ∀ k (s : Shared) v (Q : Value → Shared → Prop) (E : Value → Shared → Prop), St k s.heap → g k = some v → (∀ h', St (k + 1) h' → Heap.SameBut i s.heap h' → Q v { s with heap := h' }) → wpAny (model P w) A (Builtin.SmallTypes.nextOf (.ref i)) Q E s
 over : ∀ k (s : Shared) (Q : Value → Shared → Prop) (E : Value → Shared → Prop), St k s.heap → g k = none → (∀ h' e, Heap.ExtBut i s.heap h' → (∃ o, h'.get? e = some o ∧ o.cls = .type "StopIteration") → E (.ref e) { s with heap := h' }) → wpAny (model P w) A (Builtin.SmallTypes.nextOf (.ref i)) Q E s
theorem itx_tup (hh : A.handled = none) (i src : Addr) (xs : Array Value) : Itx P w A i src (fun k h => h.IsTupleIter i src k ∧ h.IsTuple src xs) (fun k => xs[k]?) where
 ext := fun k h h' b st e h1 h2 => ⟨st.1.extBut e h1, st.2.extBut e h2⟩
 more := fun k s v Q E st hv q => by
  obtain ⟨ob, g1, g2, g3⟩ := id st.1
  obtain ⟨ot, e1, e2, nn, e3⟩ := id st.2
  have hli : src ≠ i := fun z => by
   subst z
   rw [g1] at e1
   cases e1
   rw [g2] at e2
   exact absurd e2 (by decide)
  unfold Builtin.SmallTypes.nextOf
  refine wpAny_bind (wpAny_callSpecial?_slot (name := Str.ofString "__next__") st.1.typeIs F.slot_tuple_iterator_next (wpAny_call_entry F.slot_tuple_iterator_next st.1.typeIs F.entry_tuple_iterator_next ?_ (F.args_tuple_iterator_next_1 _)))
  show wpAny _ _ (field (.ref i) 0 >>= _) _ _ s
  refine wpAny_bind (wpAny_field g1 g3 (x := .ref src) rfl ?_)
  show wpAny _ _ (if (Value.ref src == Value.none) = true then _ else _) _ _ s
  rw [if_neg (show ¬ ((Value.ref src == Value.none) = true) from Bool.false_ne_true)]
  show wpAny _ _ (field (.ref i) 1 >>= _) _ _ s
  refine wpAny_bind (wpAny_field g1 g3 (x := .int k 0) rfl ?_)
  show wpAny _ _ (seqItems? (.ref src) >>= _) _ _ s
  refine wpAny_bind (wpAny_seqItems e1 e3 ?_)
  simp only [Int.toNat_natCast, hv]
  refine wpAny_bind (wpAny_setField g1 g3 (by simp) (wpAny_pure ⟨v, rfl, wpAny_pure (q _ ⟨?_, st.2.extBut (Heap.SameBut.update ..).extBut hli⟩ (Heap.SameBut.update ..))⟩))
  exact ⟨_, Heap.get?_update_self _ g1 (Obj.isFreed_of_fields (Obj.data_mapFields g3 _)), (Obj.cls_mapFields ..).trans g2, by rw [Obj.data_mapFields g3]; simp [rawInt]⟩
 over := fun k s Q E st hv q => by
  obtain ⟨ob, g1, g2, g3⟩ := id st.1
  obtain ⟨ot, e1, e2, nn, e3⟩ := id st.2
  unfold Builtin.SmallTypes.nextOf
  refine wpAny_bind (wpAny_callSpecial?_slot (name := Str.ofString "__next__") st.1.typeIs F.slot_tuple_iterator_next (wpAny_call_entry F.slot_tuple_iterator_next st.1.typeIs F.entry_tuple_iterator_next ?_ (F.args_tuple_iterator_next_1 _)))
  show wpAny _ _ (field (.ref i) 0 >>= _) _ _ s
  refine wpAny_bind (wpAny_field g1 g3 (x := .ref src) rfl ?_)
  show wpAny _ _ (if (Value.ref src == Value.none) = true then _ else _) _ _ s
  rw [if_neg (show ¬ ((Value.ref src == Value.none) = true) from Bool.false_ne_true)]
  show wpAny _ _ (field (.ref i) 1 >>= _) _ _ s
  refine wpAny_bind (wpAny_field g1 g3 (x := .int k 0) rfl ?_)
  show wpAny _ _ (seqItems? (.ref src) >>= _) _ _ s
  refine wpAny_bind (wpAny_seqItems e1 e3 ?_)
  simp only [Int.toNat_natCast, hv]
  refine wpAny_bind (wpAny_rule (wpAny_bind (wpAny_setField g1 g3 (by simp) ?_)))
  show wpAny _ _ (newExc (.type "StopIteration") [] >>= _) _ _ _
  refine wpAny_bind ?_
  simp only [newExc, newTuple]
  refine wpAny_bind (wpAny_newObj_type ?_ (by size_fits))
  refine wpAny_bind (m := firstArgMember _ _) (wpAny_of_eq (a := Value.none) (by first | rfl | (simp only [firstArgMember]; rfl)) ?_)
  refine wpAny_newObj_type ?_ (by size_fits)
  simp only [raiseNew]
  refine wpAny_bind (wpAny_handled ?_)
  first | rw [show A.in1.handled = none from hh] | rw [hh]
  refine wpAny_bind (wpAny_pure (wpAny_throw ?_))
  exact q _ _ (((Heap.SameBut.update ..).extBut.push _).push _) ⟨_, Heap.get?_push_size _ rfl, rfl⟩
theorem zip_more {zz ta tb ia ib la lb : Addr} {Sa Sb : Nat → Heap → Prop} {ga gb : Nat → Option Value} {k1 k2 : Nat} {x y a b : Value} {s : Shared} {E : Value → Shared → Prop} {Q : Value → Shared → Prop} (D : ZipApart zz ta tb ia ib la lb) (Ia : Itx P w A ia la Sa ga) (Ib : Itx P w A ib lb Sb gb)
  (hz : IsZip s.heap zz ta tb .none) (h3 : IsPair s.heap ta (.ref ia) (.ref ib)) (h4 : IsPair s.heap tb a b) (h1 : Sa k1 s.heap) (h2 : Sb k2 s.heap) (hx : ga k1 = some x) (hy : gb k2 = some y)
  (hQ : ∀ h', IsZip h' zz ta tb (rawInt s.heap.objs.size) → IsPair h' tb x y → Sa (k1 + 1) h' → Sb (k2 + 1) h' → IsPair h' s.heap.objs.size x y →
   (∀ c o, c ≠ zz → c ≠ tb → c ≠ ia → c ≠ ib → s.heap.get? c = some o → h'.get? c = some o) → Q (.ref s.heap.objs.size) { s with heap := h' }) :
  wpAny (model P w) A (Builtin.«zip.__next__» ⟨[.ref zz], []⟩) (fun fin s' => ∃ v, fin = .done (.ret v) ∧ Q v s') E s := by
 show wpAny _ _ (field (.ref zz) 2 >>= _) _ _ _
 refine wpAny_bind (wpAny_field hz rfl (x := .bool false) rfl ?_)
 show wpAny _ _ (field (.ref zz) 3 >>= _) _ _ _
 refine wpAny_bind (wpAny_field hz rfl (x := .ref ta) rfl ?_)
 refine wpAny_bind (wpAny_seqItems h3 rfl ?_)
 show wpAny _ _ (Builtin.SmallTypes.ownedTupleIsFree (.ref zz) >>= _) _ _ _
 refine wpAny_bind ?_
 unfold Builtin.SmallTypes.ownedTupleIsFree
 refine wpAny_bind (wpAny_field hz rfl (x := .none) rfl (wpAny_pure ?_))
 simp only [if_true]
 refine wpAny_bind (wpAny_rule ?_)
 refine wpAny_bind (wpAny_field hz rfl (x := .ref tb) rfl ?_)
 refine wpAny_bind (wpAny_setField_rec hz (by simp) fun H1 z1 w1 => ?_)
 replace z1 : IsZip H1 zz ta tb .ellipsis := z1
 refine wpAny_bind ?_
 simp only [List.zipIdx_cons, List.zipIdx_nil, List.forIn_cons, List.forIn_nil]
 have a1 : Sa k1 H1 := Ia.ext _ _ _ _ h1 w1.extBut D.i1z D.l1z
 have b1 : Sb k2 H1 := Ib.ext _ _ _ _ h2 w1.extBut D.i2z D.l2z
 refine wpAny_bind (wpAny_bind (wpAny_onRaise ?_))
 show wpAny _ _ (Builtin.SmallTypes.nextOf (.ref ia) >>= _) _ _ _
 refine wpAny_bind (Ia.more k1 _ x _ _ a1 hx fun H2 a2 w2 => wpAny_pure ?_)
 have t2 : IsPair H2 tb a b := w2.extBut _ _ D.TOi1 (w1.extBut _ _ D.TOz h4)
 refine wpAny_bind (wpAny_seqItems t2 rfl ?_)
 refine wpAny_bind (wpAny_updateSeq_pair t2 fun H3 t3 w3 => ?_)
 replace t3 : IsPair H3 tb x b := t3
 refine wpAny_bind (wpAny_letGo (wpAny_pure ?_))
 have b3 : Sb k2 H3 := Ib.ext _ _ _ _ (Ib.ext _ _ _ _ b1 w2.extBut D.i12.symm D.l2i1) w3.extBut D.TOi2.symm D.l2TO
 refine wpAny_bind (wpAny_bind (wpAny_onRaise ?_))
 show wpAny _ _ (Builtin.SmallTypes.nextOf (.ref ib) >>= _) _ _ _
 refine wpAny_bind (Ib.more k2 _ y _ _ b3 hy fun H4 b4 w4 => wpAny_pure ?_)
 have t4 : IsPair H4 tb x b := w4.extBut _ _ D.TOi2 t3
 refine wpAny_bind (wpAny_seqItems t4 rfl ?_)
 refine wpAny_bind (wpAny_updateSeq_pair t4 fun H5 t5 w5 => ?_)
 replace t5 : IsPair H5 tb x y := t5
 refine wpAny_bind (wpAny_letGo (wpAny_pure (wpAny_pure ?_)))
 refine wpAny_bind (wpAny_seqItems t5 rfl ?_)
 refine wpAny_bind (wpAny_newTuple ?_)
 have ez : H5.objs.size = s.heap.objs.size := by rw [w5.1, w4.1, w3.1, w2.1, w1.1]
 have z5 : IsZip H5 zz ta tb .ellipsis := w5.extBut _ _ D.TOz.symm (w4.extBut _ _ D.i2z.symm (w3.extBut _ _ D.TOz.symm (w2.extBut _ _ D.i1z.symm z1)))
 have k5 : ∀ c o, c ≠ zz → c ≠ tb → c ≠ ia → c ≠ ib → s.heap.get? c = some o → H5.get? c = some o := fun c o c1 c2 c3 c4 e => w5.extBut _ _ c2 (w4.extBut _ _ c4 (w3.extBut _ _ c2 (w2.extBut _ _ c3 (w1.extBut _ _ c1 e))))
 have a5 : Sa (k1 + 1) H5 := Ia.ext _ _ _ _ (Ia.ext _ _ _ _ (Ia.ext _ _ _ _ a2 w3.extBut D.TOi1.symm D.l1TO) w4.extBut D.i12 D.l1i2) w5.extBut D.TOi1.symm D.l1TO
 have b5 : Sb (k2 + 1) H5 := Ib.ext _ _ _ _ b4 w5.extBut D.TOi2.symm D.l2TO
 have lz : zz < H5.objs.size := Heap.lt_size z5
 show wpAny _ _ (Builtin.SmallTypes.ownedTupleHandOut (.ref zz) (.ref H5.objs.size) >>= _) _ _ _
 refine wpAny_bind ?_
 unfold Builtin.SmallTypes.ownedTupleHandOut
 have z6 : IsZip (H5.push { cls := .type "tuple", data := .seq #[x, y] }) zz ta tb .ellipsis := Heap.get?_push_of_some _ z5
 refine wpAny_bind (wpAny_setField_rec z6 (by simp) fun H7 z7 w7 => ?_)
 replace z7 : IsZip H7 zz ta tb (rawInt H5.objs.size) := z7
 refine wpAny_setField_rec z7 (by simp) fun H8 z8 w8 => ?_
 replace z8 : IsZip H8 zz ta tb (rawInt H5.objs.size) := z8
 have pu : Heap.ExtBut zz H5 H8 := fun c o c1 e => w8.extBut _ _ c1 (w7.extBut _ _ c1 (Heap.get?_push_of_some _ e))
 have t8 : IsPair H8 H5.objs.size x y := w8.extBut _ _ (Nat.ne_of_gt lz) (w7.extBut _ _ (Nat.ne_of_gt lz) (Heap.get?_push_size _ rfl))
 rw [ez] at z8 t8
 refine wpAny_pure ⟨_, rfl, ?_⟩
 show Q (.ref H5.objs.size) _
 rw [ez]
 exact hQ H8 z8 (pu _ _ D.TOz t5) (Ia.ext _ _ _ _ a5 pu D.i1z D.l1z) (Ib.ext _ _ _ _ b5 pu D.i2z D.l2z) t8 fun c o c1 c2 c3 c4 e => pu c o c1 (k5 c o c1 c2 c3 c4 e)
theorem zip_over {zz ta tb ia ib la lb : Addr} {Sa Sb : Nat → Heap → Prop} {ga gb : Nat → Option Value} {k1 k2 : Nat} {a b : Value} {s : Shared} {E : Value → Shared → Prop} {Q : Fin → Shared → Prop} (D : ZipApart zz ta tb ia ib la lb) (Ia : Itx P w A ia la Sa ga) (Ib : Itx P w A ib lb Sb gb)
  (hz : IsZip s.heap zz ta tb .none) (h3 : IsPair s.heap ta (.ref ia) (.ref ib)) (h4 : IsPair s.heap tb a b) (h1 : Sa k1 s.heap) (h2 : Sb k2 s.heap) (hend : ga k1 = none ∨ gb k2 = none)
  (hE : ∀ h' e, (∀ c o, c ≠ zz → c ≠ tb → c ≠ ia → c ≠ ib → s.heap.get? c = some o → h'.get? c = some o) → (∃ o, h'.get? e = some o ∧ o.cls = .type "StopIteration") → E (.ref e) { s with heap := h' }) :
  wpAny (model P w) A (Builtin.«zip.__next__» ⟨[.ref zz], []⟩) Q E s := by
 show wpAny _ _ (field (.ref zz) 2 >>= _) _ _ _
 refine wpAny_bind (wpAny_field hz rfl (x := .bool false) rfl ?_)
 show wpAny _ _ (field (.ref zz) 3 >>= _) _ _ _
 refine wpAny_bind (wpAny_field hz rfl (x := .ref ta) rfl ?_)
 refine wpAny_bind (wpAny_seqItems h3 rfl ?_)
 show wpAny _ _ (Builtin.SmallTypes.ownedTupleIsFree (.ref zz) >>= _) _ _ _
 refine wpAny_bind ?_
 unfold Builtin.SmallTypes.ownedTupleIsFree
 refine wpAny_bind (wpAny_field hz rfl (x := .none) rfl (wpAny_pure ?_))
 simp only [if_true]
 refine wpAny_bind (wpAny_rule ?_)
 refine wpAny_bind (wpAny_field hz rfl (x := .ref tb) rfl ?_)
 refine wpAny_bind (wpAny_setField_rec hz (by simp) fun H1 z1 w1 => ?_)
 replace z1 : IsZip H1 zz ta tb .ellipsis := z1
 refine wpAny_bind ?_
 simp only [List.zipIdx_cons, List.zipIdx_nil, List.forIn_cons, List.forIn_nil]
 have a1 : Sa k1 H1 := Ia.ext _ _ _ _ h1 w1.extBut D.i1z D.l1z
 have b1 : Sb k2 H1 := Ib.ext _ _ _ _ h2 w1.extBut D.i2z D.l2z
 refine wpAny_bind (wpAny_bind (wpAny_onRaise ?_))
 show wpAny _ _ (Builtin.SmallTypes.nextOf (.ref ia) >>= _) _ _ _
 cases hx : ga k1 with
 | none =>
  refine wpAny_bind (Ia.over k1 _ _ _ a1 hx fun H2 e w2 he => ?_)
  obtain ⟨oe, he1, he2⟩ := he
  have z2 : IsZip H2 zz ta tb .ellipsis := w2 _ _ D.i1z.symm z1
  have nez : e ≠ zz := fun q => by
   subst q
   rw [z2] at he1
   cases he1
   simp at he2
  exact wpAny_setField_rec z2 (by simp) fun H3 _ w3 => hE H3 e (fun c o c1 _ c3 _ q => w3.extBut _ _ c1 (w2 _ _ c3 (w1.extBut _ _ c1 q))) ⟨oe, w3.extBut _ _ nez he1, he2⟩
 | some x =>
  have hy : gb k2 = none := by
   rcases hend with h | h
   ·rw [hx] at h; cases h
   ·exact h
  refine wpAny_bind (Ia.more k1 _ x _ _ a1 hx fun H2 a2 w2 => wpAny_pure ?_)
  have t2 : IsPair H2 tb a b := w2.extBut _ _ D.TOi1 (w1.extBut _ _ D.TOz h4)
  refine wpAny_bind (wpAny_seqItems t2 rfl ?_)
  refine wpAny_bind (wpAny_updateSeq_pair t2 fun H3 t3 w3 => ?_)
  refine wpAny_bind (wpAny_letGo (wpAny_pure ?_))
  have b3 : Sb k2 H3 := Ib.ext _ _ _ _ (Ib.ext _ _ _ _ b1 w2.extBut D.i12.symm D.l2i1) w3.extBut D.TOi2.symm D.l2TO
  refine wpAny_bind (wpAny_bind (wpAny_onRaise ?_))
  show wpAny _ _ (Builtin.SmallTypes.nextOf (.ref ib) >>= _) _ _ _
  refine wpAny_bind (Ib.over k2 _ _ _ b3 hy fun H4 e w4 he => ?_)
  obtain ⟨oe, he1, he2⟩ := he
  have z4 : IsZip H4 zz ta tb .ellipsis := w4 _ _ D.i2z.symm (w3.extBut _ _ D.TOz.symm (w2.extBut _ _ D.i1z.symm z1))
  have nez : e ≠ zz := fun q => by
   subst q
   rw [z4] at he1
   cases he1
   simp at he2
  exact wpAny_setField_rec z4 (by simp) fun H5 _ w5 => hE H5 e (fun c o c1 c2 c3 c4 q => w5.extBut _ _ c1 (w4 _ _ c4 (w3.extBut _ _ c2 (w2.extBut _ _ c3 (w1.extBut _ _ c1 q))))) ⟨oe, w5.extBut _ _ nez he1, he2⟩
theorem next_more {zz ta tb ia ib la lb : Addr} {Sa Sb : Nat → Heap → Prop} {ga gb : Nat → Option Value} {k1 k2 : Nat} {x y a b : Value} {s : Shared} {E : Value → Shared → Prop} {Q : Option Value → Shared → Prop} (D : ZipApart zz ta tb ia ib la lb)
  (Ia : ∀ A', A'.handled = none → Itx P w A' ia la Sa ga) (Ib : ∀ A', A'.handled = none → Itx P w A' ib lb Sb gb) (hh : A.handled = none)
  (hz : IsZip s.heap zz ta tb .none) (h3 : IsPair s.heap ta (.ref ia) (.ref ib)) (h4 : IsPair s.heap tb a b) (h1 : Sa k1 s.heap) (h2 : Sb k2 s.heap) (hx : ga k1 = some x) (hy : gb k2 = some y)
  (hQ : ∀ h', IsZip h' zz ta tb (rawInt s.heap.objs.size) → IsPair h' tb x y → Sa (k1 + 1) h' → Sb (k2 + 1) h' → IsPair h' s.heap.objs.size x y →
   (∀ c o, c ≠ zz → c ≠ tb → c ≠ ia → c ≠ ib → s.heap.get? c = some o → h'.get? c = some o) → Q (some (.ref s.heap.objs.size)) { s with heap := h' }) : wpAny (model P w) A (pyNext (.ref zz)) Q E s := by
 have ty : s.TypeIs (.ref zz) "zip" := ⟨_, hz, rfl⟩
 unfold pyNext
 refine wpAny_bind (wpAny_attempt (wpAny_callSpecial?_slot (name := Str.ofString "__next__") ty F.slot_zip_next (wpAny_call_entry F.slot_zip_next ty F.entry_zip_next ?_ (F.args_zip_next_1 _))))
 exact zip_more D (Ia _ hh) (Ib _ hh) hz h3 h4 h1 h2 hx hy fun h' q1 q2 q3 q4 q5 q6 => wpAny_pure (hQ h' q1 q2 q3 q4 q5 q6)
theorem next_over {zz ta tb ia ib la lb : Addr} {Sa Sb : Nat → Heap → Prop} {ga gb : Nat → Option Value} {k1 k2 : Nat} {a b : Value} {s : Shared} {E : Value → Shared → Prop} {Q : Option Value → Shared → Prop} (D : ZipApart zz ta tb ia ib la lb)
  (Ia : ∀ A', A'.handled = none → Itx P w A' ia la Sa ga) (Ib : ∀ A', A'.handled = none → Itx P w A' ib lb Sb gb) (hh : A.handled = none)
  (hz : IsZip s.heap zz ta tb .none) (h3 : IsPair s.heap ta (.ref ia) (.ref ib)) (h4 : IsPair s.heap tb a b) (h1 : Sa k1 s.heap) (h2 : Sb k2 s.heap) (hend : ga k1 = none ∨ gb k2 = none)
  (hQ : ∀ h', (∀ c o, c ≠ zz → c ≠ tb → c ≠ ia → c ≠ ib → s.heap.get? c = some o → h'.get? c = some o) → Q none { s with heap := h' }) : wpAny (model P w) A (pyNext (.ref zz)) Q E s := by
 have ty : s.TypeIs (.ref zz) "zip" := ⟨_, hz, rfl⟩
 unfold pyNext
 refine wpAny_bind (wpAny_attempt (wpAny_callSpecial?_slot (name := Str.ofString "__next__") ty F.slot_zip_next (wpAny_call_entry F.slot_zip_next ty F.entry_zip_next ?_ (F.args_zip_next_1 _))))
 refine zip_over D (Ia _ hh) (Ib _ hh) hz h3 h4 h1 h2 hend fun h' e hk he => ?_
 obtain ⟨o, ho, hc⟩ := he
 exact wpAny_bind (wpAny_isInstance (T := "StopIteration") (b := true) ⟨o, ho, hc⟩ isSubtype_stop (wpAny_pure (hQ _ hk)))
def zt1 (h : Heap) (la : Addr) : Heap := h.push { cls := .type "tuple_iterator", data := .fields #[.ref la, .int 0 0] }
def zt3 (h : Heap) (la lb : Addr) : Heap := (zt1 (zt1 h la) lb).push { cls := .type "tuple", data := .seq #[.ref h.objs.size, .ref (zt1 h la).objs.size] }
def zt4 (h : Heap) (la lb : Addr) : Heap := (zt3 h la lb).push { cls := .type "tuple", data := .seq #[.none, .none] }
def zt5 (h : Heap) (la lb : Addr) : Heap := (zt4 h la lb).push { cls := .type "zip", data := .fields #[.none, .bool false, .bool false, .ref (zt1 (zt1 h la) lb).objs.size, .ref (zt3 h la lb).objs.size] }
theorem zipT_meets (la lb : Addr) (xs ys : Array Value) : Meets (Builtin.«zip.__new__» ⟨[.type "zip", .ref la, .ref lb], []⟩) (fun _ R s => s.heap.IsTuple la xs ∧ s.heap.IsTuple lb ys ∧ R (.ok (.ret (.ref (zt4 s.heap la lb).objs.size))) { s with heap := zt5 s.heap la lb }) :=
 .of_wp fun prog w A R s h => by
  obtain ⟨hp, g, d, tk, os⟩ := s; obtain ⟨p1, p2, h⟩ := h
  have hsub := sub_zip
  have u1 : Heap.IsTuple (Shared.heap ⟨hp, g, d, tk, os⟩) la xs := p1
  have u2 : Heap.IsTuple (Shared.heap ⟨hp.push { cls := .type "tuple_iterator", data := .fields #[.ref la, .int 0 0] }, g, d, tk, os⟩) lb ys := Heap.IsTuple.push p2 _
  wp_walk using wpAny_pyIter_tuple u1, wpAny_pyIter_tuple u2
  exact ⟨_, rfl, h⟩
theorem call_zipT {la lb : Addr} {xs ys : Array Value} {s : Shared} {E : Value → Shared → Prop} {Q : Value → Shared → Prop} (hl1 : s.heap.IsTuple la xs) (hl2 : s.heap.IsTuple lb ys)
  (h : ∀ h', IsZip h' (s.heap.objs.size + 4) (s.heap.objs.size + 2) (s.heap.objs.size + 3) .none → IsPair h' (s.heap.objs.size + 2) (.ref s.heap.objs.size) (.ref (s.heap.objs.size + 1)) →
   IsPair h' (s.heap.objs.size + 3) .none .none → h'.IsTupleIter s.heap.objs.size la 0 → h'.IsTupleIter (s.heap.objs.size + 1) lb 0 → h'.objs.size = s.heap.objs.size + 5 →
   (∀ c o, s.heap.get? c = some o → h'.get? c = some o) → Q (.ref (s.heap.objs.size + 4)) { s with heap := h' }) :
  wpAny (model P w) A (call (.type "zip") [.ref la, .ref lb]) Q E s := by
 refine callType_new F.called_zip (by decide) (F.typeCall_zip_2 _ _) (F.newCall_zip_2 _ _) (fun obj => F.args_object_init_3 obj _ _) F.entry_zip_new (zipT_meets la lb xs ys) ⟨hl1, hl2, ?_⟩
 have z1 : (zt1 s.heap la).objs.size = s.heap.objs.size + 1 := Heap.size_push ..
 have z2 : (zt1 (zt1 s.heap la) lb).objs.size = s.heap.objs.size + 2 := by rw [zt1, Heap.size_push, z1]
 have z3 : (zt3 s.heap la lb).objs.size = s.heap.objs.size + 3 := by rw [zt3, Heap.size_push, z2]
 have z4 : (zt4 s.heap la lb).objs.size = s.heap.objs.size + 4 := by rw [zt4, Heap.size_push, z3]
 have z5 : (zt5 s.heap la lb).objs.size = s.heap.objs.size + 5 := by rw [zt5, Heap.size_push, z4]
 have g5 : (zt5 s.heap la lb).get? (zt4 s.heap la lb).objs.size = some _ := Heap.get?_push_size _ rfl
 have g4 : (zt5 s.heap la lb).get? (zt3 s.heap la lb).objs.size = some _ := Heap.get?_push_of_some _ (Heap.get?_push_size _ rfl)
 have g3 : (zt5 s.heap la lb).get? (zt1 (zt1 s.heap la) lb).objs.size = some _ := Heap.get?_push_of_some _ (Heap.get?_push_of_some _ (Heap.get?_push_size _ rfl))
 have g2 : (zt5 s.heap la lb).get? (zt1 s.heap la).objs.size = some _ := Heap.get?_push_of_some _ (Heap.get?_push_of_some _ (Heap.get?_push_of_some _ (Heap.get?_push_size _ rfl)))
 have g1 : (zt5 s.heap la lb).get? s.heap.objs.size = some _ := Heap.get?_push_of_some _ (Heap.get?_push_of_some _ (Heap.get?_push_of_some _ (Heap.get?_push_of_some _ (Heap.get?_push_size _ rfl))))
 show _ ∧ _
 rw [z2, z3, z4] at g5
 rw [z1, z2] at g3
 rw [z3] at g4
 rw [z1] at g2
 rw [z4]
 exact ⟨⟨_, g5, rfl⟩, h _ g5 g3 g4 ⟨_, g1, rfl, rfl⟩ ⟨_, g2, rfl, rfl⟩ z5 fun c o x =>
  Heap.get?_push_of_some _ (Heap.get?_push_of_some _ (Heap.get?_push_of_some _ (Heap.get?_push_of_some _ (Heap.get?_push_of_some _ x))))⟩
end
def Itzt (K : PySem.W.Frag) (a b : Addr) : It :=
  ⟨fun i H => ∃ xs ys x y, SqT K H a xs ∧ SqT K H b ys ∧ xs[i]? = some x ∧ ys[i]? = some y,
   fun i H v H' => ∃ p x y, v = .ref p ∧ H p = none ∧ H' = upd H p (.tup [x, y]) ∧ (∀ xs, SqT K H a xs → xs[i]? = some x) ∧ ∀ ys, SqT K H b ys → ys[i]? = some y,
   fun i H => ∃ xs ys, SqT K H a xs ∧ SqT K H b ys ∧ (xs.length ≤ i ∨ ys.length ≤ i)⟩
theorem turn_zipT {P : Program} {w : World} {K : PySem.W.Frag} {elts : List Expr} {x1 : Nat} {tpos : Pos} {z TI TO i1 i2 l1 l2 : Addr} (D : ZipApart z TI TO i1 i2 l1 l2) :
  Turn P w K (.Tuple elts x1 tpos) (Itzt K l1 l2) [z, TI, TO, i1, i2] z (fun i h => IsZip h z TI TO .none ∧ IsPair h TI (.ref i1) (.ref i2) ∧ (∃ a b, IsPair h TO a b) ∧ h.IsTupleIter i1 l1 i ∧ h.IsTupleIter i2 l2 i) where
 mem := by simp
 obj := fun i h st b hb => by
  obtain ⟨hz, hTI, ⟨u, v, hTO⟩, h1, h2⟩ := st
  simp only [List.mem_cons, List.not_mem_nil, or_false] at hb
  rcases hb with rfl | rfl | rfl | rfl | rfl
  ·exact ⟨_, hz, fun v q => by cases q⟩
  ·exact ⟨_, hTI, fun v q => by cases q⟩
  ·exact ⟨_, hTO, fun v q => by cases q⟩
  ·obtain ⟨o, e, c, d⟩ := h1
   exact ⟨o, e, fun v q => by rw [d] at q; cases q⟩
  ·obtain ⟨o, e, c, d⟩ := h2
   exact ⟨o, e, fun v q => by rw [d] at q; cases q⟩
 keep := fun i h h' st k => by
  obtain ⟨hz, hTI, ⟨u, v, hTO⟩, h1, h2⟩ := st
  exact ⟨k z (by simp) _ hz, k TI (by simp) _ hTI, ⟨u, v, k TO (by simp) _ hTO⟩, h1.at fun o e => k i1 (by simp) o e, h2.at fun o e => k i2 (by simp) o e⟩
 item := by
  intro X hP hw hK hc i pins s σ H E I hf st hg
  subst hP hw hK
  obtain ⟨hz, hTI, ⟨u, v, hTO⟩, h1, h2⟩ := st
  obtain ⟨xs, ys, x, y, hqx, hqy, hx, hy⟩ := hg
  obtain ⟨its, rx, px, zx⟩ := I.tuple hqx
  obtain ⟨jts, ry, py, zy⟩ := I.tuple hqy
  obtain ⟨ux, hux, rux⟩ := rx.get hx
  obtain ⟨uy, huy, ruy⟩ := ry.get hy
  refine next_more D (fun A' hA => itx_tup hA i1 l1 its.toArray) (fun A' hA => itx_tup hA i2 l2 jts.toArray) (I.ok.hd hc) hz hTI hTO ⟨h1, px⟩ ⟨h2, py⟩ (x := ux) (y := uy) (by simpa using hux) (by simpa using huy) fun h' a1 a2 a3 a4 a5 hk => ?_
  replace a3 := a3.1
  replace a4 := a4.1
  refine ⟨_, rfl, wpAny_letOwnedTupleGo_zip a1 fun h'' hz' hs' => ?_⟩
  have hTn : s.heap.objs.size ≠ z := Nat.ne_of_gt (Heap.lt_size hz)
  have kk : ∀ b o, b ∉ [z, TI, TO, i1, i2] → s.heap.get? b = some o → h''.get? b = some o := fun b o hb e => by
   simp only [List.mem_cons, List.not_mem_nil, or_false, not_or] at hb
   exact hs'.extBut _ _ hb.1 (hk b o hb.1 hb.2.2.1 hb.2.2.2.1 hb.2.2.2.2 e)
  have hp5 : IsPair h'' s.heap.objs.size ux uy := hs'.extBut _ _ hTn a5
  have new : ObjOk X.prog X.w (upd H s.heap.objs.size (.tup [x, y])) h'' s.heap.objs.size (.tup [x, y]) := ⟨by show 2 ≤ sizeLine; decide, [ux, uy], .cons rux (.cons ruy .nil), ⟨_, hp5, rfl, _, rfl⟩⟩
  have I5 := Inv.moved (s := s) (h' := h'') (t' := s.toks) I hf kk (Nat.le_refl _) new
  refine ⟨.ref s.heap.objs.size, upd H s.heap.objs.size (.tup [x, y]), I5, rfl, ⟨s.heap.objs.size, x, y, rfl, I.hok.fresh (Nat.le_refl _), rfl, fun ws hws => by rw [I.tuple_inj hws hqx]; exact hx, fun ws hws => by rw [I.tuple_inj hws hqy]; exact hy⟩, ?_, fun b hb => ?_⟩
  ·exact ⟨hz', hs'.extBut _ _ D.TIz (hk _ _ D.TIz D.TITO D.TIi1 D.TIi2 hTI), ⟨_, _, hs'.extBut _ _ D.TOz a2⟩, a3.extBut hs'.extBut D.i1z, a4.extBut hs'.extBut D.i2z⟩
  ·have hlt : b < s.heap.objs.size := by
    simp only [List.mem_cons, List.not_mem_nil, or_false] at hb
    rcases hb with rfl | rfl | rfl | rfl | rfl
    ·exact Heap.lt_size hz
    ·exact Heap.lt_size hTI
    ·exact Heap.lt_size hTO
    ·obtain ⟨o, e, _⟩ := h1; exact Heap.lt_size e
    ·obtain ⟨o, e, _⟩ := h2; exact Heap.lt_size e
   rw [zO (Nat.ne_of_lt hlt)]
   exact (hf b hb).1
 done := by
  intro X hP hw hK hc i pins s σ H E I hf st hg
  subst hP hw hK
  obtain ⟨hz, hTI, ⟨u, v, hTO⟩, h1, h2⟩ := st
  obtain ⟨xs, ys, hqx, hqy, hend⟩ := hg
  obtain ⟨its, rx, px, zx⟩ := I.tuple hqx
  obtain ⟨jts, ry, py, zy⟩ := I.tuple hqy
  have lx := rx.length
  have ly := ry.length
  refine next_over D (fun A' hA => itx_tup hA i1 l1 its.toArray) (fun A' hA => itx_tup hA i2 l2 jts.toArray) (I.ok.hd hc) hz hTI hTO ⟨h1, px⟩ ⟨h2, py⟩ (by
   rcases hend with z | z
   ·exact .inl (by simp; omega)
   ·exact .inr (by simp; omega)) fun h' hk => ⟨rfl, ?_⟩
  have nch : ∀ b u, H b = some u → b ∉ [z, TI, TO, i1, i2] := fun b u e zz => by rw [(hf b zz).1] at e; cases e
  have kk : ∀ b o, b ∉ [z, TI, TO, i1, i2] → s.heap.get? b = some o → h'.get? b = some o := fun b o hb e => by
   simp only [List.mem_cons, List.not_mem_nil, or_false, not_or] at hb
   exact hk b o hb.1 hb.2.2.1 hb.2.2.2.1 hb.2.2.2.2 e
  refine I.step (g' := s.gens) (d' := s.drawn) (t' := s.toks) (ch := [z, TI, TO, i1, i2]) (fun b hb => ⟨(hf b hb).2.2.2.1, (hf b hb).2.1, (hf b hb).2.2.2.2.1, (hf b hb).2.2.2.2.2⟩) (fun b u _ _ hc e _ => kk b u hc e) (fun b u _ _ hc e _ => ⟨u.slots, kk b u hc e⟩)
   (fun _ _ _ _ n => n) (fun b u hc e => ⟨u, kk b u hc e⟩) (fun _ _ q => q) (fun _ _ _ q => q) (fun b ps q => ⟨#[], by rw [q]; simp⟩) (fun m hm => ?_) (fun b u q => ?_) I.bare
  ·obtain ⟨ob, es, ep, ho, r⟩ := hm
   exact ⟨ob, es, ep, kk _ ob (fun z => (hf _ z).2.1 rfl) ho, r⟩
  ·refine (I.hok b u q).stay (fun c v hc zz => kk c v ?_ zz) (fun c zz => zz) fun c xs zz => zz
   rcases hc with rfl | hc
   ·exact nch _ _ q
   ·exact nch _ _ hc
 self := fun _ _ _ _ _ st h => wpAny_pyIter_zip st.1 h
section
variable {X : Cx} {E : XK}
def iZipL (K : PySem.W.Frag) (ta : TA) : TI := fun σ H R => ta σ H fun vs H1 => ∃ a b, vs = [.ref a, .ref b] ∧ ((∃ xs, SqL K H1 a xs) ∧ (∃ ys, SqL K H1 b ys) ∧ R (Itz K a b) H1 ∨ (∃ xs, SqT K H1 a xs) ∧ (∃ ys, SqT K H1 b ys) ∧ R (Itzt K a b) H1)
theorem pi_zipL {a b : Expr} {ta : TA} {p pos tpos : Pos} {elts : List Expr} {x1 : Nat} (hg : Gl X "zip") (hm : X.mg "zip" = none) (ha : PA X [a, b] ta) (hs : starEach [a, b] X.env = (false, eval a X.env) :: starEach [b] X.env) (hs2 : (backTo pos (starEach [b] X.env)).any (·.1) = false) :
  PI X (.Tuple elts x1 tpos) (.Call (.Name "zip" p) [a, b] [] pos) (iZipL X.K ta) := by
 intro pins s σ H R I h
 refine Call_ (ld_blt I hg hm boot_zip (PyProof.Rows.callWith_type1 (thn (ha pos pins s σ H _ I h) fun us s1 ⟨vs, H1, I1, r1, q1⟩ => ?_) hs hs2))
 obtain ⟨l1, l2, e, q1⟩ := q1
 subst e
 obtain ⟨u, v, rfl, ru, rv⟩ := Vals.two r1
 cases ru
 cases rv
 rcases q1 with ⟨⟨xs, hqx⟩, ⟨ys, hqy⟩, q⟩ | ⟨⟨xs, hqx⟩, ⟨ys, hqy⟩, q⟩
 ·obtain ⟨its, rx, px, zx⟩ := I1.list hqx
  obtain ⟨jts, ry, py, zy⟩ := I1.list hqy
  refine call_zip_2 px.isList py.isList fun h' a1 a2 a3 a4 a5 a6 hk => wpAny_pyIter_zip a1 ?_
  have I2 : Inv X pins σ H1 { s1 with heap := h' } := I1.kept (t' := s1.toks) hk
  have lt1 : l1 < s1.heap.objs.size := by obtain ⟨o, e, _⟩ := px.isList; exact Heap.lt_size e
  have lt2 : l2 < s1.heap.objs.size := by obtain ⟨o, e, _⟩ := py.isList; exact Heap.lt_size e
  generalize hn : s1.heap.objs.size = n at *
  have w1 : ∀ m : Nat, n ≤ m → l1 ≠ m := fun m h => Nat.ne_of_lt (Nat.lt_of_lt_of_le lt1 h)
  have w2 : ∀ m : Nat, n ≤ m → l2 ≠ m := fun m h => Nat.ne_of_lt (Nat.lt_of_lt_of_le lt2 h)
  have D : ZipApart (n + 4) (n + 2) (n + 3) n (n + 1) l1 l2 := by
   constructor <;> first
    | exact w1 _ (by show (_ : Nat) ≤ _; omega)
    | exact w2 _ (by show (_ : Nat) ≤ _; omega)
    | (show (_ : Nat) ≠ _; omega)
  refine ⟨n + 4, [n + 4, n + 2, n + 3, n, n + 1], _, _, H1, rfl, I2, turn_zip D, ⟨a1, a2, ⟨_, _, a3⟩, a4, a5⟩, fun b hb => ?_, q⟩
  have hb' : n ≤ b := by
   simp only [List.mem_cons, List.not_mem_nil, or_false] at hb
   rcases hb with rfl | rfl | rfl | rfl | rfl <;> (show (_ : Nat) ≤ _; omega)
  exact I1.fpOk (by rw [hn]; exact hb') (I1.hok.fresh (by rw [hn]; exact hb'))
 ·obtain ⟨its, rx, px, zx⟩ := I1.tuple hqx
  obtain ⟨jts, ry, py, zy⟩ := I1.tuple hqy
  refine call_zipT (show s1.heap.IsTuple l1 its.toArray from px) (show s1.heap.IsTuple l2 jts.toArray from py) fun h' a1 a2 a3 a4 a5 a6 hk => wpAny_pyIter_zip a1 ?_
  have I2 : Inv X pins σ H1 { s1 with heap := h' } := I1.kept (t' := s1.toks) hk
  have lt1 : l1 < s1.heap.objs.size := by obtain ⟨o, e, _⟩ := px; exact Heap.lt_size e
  have lt2 : l2 < s1.heap.objs.size := by obtain ⟨o, e, _⟩ := py; exact Heap.lt_size e
  generalize hn : s1.heap.objs.size = n at *
  have w1 : ∀ m : Nat, n ≤ m → l1 ≠ m := fun m h => Nat.ne_of_lt (Nat.lt_of_lt_of_le lt1 h)
  have w2 : ∀ m : Nat, n ≤ m → l2 ≠ m := fun m h => Nat.ne_of_lt (Nat.lt_of_lt_of_le lt2 h)
  have D : ZipApart (n + 4) (n + 2) (n + 3) n (n + 1) l1 l2 := by
   constructor <;> first
    | exact w1 _ (by show (_ : Nat) ≤ _; omega)
    | exact w2 _ (by show (_ : Nat) ≤ _; omega)
    | (show (_ : Nat) ≠ _; omega)
  refine ⟨n + 4, [n + 4, n + 2, n + 3, n, n + 1], _, _, H1, rfl, I2, turn_zipT D, ⟨a1, a2, ⟨_, _, a3⟩, a4, a5⟩, fun b hb => ?_, q⟩
  have hb' : n ≤ b := by
   simp only [List.mem_cons, List.not_mem_nil, or_false] at hb
   rcases hb with rfl | rfl | rfl | rfl | rfl <;> (show (_ : Nat) ≤ _; omega)
  exact I1.fpOk (by rw [hn]; exact hb') (I1.hok.fresh (by rw [hn]; exact hb'))
theorem pairsD_none : ∀ {xs ys : List D} {i : Nat}, (pairsD xs ys)[i]? = none → xs.length ≤ i ∨ ys.length ≤ i
 | [], _, _, _ => .inl (Nat.zero_le _)
 | _ :: _, [], _, _ => .inr (Nat.zero_le _)
 | _ :: _, _ :: _, 0, h => by simp [pairsD] at h
 | _ :: xs, _ :: ys, i + 1, h => by
  have h : (pairsD xs ys)[i]? = none := by rwa [pairsD, List.getElem?_cons_succ] at h
  rcases pairsD_none h with h | h
  ·exact .inl (Nat.succ_le_succ h)
  ·exact .inr (Nat.succ_le_succ h)
theorem pairsD_some : ∀ {xs ys : List D} {i : Nat} {d : D}, (pairsD xs ys)[i]? = some d → ∃ u v, xs[i]? = some u ∧ ys[i]? = some v ∧ d = .tup [u, v]
 | [], _, _, _, h => by simp [pairsD] at h
 | _ :: _, [], _, _, h => by simp [pairsD] at h
 | x :: _, y :: _, 0, d, h => ⟨x, y, rfl, rfl, by rw [pairsD, List.getElem?_cons_zero] at h; exact (Option.some.inj h).symm⟩
 | _ :: xs, _ :: ys, i + 1, d, h => by
  have h : (pairsD xs ys)[i]? = some d := by rwa [pairsD, List.getElem?_cons_succ] at h
  obtain ⟨u, v, e1, e2, e3⟩ := pairsD_some h
  exact ⟨u, v, by rw [List.getElem?_cons_succ]; exact e1, by rw [List.getElem?_cons_succ]; exact e2, e3⟩
theorem walks_zipT {G : Gx} {H : Hp} {W : Wd} {a b : Addr} {ds es : List D} {xs ys : List V} (hS : StOk G H W) (qa : SqT G.K H a xs) (qb : SqT G.K H b ys) (ra : RepL G H W ds xs) (rb : RepL G H W es ys) : Walks G (Itzt G.K a b) H W (.fix (pairsD ds es)) := fun i H1 W1 s1 => by
 have q1 := (s1.mv hS).sqT qa
 have q2 := (s1.mv hS).sqT qb
 have rx := ra.mv (s1.mv hS)
 have ry := rb.mv (s1.mv hS)
 refine ⟨fun h => ?_, fun d hd => ?_⟩
 ·have h : (pairsD ds es)[i]? = none := Option.some.inj h
  refine ⟨xs, ys, q1, q2, ?_⟩
  rcases pairsD_none h with h | h
  ·exact .inl (by rw [← rx.length]; exact h)
  ·exact .inr (by rw [← ry.length]; exact h)
 ·have hd : (pairsD ds es)[i]? = some d := Option.some.inj hd
  obtain ⟨u, v, hu, hv, rfl⟩ := pairsD_some hd
  obtain ⟨vx, ex, rvx⟩ := rx.get hu
  obtain ⟨vy, ey, rvy⟩ := ry.get hv
  refine ⟨⟨xs, ys, vx, vy, q1, q2, ex, ey⟩, fun z H3 hz => ?_⟩
  obtain ⟨p, x', y', rfl, hp, rfl, k1, k2⟩ := hz
  have e1 := k1 xs q1
  have e2 := k2 ys q2
  rw [ex] at e1
  rw [ey] at e2
  cases e1
  cases e2
  have sn := Nxt.heap s1.ok hp (HO.tup [vx, vy])
  exact ⟨W1, rfl, sn, p, _, rfl, SqT.of zW, ⟨vx, _, rfl, rvx.mv (sn.mv s1.ok), ⟨vy, _, rfl, rvy.mv (sn.mv s1.ok), rfl⟩⟩⟩
theorem pdi_zipL {a b : Expr} {ga gb : DE} {p pos tpos : Pos} {elts : List Expr} {x1 : Nat} (hg : Gl X "zip") (hm : X.mg "zip" = none) (ha : PDE X E a ga) (hb : PDE X E b gb) (hs : starEach [a, b] X.env = (false, eval a X.env) :: starEach [b] X.env := by rfl) (hs2 : (backTo pos (starEach [b] X.env)).any (·.1) = false := by rfl)
  (hst2 : starEach (b :: []) X.env = (false, eval b X.env) :: starEach [] X.env := by rfl) : PDI X E (.Tuple elts x1 tpos) (.Call (.Name "zip" p) [a, b] [] pos) (itA zipLD (yF ga (yF gb aNil))) := by
 try unfold PDE
 try unfold PDI at *
 intro pins s σ H R I ⟨W, δ, rr, hS, hδ, hg', hA⟩
 refine pi_zipL hg hm (zB ha (zB hb zE hst2) hs).o hs hs2 pins s σ H R I (Go.thn hS hδ hg' hA fun ds H1 W1 s1 hδ1 hg1 hA1 vs rv => ?_)
 unfold zipLD at hg1
 split at hg1
 ·rename_i xs ys
  obtain rfl : Rs.ok (Src.fix (pairsD xs ys)) W1.S = rr := Option.some.inj hg1
  obtain ⟨v, r, e, rx, t⟩ := rv
  obtain ⟨v2, r2, e2, ry, t2⟩ := t
  have t2 : r2 = [] := t2
  obtain ⟨a, us, ea, qa, ra⟩ := rx
  obtain ⟨b, ws, eb, qb, rb⟩ := ry
  subst e e2 ea eb t2
  exact ⟨a, b, rfl, .inr ⟨⟨us, qa⟩, ⟨ws, qb⟩, hA1.now s1.ok _ (walks_zipT s1.ok qa qb ra rb)⟩⟩
 ·unfold zip2D at hg1
  split at hg1
  ·rename_i a b _
   split at hg1
   ·rename_i xs ys ea eb
    obtain rfl : Rs.ok (Src.two a b) W1.S = rr := Option.some.inj hg1
    obtain ⟨v, r, e, rx, t⟩ := rv
    obtain ⟨v2, r2, e2, ry, t2⟩ := t
    have t2 : r2 = [] := t2
    obtain ⟨us, eu, qu, _⟩ := s1.ok.lst rx ea
    obtain ⟨ws, ew, qw, _⟩ := s1.ok.lst ry eb
    subst e e2 eu ew t2
    exact ⟨_, _, rfl, .inl ⟨⟨us, .inl (.inl qu)⟩, ⟨ws, .inl (.inl qw)⟩, hA1.now s1.ok _ (walks_zip rx.1 ry.1)⟩⟩
   ·cases hg1
  ·cases hg1
end
end Np
end
section
namespace L2
open PySem PySem.Spec PyProof.Rows
section
variable {prog : Program} {w : World} {A : Around} {E : Value → Shared → Prop} {s : Shared}
theorem bounds_whole (n : Nat) : sliceBounds none none none n = ((0 : Int), (n : Int), 1) := by
 simp only [sliceBounds, Option.getD_none]
 simp
theorem setItem_whole {l b sl : Addr} {items new : Array Value} {n n2 : Nat} {vl vu : Value} {Q : Unit → Shared → Prop}
    (e : s.heap.get? l = some { cls := .type "list", data := .seq items n }) (e2 : s.heap.get? b = some { cls := .type "list", data := .seq new n2 }) (hne : l ≠ b)
    (hs : s.heap.IsSliceOf sl vl vu .none) (pl : IsPart vl none) (pu : IsPart vu none)
    (hsz : items.size + new.size ≤ sizeLine) (h : Q () { s with heap := s.heap.update l (Obj.mapSeq fun xs => xs.extract 0 0 ++ new ++ xs.extract items.size xs.size) }) :
    wpAny (model prog w) A (setItem (.ref l) (.ref sl) (.ref b)) Q E s := by
  have hl : s.heap.IsList l items := PySem.IsL.isList e
  have hb : s.heap.IsList b new := PySem.IsL.isList e2
  obtain ⟨os, hos, hcs, hds⟩ := id hs
  have hTs : s.TypeIs (.ref sl) "slice" := ⟨os, hos, hcs⟩
  have hstep : ¬ ((rawPart none == rawInt 0) = true) := Bool.false_ne_true
  have hsame : Builtin.List.listSameRef (.ref l) (.ref b) = false := by
    unfold Builtin.List.listSameRef
    exact beq_eq_false_iff_ne.mpr hne
  have hmax : (max (0 : Int) (items.size : Int)).toNat = items.size := by omega
  have hz' : ((fun xs : Array Value => xs.extract 0 0 ++ new ++ xs.extract items.size xs.size) items).size ≤ sizeLine + 1 := by
    simp only [Array.size_append, Array.size_extract]
    omega
  unfold setItem
  try with_reducible refine wpAny_holding ?_
  first | refine wpAny_bind (wpAny_pure ?_) | skip
  refine wpAny_bind (wpAny_sequenceKey hl.typeIs (by decide) ?_)
  refine wpAny_bind (wpAny_callSpecial?_slot (name := Str.ofString "__setitem__") hl.typeIs slot_list_setitem
    (wpAny_call_entry slot_list_setitem hl.typeIs entry_list_setitem ?_ (args_list_setitem _ _ _)))
  show wpAny _ _ (Builtin.List.listSubscript? (.ref sl) >>= _) _ _ s
  refine wpAny_bind ?_
  unfold Builtin.List.listSubscript?
  refine wpAny_bind (wpAny_specialOf hTs slice_no_index ?_)
  simp only [Option.isNone_none, if_true]
  refine wpAny_pure ?_
  show wpAny _ _ (typeOf (.ref sl) >>= _) _ _ s
  refine wpAny_bind (wpAny_typeOf hTs ?_)
  first
    | rw [if_neg (by decide)]
    | refine PySem.W.KFB.if_not (by decide) ?_
  rw [listSliceParts_eq]
  refine wpAny_bind (wpAny_bind (wpAny_field hos hds (x := .none) rfl (wpAny_bind (wpAny_listPart .none ?_))))
  rw [if_neg hstep]
  refine wpAny_bind (wpAny_field hos hds (x := vl) rfl (wpAny_bind (wpAny_listPart pl ?_)))
  refine wpAny_bind (wpAny_field hos hds (x := vu) rfl (wpAny_bind (wpAny_listPart pu (wpAny_pure ?_))))
  first
    | simp only [hsame, Bool.false_eq_true, if_false]
    | refine PySem.W.KFB.if_not hsame ?_
    | (dsimp only
       rw [if_neg (by rw [hsame]; exact Bool.false_ne_true)])
  refine wpAny_bind (m := Builtin.List.listAllItems (.ref b) "must assign iterable to extended slice") ?_
  unfold Builtin.List.listAllItems
  refine wpAny_bind (wpAny_typeOf hb.typeIs ?_)
  first
    | refine PySem.W.KFB.if_so (by decide) ?_
    | rw [if_pos (by decide)]
    | simp only [beq_self_eq_true, Bool.true_or, if_true]
  unfold Builtin.List.listItems
  refine wpAny_bind (wpAny_seqItems e2 rfl (wpAny_pure ?_))
  refine wpAny_bind (wpAny_bind (wpAny_seqItems e rfl (wpAny_pure ?_)))
  refine wpAny_bind (wpAny_of_eq ((sliceIndices_raw none none none items.size (by simp)).trans (congrArg (pure : Int × Int × Int → Sem (Int × Int × Int)) (bounds_whole items.size))) ?_)
  show wpAny _ _ (if ((1 : Int) == 1) = true then _ else _) _ _ s
  rw [if_pos (by decide)]
  refine wpAny_bind (wpAny_rule ?_)
  first
    | simp only [notLongL hsz, Bool.false_eq_true, if_false]
    | refine PySem.W.KFB.if_not (notLongL hsz) ?_
  first | refine wpAny_bind (wpAny_pure ?_) | skip
  show wpAny _ _ (updateSeq l (fun xs => xs.extract 0 ((0 : Int)).toNat ++ new ++ xs.extract (max (0 : Int) (items.size : Int)).toNat xs.size) >>= _) _ _ s
  rw [hmax, show (0 : Int).toNat = 0 from rfl]
  refine wpAny_bind (wpAny_updateSeq (hz := Nat.le_trans (Nat.le_add_right _ _) hsz) (_hz' := hz') e rfl ?_)
  refine wpAny_bind (wpAny_letGo ?_)
  first
    | exact wpAny_bind (wpAny_pure (wpAny_pure ⟨.none, rfl, wpAny_pure h⟩))
    | exact wpAny_pure ⟨.none, rfl, wpAny_pure h⟩
end
section
variable {X : Cx}
theorem set_whole {pins : List (Addr × Obj)} {s : Shared} {σ : St} {H : Hp} {l b sl : Addr} {xs ys : List V} {Q : Unit → Shared → Prop} (I : Inv X pins σ H s)
  (hH : H l = some (.lst xs)) (hB : H b = some (.lst ys)) (hne : l ≠ b) (hs : s.heap.IsSliceOf sl .none .none .none)
  (hz : xs.length + ys.length ≤ sizeLine) (h : ∀ s', Inv X pins σ (upd H l (.lst ys)) s' → Q () s') :
  wpAny (model X.prog X.w) X.A (setItem (.ref l) (.ref sl) (.ref b)) Q X.xe s := by
 obtain ⟨z, its, n, r, hl, e⟩ := I.lstM hH
 obtain ⟨z2, its2, n2, r2, hl2, e2⟩ := I.lstM hB
 refine setItem_whole e e2 hne hs .none .none (by rw [List.size_toArray, List.size_toArray]; omega) (h _ ?_)
 refine I.lset (its' := its2) (t' := s.toks) hH e ?_ r2 (by omega)
 have := splice_eq its its2 0 its.length
 rw [List.size_toArray] at this ⊢
 rw [this]
 simp
theorem pg_whole {o : Expr} {to : TE} {p2 pos : Pos} (ho : PE X o to) (ha : ∀ v, assign (.Subscript o (.Slice none none none p2) pos) X.env v = (do
   let ov ← holding [v] (eval o X.env)
   let iv ← holding [v, ov] (eval (.Slice none none none p2) X.env)
   standAt pos
   holding [v, ov, iv] (setItem ov iv v)
   release [iv, v, ov] []) := by intro _; rfl) : PG X (.Subscript o (.Slice none none none p2) pos) (fun v σ H Q => to σ H fun x H1 => ∃ l b xs ys, x = .ref l ∧ v = .ref b ∧ H1 l = some (.lst xs) ∧ H1 b = some (.lst ys) ∧ l ≠ b ∧ xs.length + ys.length ≤ sizeLine ∧ Q σ (upd H1 l (.lst ys))) := by
 intro pins s σ H v u Q I r h
 rw [ha]
 refine wpAny_bind (wpAny_holding (thn (ho pins s σ H _ I h) fun ov s1 ⟨x, H1, I1, r1, q1⟩ => ?_))
 obtain ⟨l, b, xs, ys, rfl, rfl, h1, h2, h3, h4, q⟩ := q1
 cases r
 cases r1
 refine wpAny_bind (wpAny_holding (wpAny_Slice ?_))
 rw [evalPart_none]
 refine wpAny_pure (wpAny_pure (wpAny_pure ?_))
 have I2 : Inv X pins σ H1 { s1 with heap := s1.heap.push { cls := .type "slice", data := .fields #[.none, .none, .none] } } := I1.kept (t' := s1.toks) fun b ob q => Heap.get?_push_of_some _ q
 refine wpAny_bind (wpAny_standAt (wpAny_bind (wpAny_holding (set_whole I2 h1 h2 h3 (Heap.IsSliceOf.new ..) h4 fun s3 I3 => ?_))))
 exact wpAny_release ⟨σ, _, I3, q⟩
end
end L2
namespace Np
open PySem PySem.Spec PyProof.Rows L2
section
variable {X : Cx} {E : XK} {o : Expr} {go : DE}
theorem pdg_whole {p2 pos : Pos} (ho : PDE X E o go) (ha : ∀ v, assign (.Subscript o (.Slice none none none p2) pos) X.env v = (do
   let ov ← holding [v] (eval o X.env)
   let iv ← holding [v, ov] (eval (.Slice none none none p2) X.env)
   standAt pos
   holding [v, ov, iv] (setItem ov iv v)
   release [iv, v, ov] []) := by intro _; rfl) : PDG X E (.Subscript o (.Slice none none none p2) pos) (setWG go) := by
 try unfold PDE at *
 try unfold PDG at *
 intro pins s σ H v u Q I rv h
 obtain ⟨W, δ, d, rr, hS, hδ, hd, hg, hA⟩ := h
 refine pg_whole ho ha pins s σ H v u Q I rv ?_
 refine Go.thn hS hδ hg hA fun dx H1 W1 s1 hδ1 hg1 hA1 x rx => ?_
 have rd1 := Rep.mv (s1.mv hS) hd
 unfold setWA at hg1
 split at hg1
 ·rename_i a b
  split at hg1
  ·rename_i xs ys hx hy
   split at hg1
   ·rename_i hc
    obtain ⟨c1, c2, c3⟩ := hc
    obtain rfl : Rs.ok δ (W1.S.set a (.lst ys)) = rr := Option.some.inj hg1
    obtain ⟨us, ex, hq, rl⟩ := s1.ok.lst rx hx
    obtain ⟨ws, ew, hw, rw'⟩ := s1.ok.lst rd1 hy
    have l1 := rl.length
    have l2 := rw'.length
    refine ⟨_, _, us, ws, ex, ew, hq, hw, fun e => c1 (s1.ok.inj _ _ rx.1 rd1.1 e), ?_, ?_⟩
    ·have : 2000000 ≤ sizeLine := by decide
     omega
    ·have nx : Nxt (gx X) H1 W1 (upd H1 (W1.μ a) (.lst ws)) (W1.put a (.lst ys)) := Nxt.write s1.ok rx.1 ⟨_, zW, rw'.mv (Mv.put s1.ok rx.1 _ _)⟩
     exact hA1 _ _ rfl nx σ (hδ1.mv (nx.mv s1.ok))
   ·cases hg1
  ·cases hg1
 ·cases hg1
end
end Np
end
section
namespace Np
open PySem
@[irreducible] def W {α : Type} (m : R α) (Q : α → Sto → Prop) : Prop := match m with
 | some (.ok a S) => Q a S
 | some (.er _ _) => False
 | none => False
theorem W_ok {α : Type} (a : α) (S : Sto) (Q : α → Sto → Prop) : W (some (.ok a S)) Q = Q a S := by with_unfolding_all exact rfl
theorem W.out {α : Type} {m : R α} {Q : α → Sto → Prop} (h : W m Q) : ∃ a S, m = some (.ok a S) ∧ Q a S := by
 unfold W at h
 cases m with
 | none => exact h.elim
 | some r =>
  cases r with
  | ok a S => exact ⟨a, S, rfl, h⟩
  | er c S => exact h.elim
theorem W_bnd {α β : Type} (m : R α) (k : α → Sto → R β) (Q : β → Sto → Prop) : W (bnd m k) Q = W m (fun a S => W (k a S) Q) := by
 unfold W
 cases m with
 | none => rfl
 | some r => cases r <;> rfl
theorem W.mono {α : Type} {m : R α} {Q Q' : α → Sto → Prop} (h : W m Q) (hi : ∀ a S, Q a S → Q' a S) : W m Q' := by
 unfold W at h ⊢
 cases m with
 | none => exact h
 | some r =>
  cases r with
  | ok a S => exact hi a S h
  | er c S => exact h
theorem W.intro {α : Type} {m : R α} {Q : α → Sto → Prop} {a : α} {S : Sto} (e : m = some (.ok a S)) (q : Q a S) : W m Q := by
 subst e
 rw [W_ok]
 exact q
theorem ifEK_t (a b : DE) (δ : DS) (S : Sto) : ifEK a b δ true S = a δ S := rfl
theorem ifEK_f (a b : DE) (δ : DS) (S : Sto) : ifEK a b δ false S = b δ S := rfl
theorem andTK_t (b : DT) (δ : DS) (S : Sto) : andTK b δ true S = b δ S := rfl
theorem andTK_f (b : DT) (δ : DS) (S : Sto) : andTK b δ false S = ok false S := rfl
theorem orTK_t (b : DT) (δ : DS) (S : Sto) : orTK b δ true S = ok true S := rfl
theorem orTK_f (b : DT) (δ : DS) (S : Sto) : orTK b δ false S = b δ S := rfl
theorem andVB_t (b : DE) (δ : DS) (S : Sto) : andVB b δ true S = b δ S := rfl
theorem andVB_f (b : DE) (δ : DS) (S : Sto) : andVB b δ false S = ok (.bl false) S := rfl
theorem orVB_t (b : DE) (δ : DS) (S : Sto) : orVB b δ true S = ok (.bl true) S := rfl
theorem orVB_f (b : DE) (δ : DS) (S : Sto) : orVB b δ false S = b δ S := rfl
theorem chnB_t (g : D → D → Sto → R D) (b : DE) (δ : DS) (y : D) (S : Sto) : chnB g b δ y true S = bnd (b δ S) (g y) := rfl
theorem chnB_f (g : D → D → Sto → R D) (b : DE) (δ : DS) (y : D) (S : Sto) : chnB g b δ y false S = ok (.bl false) S := rfl
def outQ (Q : D → Sto → Prop) : Fl → Sto → Prop
 | .nx _, S => Q .non S
 | .rt d, S => Q d S
 | .bk _, _ => False
 | .ct _, _ => False
theorem W_outF (m : R Fl) (Q : D → Sto → Prop) : W (outF m) Q = W m (outQ Q) := by
 unfold W
 cases m with
 | none => rfl
 | some r =>
  cases r with
  | er c S => rfl
  | ok f S => cases f <;> rfl
theorem W_ifK (a b : DSt) (δ : DS) (c : Bool) (S : Sto) (Q : Fl → Sto → Prop) : W (ifK a b δ c S) Q = if c = true then W (a δ S) Q else W (b δ S) Q := by cases c <;> rfl
theorem W_ifEK (a b : DE) (δ : DS) (c : Bool) (S : Sto) (Q : D → Sto → Prop) : W (ifEK a b δ c S) Q = if c = true then W (a δ S) Q else W (b δ S) Q := by cases c <;> rfl
theorem W_andTK (b : DT) (δ : DS) (c : Bool) (S : Sto) (Q : Bool → Sto → Prop) : W (andTK b δ c S) Q = if c = true then W (b δ S) Q else Q false S := by cases c <;> first | rfl | exact W_ok ..
theorem W_orTK (b : DT) (δ : DS) (c : Bool) (S : Sto) (Q : Bool → Sto → Prop) : W (orTK b δ c S) Q = if c = true then Q true S else W (b δ S) Q := by cases c <;> first | rfl | exact W_ok ..
theorem W_andVB (b : DE) (δ : DS) (c : Bool) (S : Sto) (Q : D → Sto → Prop) : W (andVB b δ c S) Q = if c = true then W (b δ S) Q else Q (.bl false) S := by cases c <;> first | rfl | exact W_ok ..
theorem W_orVB (b : DE) (δ : DS) (c : Bool) (S : Sto) (Q : D → Sto → Prop) : W (orVB b δ c S) Q = if c = true then Q (.bl true) S else W (b δ S) Q := by cases c <;> first | rfl | exact W_ok ..
theorem W_chnB (g : D → D → Sto → R D) (b : DE) (δ : DS) (y : D) (c : Bool) (S : Sto) (Q : D → Sto → Prop) : W (chnB g b δ y c S) Q = if c = true then W (bnd (b δ S) (g y)) Q else Q (.bl false) S := by cases c <;> first | rfl | exact W_ok ..
def SLe (S S' : Sto) : Prop := ∃ X, S' = S ++ X
theorem SLe.rfl {S : Sto} : SLe S S := ⟨[], by simp⟩
theorem SLe.trans {S S' S'' : Sto} (h : SLe S S') (k : SLe S' S'') : SLe S S'' := by
 obtain ⟨X, rfl⟩ := h
 obtain ⟨Y, rfl⟩ := k
 exact ⟨X ++ Y, by simp⟩
theorem SLe.push {S S' : Sto} (o : O) (h : SLe S S') : SLe S (S' ++ [o]) := h.trans ⟨[o], by rfl⟩
theorem SLe.app {S : Sto} (X : Sto) : SLe S (S ++ X) := ⟨X, by rfl⟩
theorem SLe.len {S S' : Sto} (h : SLe S S') : S.length ≤ S'.length := by
 obtain ⟨X, rfl⟩ := h
 simp
theorem SLe.get {S S' : Sto} (h : SLe S S') {a : Nat} (ha : a < S.length) : S'[a]? = S[a]? := by
 obtain ⟨X, rfl⟩ := h
 exact List.getElem?_append_left ha
theorem SLe.set {S S' : Sto} (h : SLe S S') {a : Nat} (ha : S.length ≤ a) (o : O) : SLe S (S'.set a o) := by
 obtain ⟨X, rfl⟩ := h
 exact ⟨X.set (a - S.length) o, by rw [List.set_append_right _ _ ha]⟩
theorem lstAt_lt {S : Sto} {a : Nat} {xs : List D} (h : zH S a = some xs) : a < S.length := by
 unfold zH at h
 split at h
 ·rename_i e
  exact (List.getElem?_eq_some_iff.mp e).1
 ·cases h
theorem lstAt_eq {S S' : Sto} {a : Nat} (h : S'[a]? = S[a]?) : zH S' a = zH S a := by unfold zH; rw [h]
theorem SLe.lst {S S' : Sto} (h : SLe S S') {a : Nat} {xs : List D} (e : zH S a = some xs) : zH S' a = some xs := by
 rw [lstAt_eq (h.get (lstAt_lt e))]
 exact e
@[simp] theorem lstAt_push (S : Sto) (xs : List D) : zH (S ++ [.lst xs]) S.length = some xs := by simp [zH]
theorem lstAt_set {S : Sto} {a : Nat} {xs ys : List D} (h : zH S a = some xs) : zH (S.set a (.lst ys)) a = some ys := by
 unfold zH
 rw [List.getElem?_set_self (lstAt_lt h)]
theorem lstAt_set_ne {S : Sto} {a b : Nat} {o : O} (h : a ≠ b) : zH (S.set a o) b = zH S b := lstAt_eq (List.getElem?_set_ne h)
def loopQ (Q : Fl → Sto → Prop) (J : DS → Sto → Prop) : Fl → Sto → Prop
 | .nx δ, S => J δ S
 | .ct δ, S => J δ S
 | .bk δ, S => Q (.nx δ) S
 | .rt d, S => Q (.rt d) S
theorem W_for {src : Src} {g : DG} {b : DSt} {Q : Fl → Sto → Prop} (xs : List D) (I : Nat → DS → Sto → Prop)
  (hs : ∀ i δ S, I i δ S → src.get S i = some xs[i]?)
  (step : ∀ i x δ S, xs[i]? = some x → I i δ S → W (g x δ S) fun δ' S' => W (b δ' S') (loopQ Q (I (i + 1))))
  (fin : ∀ δ S, I xs.length δ S → Q (.nx δ) S) : ∀ n i δ S, i ≤ xs.length → xs.length ≤ i + n → I i δ S → W (forD src g b n i δ S) Q
 | 0, i, δ, S, hi, hn, h => by
  have e : i = xs.length := by omega
  have hg := hs i δ S h
  rw [List.getElem?_eq_none (by omega)] at hg
  unfold forD
  rw [hg, W_ok]
  subst e
  exact fin δ S h
 | n + 1, i, δ, S, hi, hn, h => by
  have hg := hs i δ S h
  unfold forD
  rw [hg]
  cases q : xs[i]? with
  | none =>
   have e : i = xs.length := by have := List.getElem?_eq_none_iff.mp q; omega
   subst e
   show W (some (.ok (Fl.nx δ) S)) Q
   rw [W_ok]
   exact fin δ S h
  | some x =>
   have hlt : i < xs.length := (List.getElem?_eq_some_iff.mp q).1
   show W (bnd (g x δ S) (turnK b (forD src g b n (i + 1)))) Q
   rw [W_bnd]
   refine (step i x δ S q h).mono fun δ' S' h' => ?_
   unfold turnK
   rw [W_bnd]
   refine h'.mono fun f S'' h'' => ?_
   cases f with
   | nx δ2 => exact W_for xs I hs step fin n (i + 1) δ2 S'' hlt (by omega) h''
   | ct δ2 => exact W_for xs I hs step fin n (i + 1) δ2 S'' hlt (by omega) h''
   | bk δ2 => exact W.intro rfl h''
   | rt d => exact W.intro rfl h''
theorem W_forK {src : Src} {g : DG} {b : DSt} {Q : Fl → Sto → Prop} {δ : DS} {S : Sto} (xs : List D) (I : Nat → DS → Sto → Prop) (hl : xs.length ≤ src.len S) (h0 : I 0 δ S)
  (hs : ∀ i δ S, I i δ S → src.get S i = some xs[i]?)
  (step : ∀ i x δ S, xs[i]? = some x → I i δ S → W (g x δ S) fun δ' S' => W (b δ' S') (loopQ Q (I (i + 1))))
  (fin : ∀ δ S, I xs.length δ S → Q (.nx δ) S) : W (forK g b δ src S) Q :=
 W_for xs I hs step fin _ 0 δ S (Nat.zero_le _) (by omega) h0
theorem W_while {t : DT} {b : DSt} {Q : Fl → Sto → Prop} (I : DS → Sto → Prop) (μ : DS → Sto → Nat)
  (step : ∀ δ S, I δ S → W (t δ S) fun c S' => if c = true then W (b δ S') (loopQ Q fun δ2 S2 => I δ2 S2 ∧ μ δ2 S2 < μ δ S) else Q (.nx δ) S') : ∀ n δ S, μ δ S < n → I δ S → W (whileD t b n δ S) Q
 | 0, _, _, h, _ => by omega
 | n + 1, δ, S, h, hI => by
  unfold whileD
  rw [W_bnd]
  refine (step δ S hI).mono fun c S' h' => ?_
  cases c with
  | false => exact W.intro rfl (by simpa using h')
  | true =>
   rw [if_pos rfl] at h'
   show W (bnd (b δ S') (loopK (whileD t b n))) Q
   rw [W_bnd]
   refine h'.mono fun f S2 h2 => ?_
   cases f with
   | nx δ2 => exact W_while I μ step n δ2 S2 (Nat.lt_of_lt_of_le h2.2 (by omega)) h2.1
   | ct δ2 => exact W_while I μ step n δ2 S2 (Nat.lt_of_lt_of_le h2.2 (by omega)) h2.1
   | bk δ2 => exact W.intro rfl h2
   | rt d => exact W.intro rfl h2
theorem W_whileS {t : DT} {b : DSt} {Q : Fl → Sto → Prop} {δ : DS} {S : Sto} (I : DS → Sto → Prop) (μ : DS → Sto → Nat) (h0 : I δ S)
  (step : ∀ δ S, I δ S → W (t δ S) fun c S' => if c = true then W (b δ S') (loopQ Q fun δ2 S2 => I δ2 S2 ∧ μ δ2 S2 < μ δ S) else Q (.nx δ) S') : W (whileS t b δ S) Q := by
 obtain ⟨f, S', e, q⟩ := (W_while I μ step (μ δ S + 1) δ S (Nat.lt_succ_self _) h0).out
 exact W.intro (whileS_of e) q
def Tg (g : DG) (k : Nat) (vals : D → List (Option D)) (base : DS) (P : D → Prop) : Prop := ∀ x os S, os.length = k → P x → g x (base ++ os) S = ok (base ++ vals x) S ∧ (vals x).length = k
theorem W_compD {src : Src} {g : DG} {e : DE} {base : DS} {k : Nat} {vals : D → List (Option D)} {Q : List D → Sto → Prop} (xs : List D) (I : Nat → List D → Sto → Prop) (P : D → Prop) (hP : ∀ x ∈ xs, P x) (hg : Tg g k vals base P)
  (hs : ∀ i acc S, I i acc S → src.get S i = some xs[i]?)
  (step : ∀ i x acc S, xs[i]? = some x → acc.length = i → I i acc S → W (e (base ++ vals x) S) fun d S' => I (i + 1) (acc ++ [d]) S')
  (fin : ∀ acc S, I xs.length acc S → acc.length = xs.length → Q acc S) : ∀ n i acc os S, os.length = k → acc.length = i → i ≤ xs.length → xs.length ≤ i + n → I i acc S → W (compD src g e n i (base ++ os) S) fun ds S' => Q (acc ++ ds) S'
 | 0, i, acc, os, S, ho, ha, hi, hn, h => by
  have e : i = xs.length := by omega
  have hg := hs i acc S h
  rw [List.getElem?_eq_none (by omega)] at hg
  unfold compD
  rw [hg, W_ok, List.append_nil]
  subst e
  exact fin acc S h ha
 | n + 1, i, acc, os, S, ho, ha, hi, hn, h => by
  have hgt := hs i acc S h
  unfold compD
  rw [hgt]
  cases q : xs[i]? with
  | none =>
   have e : i = xs.length := by have := List.getElem?_eq_none_iff.mp q; omega
   subst e
   show W (some (.ok [] S)) _
   rw [W_ok, List.append_nil]
   exact fin acc S h ha
  | some x =>
   have hlt : i < xs.length := (List.getElem?_eq_some_iff.mp q).1
   show W (bnd (g x (base ++ os) S) (compK e (compD src g e n (i + 1)))) _
   obtain ⟨e1, e2⟩ := hg x os S ho (hP x (List.mem_of_getElem? q))
   rw [e1, bnd_ok]
   unfold compK
   rw [W_bnd]
   refine (step i x acc S q ha h).mono fun d S' h' => ?_
   unfold compK2
   rw [W_bnd]
   refine (W_compD xs I P hP hg hs step fin n (i + 1) (acc ++ [d]) (vals x) S' e2 (by simp [ha]) hlt (by omega) h').mono fun ds S2 h2 => ?_
   unfold consK
   rw [W_ok]
   simpa using h2
theorem W_noer {α : Type} (m : R α) (Q : α → Sto → Prop) : W (noer m) Q = W m Q := by
 unfold W
 cases m with
 | none => rfl
 | some r => cases r <;> rfl
theorem W_compE {it : DI} {g : DG} {e : DE} {base : DS} {k : Nat} {S : Sto} {Q : D → Sto → Prop} (vals : D → List (Option D)) (xs : List D) (I : Nat → List D → Sto → Prop) (P : D → Prop) (hP : ∀ x ∈ xs, P x) (hg : Tg g k vals base P)
  (hit : W (it base S) fun src S' => xs.length ≤ src.len S' ∧ src.len S' ≤ 1000000 ∧ I 0 [] S' ∧ ∀ i acc S, I i acc S → src.get S i = some xs[i]?)
  (step : ∀ i x acc S, xs[i]? = some x → acc.length = i → I i acc S → W (e (base ++ vals x) S) fun d S' => I (i + 1) (acc ++ [d]) S')
  (fin : ∀ acc S, I xs.length acc S → acc.length = xs.length → Q (.ref S.length) (S ++ [.lst acc])) : W (compE it k g e base S) Q := by
 unfold compE
 rw [W_bnd]
 refine hit.mono fun src S' ⟨h1, h2, h3, h4⟩ => ?_
 unfold compL
 rw [if_pos h2, W_bnd, W_noer]
 refine (W_compD (Q := fun ds S => Q (.ref S.length) (S ++ [.lst ds])) xs I P hP hg h4 step fin _ 0 [] (List.replicate k none) S' (by simp) rfl (Nat.zero_le _) (by omega) h3).mono fun ds S2 h => ?_
 exact W.intro rfl (by simpa using h)
theorem tg_one (base : DS) : Tg (setG base.length) 1 (fun x => [some x]) base fun _ => True := fun x os S ho _ => by
 match os, ho with
 | [o], _ => exact ⟨by show ok ((base ++ [o]).set base.length (some x)) S = _; simp, rfl⟩
def pr1 : D → Option D
 | .tup (x :: _) => some x
 | _ => none
def pr2 : D → Option D
 | .tup (_ :: y :: _) => some y
 | _ => none
theorem tg_two (base : DS) : Tg (tupG [setG base.length, setG (base.length + 1)]) 2 (fun x => [pr1 x, pr2 x]) base fun x => ∃ p q, x = .tup [p, q] := fun x os S ho hp => by
 obtain ⟨p, q, rfl⟩ := hp
 match os, ho with
 | [o, o'], _ => exact ⟨by simp [tupG, tupGs, setG, pr1, pr2, List.set_append_right], rfl⟩
end Np
end
section
open Np PySem
noncomputable section
def Den.greatest_common : DSt :=
 (seqS (setS 2 (vr 0)) (seqS (setS 3 (vr 1)) (seqS (whileS (tv (op2 neD (vr 3) (cst (.int 0)))) (seqS (setS 4 (op2 modD (vr 2) (vr 3))) (seqS (setS 2 (vr 3)) (setS 3 (vr 4))))) (retS (vr 2)))))
def F.greatest_common : List D → Sto → R D := fnF 5 2 Den.greatest_common
def Den.ratio : DSt :=
 (seqS (ifS (tv (op2 eqD (vr 1) (cst (.int 0)))) nevS nxS) (seqS (setS 2 (fnE F.greatest_common (yF (fnE absD (yF (vr 0) aNil)) (yF (fnE absD (yF (vr 1) aNil)) aNil)))) (seqS (ifS (tv (op2 ltD (vr 1) (cst (.int 0)))) (setS 2 (op1 negD (vr 2))) nxS) (retS (fnE tupD (yF (op2 fdivD (vr 0) (vr 2)) (yF (op2 fdivD (vr 1) (vr 2)) aNil)))))))
def F.ratio : List D → Sto → R D := fnF 3 2 Den.ratio
def Den.plus : DSt :=
 (retS (fnE F.ratio (yF (op2 addD (op2 mulD (op2 ixD (vr 0) (cst (.int 0))) (op2 ixD (vr 1) (cst (.int 1)))) (op2 mulD (op2 ixD (vr 1) (cst (.int 0))) (op2 ixD (vr 0) (cst (.int 1))))) (yF (op2 mulD (op2 ixD (vr 0) (cst (.int 1))) (op2 ixD (vr 1) (cst (.int 1)))) aNil))))
def F.plus : List D → Sto → R D := fnF 2 2 Den.plus
def Den.minus : DSt :=
 (retS (fnE F.ratio (yF (op2 subD (op2 mulD (op2 ixD (vr 0) (cst (.int 0))) (op2 ixD (vr 1) (cst (.int 1)))) (op2 mulD (op2 ixD (vr 1) (cst (.int 0))) (op2 ixD (vr 0) (cst (.int 1))))) (yF (op2 mulD (op2 ixD (vr 0) (cst (.int 1))) (op2 ixD (vr 1) (cst (.int 1)))) aNil))))
def F.minus : List D → Sto → R D := fnF 2 2 Den.minus
def Den.times : DSt :=
 (retS (fnE F.ratio (yF (op2 mulD (op2 ixD (vr 0) (cst (.int 0))) (op2 ixD (vr 1) (cst (.int 0)))) (yF (op2 mulD (op2 ixD (vr 0) (cst (.int 1))) (op2 ixD (vr 1) (cst (.int 1)))) aNil))))
def F.times : List D → Sto → R D := fnF 2 2 Den.times
def Den.k02_whole : DSt :=
 (retS (andV (op1 (isiD .int) (vr 0)) (notV (op1 (isiD .bool) (vr 0)))))
def F.k02_whole : List D → Sto → R D := fnF 1 1 Den.k02_whole
end
end
section
open Np PySem
noncomputable section
def Den.added : DSt :=
 (retS (compE (itA zip2D (yF (vr 0) (yF (vr 1) aNil))) 2 (tupG [(setG 2), (setG 3)]) (fnE F.plus (yF (vr 2) (yF (vr 3) aNil)))))
def F.added : List D → Sto → R D := fnF 2 2 Den.added
def Den.scaled : DSt :=
 (retS (compE (itE itL (vr 0)) 1 (setG 2) (fnE F.times (yF (vr 2) (yF (vr 1) aNil)))))
def F.scaled : List D → Sto → R D := fnF 2 2 Den.scaled
def Den.k11_cell_at : DSt :=
 (seqS (ifS (tv (op2 ltD (vr 1) (fnE lenD (yF (vr 0) aNil)))) (retS (op2 ixD (vr 0) (vr 1))) nxS) (retS (cst (.int 0))))
def F.k11_cell_at : List D → Sto → R D := fnF 2 2 Den.k11_cell_at
end
end
section
open Np PySem
noncomputable section
end
end
section
open Np PySem
noncomputable section
end
end
section
open Np PySem
noncomputable section
def Den.column_of : DSt :=
 (retS (compE (itE itL (vr 0)) 1 (setG 2) (op2 ixD (vr 2) (vr 1))))
def F.column_of : List D → Sto → R D := fnF 2 2 Den.column_of
def Den.turned : DSt :=
 (retS (compE (itA rng1D (yF (vr 1) aNil)) 1 (setG 2) (fnE F.column_of (yF (vr 0) (yF (vr 2) aNil)))))
def F.turned : List D → Sto → R D := fnF 2 2 Den.turned
end
end
section
open Np PySem
noncomputable section
end
end
section
open Np PySem
noncomputable section
def Den.is_ratio : DSt :=
 (seqS (ifS (orT (notT (tv (op1 (isiD .tup) (vr 0)))) (tv (op2 neD (fnE lenD (yF (vr 0) aNil)) (cst (.int 2))))) (retS (cst (.bl false))) nxS) (seqS (ifS (orT (notT (tv (fnE F.k02_whole (yF (op2 ixD (vr 0) (cst (.int 0))) aNil)))) (notT (tv (fnE F.k02_whole (yF (op2 ixD (vr 0) (cst (.int 1))) aNil))))) (retS (cst (.bl false))) nxS) (retS (andV (op2 geD (op2 ixD (vr 0) (cst (.int 1))) (cst (.int 1))) (op2 eqD (fnE F.greatest_common (yF (fnE absD (yF (op2 ixD (vr 0) (cst (.int 0))) aNil)) (yF (op2 ixD (vr 0) (cst (.int 1))) aNil))) (cst (.int 1)))))))
def F.is_ratio : List D → Sto → R D := fnF 1 1 Den.is_ratio
def Den.is_row_number : DSt :=
 (retS (andV (fnE F.k02_whole (yF (vr 0) aNil)) (chn leD ltD (cst (.int 0)) (vr 0) (vr 1))))
def F.is_row_number : List D → Sto → R D := fnF 2 2 Den.is_row_number
def Den.are_unlike_rows : DSt :=
 (retS (andV (fnE F.is_row_number (yF (vr 0) (yF (vr 2) aNil))) (andV (fnE F.is_row_number (yF (vr 1) (yF (vr 2) aNil))) (op2 neD (vr 0) (vr 1)))))
def F.are_unlike_rows : List D → Sto → R D := fnF 3 3 Den.are_unlike_rows
def Den.is_deed : DSt :=
 (seqS (ifS (orT (notT (tv (op1 (isiD .tup) (vr 0)))) (tv (op2 eqD (fnE lenD (yF (vr 0) aNil)) (cst (.int 0))))) (retS (cst (.bl false))) nxS) (seqS (setS 2 (op2 ixD (vr 0) (cst (.int 0)))) (seqS (ifS (notT (tv (op1 (isiD .str) (vr 2)))) (retS (cst (.bl false))) nxS) (seqS (ifS (tv (op2 eqD (vr 2) (cst (.str "swap")))) (retS (andV (op2 eqD (fnE lenD (yF (vr 0) aNil)) (cst (.int 3))) (fnE F.are_unlike_rows (yF (op2 ixD (vr 0) (cst (.int 1))) (yF (op2 ixD (vr 0) (cst (.int 2))) (yF (vr 1) aNil)))))) nxS) (seqS (ifS (tv (op2 eqD (vr 2) (cst (.str "scale")))) (retS (andV (op2 eqD (fnE lenD (yF (vr 0) aNil)) (cst (.int 3))) (andV (fnE F.is_row_number (yF (op2 ixD (vr 0) (cst (.int 1))) (yF (vr 1) aNil))) (andV (fnE F.is_ratio (yF (op2 ixD (vr 0) (cst (.int 2))) aNil)) (op2 neD (op2 ixD (vr 0) (cst (.int 2))) (cst (.tup [(.int 0), (.int 1)]))))))) nxS) (seqS (ifS (tv (op2 eqD (vr 2) (cst (.str "add")))) (retS (andV (op2 eqD (fnE lenD (yF (vr 0) aNil)) (cst (.int 4))) (andV (fnE F.are_unlike_rows (yF (op2 ixD (vr 0) (cst (.int 1))) (yF (op2 ixD (vr 0) (cst (.int 2))) (yF (vr 1) aNil)))) (fnE F.is_ratio (yF (op2 ixD (vr 0) (cst (.int 3))) aNil))))) nxS) (retS (cst (.bl false)))))))))
def F.is_deed : List D → Sto → R D := fnF 3 2 Den.is_deed
def Den.are_deeds : DSt :=
 (seqS (ifS (notT (tv (op1 (isiD .lst) (vr 0)))) (retS (cst (.bl false))) nxS) (retS (fnE allD (yF (compE (itE itL (vr 0)) 1 (setG 2) (fnE F.is_deed (yF (vr 2) (yF (vr 1) aNil)))) aNil))))
def F.are_deeds : List D → Sto → R D := fnF 2 2 Den.are_deeds
def Den.done_once : DSt :=
 (seqS (setS 2 (fnE lofD (yF (vr 0) aNil))) (seqS (setS 3 (op2 ixD (vr 1) (cst (.int 1)))) (seqS (ifS (tv (op2 eqD (op2 ixD (vr 1) (cst (.int 0))) (cst (.str "swap")))) (seqS (asgS (op2 ixD (vr 0) (op2 ixD (vr 1) (cst (.int 2)))) (setXG (vr 2) (vr 3))) (asgS (op2 ixD (vr 0) (vr 3)) (setXG (vr 2) (op2 ixD (vr 1) (cst (.int 2)))))) (ifS (tv (op2 eqD (op2 ixD (vr 1) (cst (.int 0))) (cst (.str "scale")))) (asgS (fnE F.scaled (yF (op2 ixD (vr 0) (vr 3)) (yF (op2 ixD (vr 1) (cst (.int 2))) aNil))) (setXG (vr 2) (vr 3))) (asgS (fnE F.added (yF (op2 ixD (vr 0) (vr 3)) (yF (fnE F.scaled (yF (op2 ixD (vr 0) (op2 ixD (vr 1) (cst (.int 2)))) (yF (op2 ixD (vr 1) (cst (.int 3))) aNil))) aNil))) (setXG (vr 2) (vr 3))))) (retS (vr 2)))))
def F.done_once : List D → Sto → R D := fnF 4 2 Den.done_once
def Den.done : DSt :=
 (seqS (ifS (notT (tv (fnE F.are_deeds (yF (vr 1) (yF (fnE lenD (yF (vr 0) aNil)) aNil))))) nevS nxS) (seqS (setS 2 (compE (itE itL (vr 0)) 1 (setG 4) (fnE lofD (yF (vr 4) aNil)))) (seqS (forS (itE itL (vr 1)) (setG 3) (setS 2 (fnE F.done_once (yF (vr 2) (yF (vr 3) aNil))))) (retS (vr 2)))))
def F.done : List D → Sto → R D := fnF 4 2 Den.done
end
end
section
open Np PySem
noncomputable section
def Den.over : DSt :=
 (retS (fnE F.ratio (yF (op2 mulD (op2 ixD (vr 0) (cst (.int 0))) (op2 ixD (vr 1) (cst (.int 1)))) (yF (op2 mulD (op2 ixD (vr 0) (cst (.int 1))) (op2 ixD (vr 1) (cst (.int 0)))) aNil))))
def F.over : List D → Sto → R D := fnF 2 2 Den.over
end
end
section
open Np PySem
noncomputable section
def Den.row_with_thing : DSt :=
 (seqS (forS (itA rng2D (yF (vr 1) (yF (fnE lenD (yF (vr 0) aNil)) aNil))) (setG 3) (ifS (tv (op2 neD (op2 ixD (op2 ixD (vr 0) (vr 3)) (vr 2)) (cst (.tup [(.int 0), (.int 1)])))) (retS (vr 3)) nxS)) (retS (cst .non)))
def F.row_with_thing : List D → Sto → R D := fnF 4 3 Den.row_with_thing
def Den.clearing_deeds : DSt :=
 (seqS (setS 4 (fnE lstD aNil)) (seqS (ifS (tv (op2 neD (vr 2) (vr 1))) (dropS (opM appD (vr 4) (fnE tupD (yF (cst (.str "swap")) (yF (vr 1) (yF (vr 2) aNil)))))) nxS) (seqS (setS 5 (op2 ixD (op2 ixD (vr 0) (vr 2)) (vr 3))) (seqS (ifS (tv (op2 neD (vr 5) (cst (.tup [(.int 1), (.int 1)])))) (dropS (opM appD (vr 4) (fnE tupD (yF (cst (.str "scale")) (yF (vr 1) (yF (fnE F.over (yF (cst (.tup [(.int 1), (.int 1)])) (yF (vr 5) aNil))) aNil)))))) nxS) (seqS (forS (itA enumD (yF (vr 0) aNil)) (tupG [(setG 6), (setG 7)]) (ifS (andT (tv (op2 neD (vr 6) (vr 1))) (andT (tv (op2 neD (vr 6) (vr 2))) (tv (op2 neD (op2 ixD (vr 7) (vr 3)) (cst (.tup [(.int 0), (.int 1)])))))) (dropS (opM appD (vr 4) (fnE tupD (yF (cst (.str "add")) (yF (vr 6) (yF (vr 1) (yF (fnE F.minus (yF (cst (.tup [(.int 0), (.int 1)])) (yF (op2 ixD (vr 7) (vr 3)) aNil))) aNil))))))) nxS)) (retS (vr 4)))))))
def F.clearing_deeds : List D → Sto → R D := fnF 8 4 Den.clearing_deeds
def Den.reduced : DSt :=
 (seqS (setS 2 (compE (itE itL (vr 0)) 1 (setG 9) (fnE lofD (yF (vr 9) aNil)))) (seqS (setS 3 (fnE lstD aNil)) (seqS (setS 4 (fnE lstD aNil)) (seqS (forS (itA rng1D (yF (vr 1) aNil)) (setG 5) (seqS (setS 6 (fnE lenD (yF (vr 4) aNil))) (seqS (setS 7 (fnE F.row_with_thing (yF (vr 2) (yF (vr 6) (yF (vr 5) aNil))))) (seqS (ifS (tv (op2 isND (vr 7) (cst .non))) cntS nxS) (seqS (setS 8 (fnE F.clearing_deeds (yF (vr 2) (yF (vr 6) (yF (vr 7) (yF (vr 5) aNil)))))) (seqS (setS 2 (fnE F.done (yF (vr 2) (yF (vr 8) aNil)))) (seqS (dropS (opM extD (vr 3) (vr 8))) (dropS (opM appD (vr 4) (vr 5)))))))))) (retS (fnE tupD (yF (vr 3) (yF (vr 2) (yF (vr 4) aNil)))))))))
def F.reduced : List D → Sto → R D := fnF 9 2 Den.reduced
end
end
section
open Np PySem
noncomputable section
end
end
section
open Np PySem
noncomputable section
end
end
section
open Np PySem
noncomputable section
end
end
section
open Np PySem
noncomputable section
end
end
section
open Np PySem
noncomputable section
end
end
section
open Np PySem
noncomputable section
end
end
section
open Np PySem
noncomputable section
end
end
section
open Np PySem
noncomputable section
def Den.less : DSt :=
 (retS (op2 ltD (op2 mulD (op2 ixD (vr 0) (cst (.int 0))) (op2 ixD (vr 1) (cst (.int 1)))) (op2 mulD (op2 ixD (vr 1) (cst (.int 0))) (op2 ixD (vr 0) (cst (.int 1))))))
def F.less : List D → Sto → R D := fnF 2 2 Den.less
def DenX.ratio : DSt :=
 (seqS (ifS (tv (op2 eqD (vr 1) (cst (.int 0)))) (raiseS "NoRatio") nxS) (seqS (noerS (setS 2 (fnE F.greatest_common (yF (fnE absD (yF (vr 0) aNil)) (yF (fnE absD (yF (vr 1) aNil)) aNil))))) (seqS (noerS (ifS (tv (op2 ltD (vr 1) (cst (.int 0)))) (setS 2 (op1 negD (vr 2))) nxS)) (noerS (retS (fnE tupD (yF (op2 fdivD (vr 0) (vr 2)) (yF (op2 fdivD (vr 1) (vr 2)) aNil))))))))
def X.ratio : List D → Sto → R D := fnX 3 2 DenX.ratio
def DenX.over : DSt :=
 (retS (fnE X.ratio (yF (op2 mulD (op2 ixD (vr 0) (cst (.int 0))) (op2 ixD (vr 1) (cst (.int 1)))) (yF (op2 mulD (op2 ixD (vr 0) (cst (.int 1))) (op2 ixD (vr 1) (cst (.int 0)))) aNil))))
def X.over : List D → Sto → R D := fnX 2 2 DenX.over
end
end
section
open Np PySem
noncomputable section
end
end
section
open Np PySem
noncomputable section
end
end
section
open Np PySem
noncomputable section
end
end
section
open Np PySem
noncomputable section
def Den.is_row : DSt :=
 (seqS (ifS (orT (notT (tv (op1 (isiD .lst) (vr 0)))) (tv (op2 neD (fnE lenD (yF (vr 0) aNil)) (vr 1)))) (retS (cst (.bl false))) nxS) (retS (fnE allD (yF (compE (itE itL (vr 0)) 1 (setG 2) (fnE F.is_ratio (yF (vr 2) aNil))) aNil))))
def F.is_row : List D → Sto → R D := fnF 2 2 Den.is_row
end
end
section
open Np PySem
noncomputable section
def DenX.done : DSt :=
 (seqS (ifS (notT (tv (fnE F.are_deeds (yF (vr 1) (yF (fnE lenD (yF (vr 0) aNil)) aNil))))) (raiseS "NoDeed") nxS) (seqS (noerS (setS 2 (compE (itE itL (vr 0)) 1 (setG 4) (fnE lofD (yF (vr 4) aNil))))) (seqS (noerS (forS (itE itL (vr 1)) (setG 3) (setS 2 (fnE F.done_once (yF (vr 2) (yF (vr 3) aNil)))))) (noerS (retS (vr 2))))))
def X.done : List D → Sto → R D := fnX 4 2 DenX.done
end
end
section
open Np PySem
noncomputable section
def Den.is_wide : DSt :=
 (retS (andV (fnE F.k02_whole (yF (vr 0) aNil)) (chn leD leD (cst (.int 0)) (vr 0) (cst (.int 12)))))
def F.is_wide : List D → Sto → R D := fnF 1 1 Den.is_wide
def Den.is_weight : DSt :=
 (retS (andV (fnE F.is_ratio (yF (vr 0) aNil)) (fnE F.less (yF (cst (.tup [(.int 0), (.int 1)])) (yF (vr 0) aNil)))))
def F.is_weight : List D → Sto → R D := fnF 1 1 Den.is_weight
def Den.is_point : DSt :=
 (seqS (ifS (orT (notT (tv (op1 (isiD .tup) (vr 0)))) (tv (op2 neD (fnE lenD (yF (vr 0) aNil)) (cst (.int 3))))) (retS (cst (.bl false))) nxS) (retS (andV (fnE F.is_row (yF (op2 ixD (vr 0) (cst (.int 0))) (yF (vr 1) aNil))) (andV (fnE F.is_ratio (yF (op2 ixD (vr 0) (cst (.int 1))) aNil)) (fnE F.is_weight (yF (op2 ixD (vr 0) (cst (.int 2))) aNil))))))
def F.is_point : List D → Sto → R D := fnF 2 2 Den.is_point
def Den.State___init__ : DSt :=
 (seqS (setfS "State" "wide" (vr 0) (vr 1)) (seqS (setfS "State" "laid" (vr 0) (vr 2)) (setfS "State" "kept" (vr 0) (vr 3))))
def F.State___init__ : List D → Sto → R D := fnF 4 4 Den.State___init__
def Den.Plane___init__ : DSt :=
 (seqS (ifS (notT (tv (fnE F.is_wide (yF (vr 1) aNil)))) nevS nxS) (setfS "Plane" "states" (vr 0) (fnE lstD (yF (mkE "State" F.State___init__ (yF (vr 1) (yF (cst (.int 0)) (yF (fnE lstD aNil) aNil)))) aNil))))
def F.Plane___init__ : List D → Sto → R D := fnF 2 2 Den.Plane___init__
def Den.Plane_lay : DSt :=
 (seqS (setS 4 (op2 ixD (op1 (fldD "Plane" "states") (vr 0)) (op1 negD (cst (.int 1))))) (seqS (setS 5 (op1 (fldD "State" "laid") (vr 4))) (seqS (setS 6 (ifE (tv (op2 isND (vr 3) (cst .non))) (cst (.tup [(.int 1), (.int 1)])) (vr 3))) (seqS (ifS (notT (tv (fnE F.is_point (yF (fnE tupD (yF (vr 1) (yF (vr 2) (yF (vr 6) aNil)))) (yF (op1 (fldD "State" "wide") (vr 4)) aNil))))) nevS nxS) (seqS (setS 7 (fnE tupD (yF (vr 5) (yF (fnE lofD (yF (vr 1) aNil)) (yF (vr 2) (yF (vr 6) aNil)))))) (seqS (dropS (opM appD (op1 (fldD "Plane" "states") (vr 0)) (mkE "State" F.State___init__ (yF (op1 (fldD "State" "wide") (vr 4)) (yF (op2 addD (vr 5) (cst (.int 1))) (yF (op2 addD (op1 (fldD "State" "kept") (vr 4)) (fnE lstD (yF (vr 7) aNil))) aNil)))))) (retS (vr 5))))))))
def F.Plane_lay : List D → Sto → R D := fnF 8 4 Den.Plane_lay
def Den.Plane_take : DSt :=
 (seqS (setS 2 (op2 ixD (op1 (fldD "Plane" "states") (vr 0)) (op1 negD (cst (.int 1))))) (seqS (ifS (orT (notT (tv (fnE F.k02_whole (yF (vr 1) aNil)))) (tv (op2 notinD (vr 1) (compE (itE itL (op1 (fldD "State" "kept") (vr 2))) 1 (setG 4) (op2 ixD (vr 4) (cst (.int 0))))))) nevS nxS) (seqS (setS 3 (compI (itE itL (op1 (fldD "State" "kept") (vr 2))) 1 (setG 4) (tv (op2 neD (op2 ixD (vr 4) (cst (.int 0))) (vr 1))) (vr 4))) (dropS (opM appD (op1 (fldD "Plane" "states") (vr 0)) (mkE "State" F.State___init__ (yF (op1 (fldD "State" "wide") (vr 2)) (yF (op1 (fldD "State" "laid") (vr 2)) (yF (vr 3) aNil)))))))))
def F.Plane_take : List D → Sto → R D := fnF 4 2 Den.Plane_take
def Den.with_row : DSt :=
 (retS (fnE tupD (yF (op2 ixD (vr 0) (cst (.int 0))) (yF (vr 1) (yF (op2 ixD (vr 0) (cst (.int 2))) (yF (op2 ixD (vr 0) (cst (.int 3))) aNil))))))
def F.with_row : List D → Sto → R D := fnF 2 2 Den.with_row
def Den.Plane_points : DSt :=
 (retS (compE (itE itL (op1 (fldD "State" "kept") (op2 ixD (op1 (fldD "Plane" "states") (vr 0)) (op1 negD (cst (.int 1)))))) 1 (setG 1) (fnE F.with_row (yF (vr 1) (yF (fnE lofD (yF (op2 ixD (vr 1) (cst (.int 1))) aNil)) aNil)))))
def F.Plane_points : List D → Sto → R D := fnF 1 1 Den.Plane_points
def Den.Plane_width : DSt :=
 (retS (op1 (fldD "State" "wide") (op2 ixD (op1 (fldD "Plane" "states") (vr 0)) (op1 negD (cst (.int 1))))))
def F.Plane_width : List D → Sto → R D := fnF 1 1 Den.Plane_width
def Den.k52_mixed : DSt :=
 (seqS (setS 2 (op2 modD (op2 mulD (op2 addD (op2 addD (op2 modD (vr 0) (cst (.int 2147483629))) (op2 mulD (cst (.int 7)) (vr 1))) (cst (.int 3))) (cst (.int 48271))) (cst (.int 2147483647)))) (seqS (setS 3 (cst (.int 0))) (seqS (forS (itA rng1D (yF (cst (.int 6)) aNil)) (setG 4) (seqS (setS 2 (op2 modD (op2 addD (op2 addD (op2 mulD (vr 2) (cst (.int 69621))) (op2 mulD (cst (.int 11)) (vr 4))) (cst (.int 5))) (cst (.int 2147483647)))) (setS 3 (op2 addD (op2 mulD (vr 3) (cst (.int 2147483647))) (vr 2))))) (retS (vr 3)))))
def F.k52_mixed : List D → Sto → R D := fnF 5 2 Den.k52_mixed
def Den.k52_lowest : DSt :=
 (seqS (setS 2 (fnE absD (yF (vr 0) aNil))) (seqS (setS 3 (vr 1)) (seqS (whileS (tv (op2 neD (vr 3) (cst (.int 0)))) (parS 2 3 (vr 3) (op2 modD (vr 2) (vr 3)))) (retS (fnE tupD (yF (op2 fdivD (vr 0) (vr 2)) (yF (op2 fdivD (vr 1) (vr 2)) aNil)))))))
def F.k52_lowest : List D → Sto → R D := fnF 4 2 Den.k52_lowest
def Den.k52_plus : DSt :=
 (retS (fnE F.k52_lowest (yF (op2 addD (op2 mulD (op2 ixD (vr 0) (cst (.int 0))) (op2 ixD (vr 1) (cst (.int 1)))) (op2 mulD (op2 ixD (vr 1) (cst (.int 0))) (op2 ixD (vr 0) (cst (.int 1))))) (yF (op2 mulD (op2 ixD (vr 0) (cst (.int 1))) (op2 ixD (vr 1) (cst (.int 1)))) aNil))))
def F.k52_plus : List D → Sto → R D := fnF 2 2 Den.k52_plus
def Den.k52_ratio : DSt :=
 (seqS (asgS (fnE dvmD (yF (vr 0) (yF (cst (.int 16)) aNil))) (tupG [(setG 0), (setG 1)])) (seqS (asgS (fnE dvmD (yF (vr 0) (yF (cst (.int 8)) aNil))) (tupG [(setG 0), (setG 2)])) (seqS (ifS (tv (op2 eqD (vr 1) (cst (.int 3)))) (retS (fnE tupD (yF (op2 subD (op2 mulD (vr 0) (op2 powD (cst (.int 10)) (cst (.int 15)))) (op2 powD (cst (.int 10)) (cst (.int 20)))) (yF (cst (.int 1)) aNil)))) nxS) (retS (fnE F.k52_lowest (yF (op2 subD (op2 modD (vr 0) (cst (.int 19))) (cst (.int 9))) (yF (op2 ixD (fnE lstD (yF (cst (.int 1)) (yF (cst (.int 1)) (yF (cst (.int 1)) (yF (cst (.int 2)) (yF (cst (.int 3)) (yF (cst (.int 4)) (yF (cst (.int 6)) (yF (cst (.int 12)) aNil))))))))) (vr 2)) aNil)))))))
def F.k52_ratio : List D → Sto → R D := fnF 3 1 Den.k52_ratio
def Den.k52_row : DSt :=
 (seqS (setS 2 (fnE lstD aNil)) (seqS (forS (itA rng1D (yF (vr 1) aNil)) (setG 3) (dropS (opM appD (vr 2) (fnE F.k52_ratio (yF (op2 modD (fnE F.k52_mixed (yF (vr 0) (yF (op2 addD (cst (.int 31)) (vr 3)) aNil))) (cst (.int 100003))) aNil))))) (retS (vr 2))))
def F.k52_row : List D → Sto → R D := fnF 4 2 Den.k52_row
def Den.k52_point : DSt :=
 (seqS (asgS (fnE dvmD (yF (vr 0) (yF (cst (.int 100003)) aNil))) (tupG [(setG 0), (setG 3)])) (seqS (asgS (fnE dvmD (yF (vr 0) (yF (cst (.int 6)) aNil))) (tupG [(setG 0), (setG 4)])) (seqS (setS 5 (fnE F.k52_row (yF (vr 0) (yF (vr 1) aNil)))) (seqS (ifS (andT (tv (vr 2)) (tv (op2 gtD (vr 1) (cst (.int 1))))) (asgS (fnE F.k52_plus (yF (op2 ixD (vr 5) (cst (.int 0))) (yF (op2 ixD (vr 5) (op2 subD (vr 1) (cst (.int 2)))) aNil))) (setXG (vr 5) (op2 subD (vr 1) (cst (.int 1))))) nxS) (retS (fnE tupD (yF (vr 5) (yF (fnE F.k52_ratio (yF (vr 3) aNil)) (yF (op2 ixD (fnE lstD (yF (fnE tupD (yF (cst (.int 1)) (yF (cst (.int 1)) aNil))) (yF (fnE tupD (yF (cst (.int 1)) (yF (cst (.int 1)) aNil))) (yF (fnE tupD (yF (cst (.int 1)) (yF (cst (.int 2)) aNil))) (yF (fnE tupD (yF (cst (.int 2)) (yF (cst (.int 1)) aNil))) (yF (fnE tupD (yF (cst (.int 3)) (yF (cst (.int 1)) aNil))) (yF (fnE tupD (yF (cst (.int 5)) (yF (cst (.int 7)) aNil))) aNil))))))) (vr 4)) aNil)))))))))
def F.k52_point : List D → Sto → R D := fnF 6 3 Den.k52_point
def Den.k52_fresh : DSt :=
 (retS (fnE lstD (yF (vr 0) (yF (fnE lstD aNil) (yF (cst (.int 0)) aNil)))))
def F.k52_fresh : List D → Sto → R D := fnF 1 1 Den.k52_fresh
def Den.k52_alike (self : List D → Sto → R D) : DSt :=
 (seqS (ifS (orT (tv (op1 (isiD .lst) (vr 1))) (tv (op1 (isiD .tup) (vr 1)))) (seqS (ifS (orT (tv (op2 neD (op1 (isiD .lst) (vr 1)) (op1 (isiD .lst) (vr 0)))) (tv (op2 neD (op1 (isiD .tup) (vr 1)) (op1 (isiD .tup) (vr 0))))) (retS (cst (.bl false))) nxS) (retS (andV (op2 eqD (fnE lenD (yF (vr 0) aNil)) (fnE lenD (yF (vr 1) aNil))) (fnE allD (yF (compE (itA zipLD (yF (vr 0) (yF (vr 1) aNil))) 2 (tupG [(setG 2), (setG 3)]) (fnE self (yF (vr 2) (yF (vr 3) aNil)))) aNil))))) nxS) (retS (andV (op1 (isiD .int) (vr 0)) (andV (notV (op1 (isiD .bool) (vr 0))) (op2 eqD (vr 0) (vr 1))))))
def F.k52_alike : Nat → List D → Sto → R D
 | 0, _, _ => none
 | n + 1, ds, S => fnF 2 2 (Den.k52_alike (F.k52_alike n)) ds S
def Den.k52_stands : DSt :=
 (seqS (ifS (notT (tv (fnE (F.k52_alike 7) (yF (methE "Plane" "width" F.Plane_width (vr 0) aNil) (yF (op2 ixD (vr 1) (cst (.int 0))) aNil))))) (retS (cst (.bl false))) nxS) (retS (fnE (F.k52_alike 7) (yF (methE "Plane" "points" F.Plane_points (vr 0) aNil) (yF (op2 ixD (vr 1) (cst (.int 1))) aNil)))))
def F.k52_stands : List D → Sto → R D := fnF 2 2 Den.k52_stands
def Den.k52_taken : DSt :=
 (seqS (setS 3 (op2 modD (vr 2) (fnE lenD (yF (op2 ixD (vr 1) (cst (.int 1))) aNil)))) (seqS (dropS (methE "Plane" "take" F.Plane_take (vr 0) (yF (op2 ixD (op2 ixD (op2 ixD (vr 1) (cst (.int 1))) (vr 3)) (cst (.int 0))) aNil))) (dropS (opM popAtD (op2 ixD (vr 1) (cst (.int 1))) (vr 3)))))
def F.k52_taken : List D → Sto → R D := fnF 4 3 Den.k52_taken
end
end
section
open Np PySem
noncomputable section
def Den.k51_laid : DSt :=
 (seqS (asgS (fnE F.k52_point (yF (vr 2) (yF (op2 ixD (vr 1) (cst (.int 0))) (yF (vr 3) aNil)))) (tupG [(setG 4), (setG 5), (setG 6)])) (seqS (ifS (andT (tv (op2 gtD (fnE lenD (yF (op2 ixD (vr 1) (cst (.int 1))) aNil)) (cst (.int 0)))) (tv (op2 eqD (op2 modD (vr 2) (cst (.int 5))) (cst (.int 1))))) (setS 4 (fnE lofD (yF (op2 ixD (op2 ixD (op2 ixD (vr 1) (cst (.int 1))) (op2 modD (op2 fdivD (vr 2) (cst (.int 5))) (fnE lenD (yF (op2 ixD (vr 1) (cst (.int 1))) aNil)))) (cst (.int 1))) aNil))) nxS) (seqS (setS 7 (fnE lofD (yF (vr 4) aNil))) (seqS (ifS (andT (tv (op2 eqD (vr 6) (fnE tupD (yF (cst (.int 1)) (yF (cst (.int 1)) aNil))))) (tv (op2 eqD (op2 modD (vr 2) (cst (.int 3))) (cst (.int 0))))) (setS 8 (methE "Plane" "lay" (fnD F.Plane_lay [.non]) (vr 0) (yF (vr 7) (yF (vr 5) aNil)))) (ifS (andT (tv (op2 eqD (vr 6) (fnE tupD (yF (cst (.int 1)) (yF (cst (.int 1)) aNil))))) (tv (op2 eqD (op2 modD (vr 2) (cst (.int 3))) (cst (.int 1))))) (setS 8 (methE "Plane" "lay" F.Plane_lay (vr 0) (yF (vr 7) (yF (vr 5) (yF (cst .non) aNil))))) (setS 8 (methE "Plane" "lay" F.Plane_lay (vr 0) (yF (vr 7) (yF (vr 5) (yF (vr 6) aNil))))))) (seqS (ifS (tv (op2 neD (vr 7) (vr 4))) (retS (cst (.bl false))) nxS) (seqS (asgS (fnE lstD (yF (fnE tupD (yF (cst (.int 7)) (yF (cst (.int 1)) aNil))) aNil)) (setWG (vr 7))) (seqS (dropS (opM appD (op2 ixD (vr 1) (cst (.int 1))) (fnE tupD (yF (op2 ixD (vr 1) (cst (.int 2))) (yF (vr 4) (yF (vr 5) (yF (vr 6) aNil))))))) (seqS (asgS (op2 addD (op2 ixD (vr 1) (cst (.int 2))) (cst (.int 1))) (setXG (vr 1) (cst (.int 2)))) (retS (fnE (F.k52_alike 7) (yF (vr 8) (yF (op2 subD (op2 ixD (vr 1) (cst (.int 2))) (cst (.int 1))) aNil))))))))))))
def F.k51_laid : List D → Sto → R D := fnF 9 4 Den.k51_laid
def Den.k51_law : DSt :=
 (seqS (setS 1 (op2 modD (fnE F.k11_cell_at (yF (vr 0) (yF (cst (.int 0)) aNil))) (cst (.int 13)))) (seqS (setS 2 (mkE "Plane" F.Plane___init__ (yF (vr 1) aNil))) (seqS (setS 3 (fnE F.k52_fresh (yF (vr 1) aNil))) (seqS (forS (itA rng2D (yF (cst (.int 1)) (yF (fnE minD (yF (cst (.int 61)) (yF (fnE lenD (yF (vr 0) aNil)) aNil))) aNil))) (setG 4) (seqS (asgS (fnE dvmD (yF (fnE F.k52_mixed (yF (op2 ixD (vr 0) (vr 4)) (yF (vr 4) aNil))) (yF (cst (.int 3)) aNil))) (tupG [(setG 5), (setG 6)])) (seqS (ifS (orT (andT (tv (op2 eqD (vr 6) (cst (.int 0)))) (tv (op2 gtD (fnE lenD (yF (op2 ixD (vr 3) (cst (.int 1))) aNil)) (cst (.int 0))))) (tv (op2 eqD (fnE lenD (yF (op2 ixD (vr 3) (cst (.int 1))) aNil)) (cst (.int 40))))) (dropS (fnE F.k52_taken (yF (vr 2) (yF (vr 3) (yF (vr 5) aNil))))) (ifS (notT (tv (fnE F.k51_laid (yF (vr 2) (yF (vr 3) (yF (vr 5) (yF (op2 eqD (vr 6) (cst (.int 1))) aNil))))))) (retS (cst (.bl false))) nxS)) (seqS (setS 7 (methE "Plane" "points" F.Plane_points (vr 2) aNil)) (seqS (ifS (notT (tv (fnE (F.k52_alike 7) (yF (vr 7) (yF (op2 ixD (vr 3) (cst (.int 1))) aNil))))) (retS (cst (.bl false))) nxS) (seqS (forS (itE itL (vr 7)) (setG 8) (dropS (opM appD (op2 ixD (vr 8) (cst (.int 1))) (fnE tupD (yF (cst (.int 1)) (yF (cst (.int 1)) aNil)))))) (dropS (op1 clearD (vr 7))))))))) (retS (fnE F.k52_stands (yF (vr 2) (yF (vr 3) aNil))))))))
def F.k51_law : List D → Sto → R D := fnF 9 1 Den.k51_law
end
end
section
namespace Np
open PySem
def ratD (r : Rat) : D := .tup [.int r.num, .int (r.den : Int)]
def asRat : D → Option Rat
 | .tup [.int n, .int d] => if (Rat.divInt n d).num = n ∧ ((Rat.divInt n d).den : Int) = d then some (Rat.divInt n d) else none
 | _ => none
@[simp] theorem asRat_ratD (r : Rat) : asRat (ratD r) = some r := by
 have h : Rat.divInt r.num (r.den : Int) = r := Rat.num_divInt_den r
 simp [asRat, ratD, h]
def Le (n : Nat) (r : Rat) : Prop := r.num.natAbs < 2 ^ n ∧ r.den < 2 ^ n
theorem Le.mono {m n : Nat} {r : Rat} (h : Le m r) (k : m ≤ n) : Le n r := by
 have : 2 ^ m ≤ 2 ^ n := Nat.pow_le_pow_right (by decide) k
 exact ⟨Nat.lt_of_lt_of_le h.1 this, Nat.lt_of_lt_of_le h.2 this⟩
theorem log2_le {n k : Nat} (h : k < 2 ^ n) : k.log2 ≤ n := by
 rcases Nat.eq_zero_or_pos k with z | z
 ·subst z; simp
 ·exact Nat.le_of_lt ((Nat.log2_lt (Nat.ne_of_gt z)).mpr h)
theorem Le.num {n : Nat} {r : Rat} (h : Le n r) : r.num.natAbs.log2 ≤ n := log2_le h.1
theorem Le.den {n : Nat} {r : Rat} (h : Le n r) : ((r.den : Int)).natAbs.log2 ≤ n := by
 rw [Int.natAbs_natCast]; exact log2_le h.2
theorem num_divInt_le (a b : Int) : (Rat.divInt a b).num.natAbs ≤ a.natAbs := by
 rw [Rat.num_divInt]
 by_cases hb : b = 0
 ·subst hb; simp
 ·have e : (b.sign * a / (b.gcd a : Int)).natAbs ≤ (b.sign * a).natAbs := by
   rw [Int.natAbs_ediv_of_dvd]
   ·exact Nat.div_le_self _ _
   ·exact Int.dvd_mul_of_dvd_right (Int.gcd_dvd_right ..)
  refine Nat.le_trans e ?_
  rw [Int.natAbs_mul, Int.natAbs_sign_of_ne_zero hb, Nat.one_mul]
  exact Nat.le_refl _
theorem den_divInt_le {a b : Int} (hb : b ≠ 0) : (Rat.divInt a b).den ≤ b.natAbs := by
 rw [Rat.den_divInt, if_neg hb]
 exact Nat.div_le_self _ _
theorem Le.divInt {n : Nat} {a b : Int} (hb : b ≠ 0) (h1 : a.natAbs < 2 ^ n) (h2 : b.natAbs < 2 ^ n) : Le n (Rat.divInt a b) :=
 ⟨Nat.lt_of_le_of_lt (num_divInt_le a b) h1, Nat.lt_of_le_of_lt (den_divInt_le hb) h2⟩
theorem den_pos' (r : Rat) : (0 : Int) < r.den := by have := r.den_pos; omega
theorem add_divInt (a b : Rat) : a + b = Rat.divInt (a.num * b.den + b.num * a.den) (a.den * b.den) := by
 rw [Rat.add_def', ← Rat.divInt_ofNat]
 norm_cast
theorem den2_ne (a b : Rat) : (a.den : Int) * b.den ≠ 0 := Int.mul_ne_zero (by have := den_pos' a; omega) (by have := den_pos' b; omega)
theorem mul_lt_pow {x y m n : Nat} (h1 : x < 2 ^ m) (h2 : y < 2 ^ n) : x * y < 2 ^ (m + n) := by
 rw [Nat.pow_add]
 exact Nat.mul_lt_mul'' h1 h2
theorem Le.add {m n : Nat} {a b : Rat} (ha : Le m a) (hb : Le n b) : Le (m + n + 1) (a + b) := by
 rw [add_divInt]
 refine Le.divInt (den2_ne a b) ?_ ?_
 ·have h1 : (a.num * (b.den : Int)).natAbs < 2 ^ (m + n) := by rw [Int.natAbs_mul, Int.natAbs_natCast]; exact mul_lt_pow ha.1 hb.2
  have h2 : (b.num * (a.den : Int)).natAbs < 2 ^ (m + n) := by rw [Int.natAbs_mul, Int.natAbs_natCast, Nat.add_comm]; exact mul_lt_pow hb.1 ha.2
  have h3 := Int.natAbs_add_le (a.num * (b.den : Int)) (b.num * (a.den : Int))
  rw [Nat.pow_succ]
  omega
 ·rw [Int.natAbs_mul, Int.natAbs_natCast, Int.natAbs_natCast]
  exact Nat.lt_trans (mul_lt_pow ha.2 hb.2) (Nat.pow_lt_pow_right (by decide) (Nat.lt_succ_self _))
def sm (r : Rat) : Prop := r.num.natAbs.log2 ≤ 40000000 ∧ r.den.log2 ≤ 40000000
theorem Le.sm {n : Nat} {r : Rat} (h : Le n r) (k : n ≤ 40000000) : sm r := ⟨Nat.le_trans (log2_le h.1) k, Nat.le_trans (log2_le h.2) k⟩
theorem Le.one {n : Nat} (h : 0 < n) : Le n 1 := ⟨by
 show (1 : Nat) < 2 ^ n
 exact Nat.one_lt_two_pow (by omega), by
 show (1 : Nat) < 2 ^ n
 exact Nat.one_lt_two_pow (by omega)⟩
theorem Le.zero {n : Nat} (h : 0 < n) : Le n 0 := ⟨by
 show (0 : Nat) < 2 ^ n
 exact Nat.two_pow_pos n, by
 show (1 : Nat) < 2 ^ n
 exact Nat.one_lt_two_pow (by omega)⟩
end Np
end
section
namespace Np
open PySem
theorem W_fnF {n k : Nat} {g : DSt} {ds : List D} {S : Sto} {Q : D → Sto → Prop} (h : ds.length = k) (q : W (outF (g (startD n ds) S)) Q) : W (fnF n k g ds S) Q := by unfold fnF; rw [if_pos h, W_noer]; exact q
theorem rd_int (n : Nat) (S : Sto) (i : Int) : rd n S (.int i) = some (.int i) := by cases n <;> rfl
theorem rd_bl (n : Nat) (S : Sto) (b : Bool) : rd n S (.bl b) = some (.bl b) := by cases n <;> rfl
theorem eqD_int (i j : Int) (S : Sto) : eqD (.int i) (.int j) S = ok (.bl (decide (i = j))) S := by
 unfold eqD; rw [rd_int, rd_int]; rfl
theorem neD_int (i j : Int) (S : Sto) : neD (.int i) (.int j) S = ok (.bl (!decide (i = j))) S := by
 unfold neD; rw [rd_int, rd_int]; rfl
theorem eqD_bl (i j : Bool) (S : Sto) : eqD (.bl i) (.bl j) S = ok (.bl (i == j)) S := by
 unfold eqD; rw [rd_bl, rd_bl]; rfl
def ratT (q : Rat) : T := .tup [.int q.num, .int q.den]
theorem rd_rat (n : Nat) (S : Sto) (q : Rat) : rd (n + 1) S (ratD q) = some (ratT q) := by
 simp [rd, rdl, ratD, ratT, rd_int]
theorem rat_ext {p q : Rat} (h1 : p.num = q.num) (h2 : (p.den : Int) = q.den) : p = q := Rat.ext h1 (by omega)
theorem eqT_rat (p q : Rat) : eqT (ratT p) (ratT q) = decide (p = q) := by
 simp only [ratT, eqT, eqTs, Bool.and_true]
 by_cases h : p = q
 ·subst h; simp
 ·rw [decide_eq_false h]
  by_cases h1 : p.num = q.num
  ·have h2 : ¬ (p.den : Int) = q.den := fun h2 => h (rat_ext h1 h2)
   simp [h1]
   exact fun h3 => h2 h3
  ·simp [h1]
theorem eqD_rat (p q : Rat) (S : Sto) : eqD (ratD p) (ratD q) S = ok (.bl (decide (p = q))) S := by
 unfold eqD; rw [rd_rat, rd_rat]
 show ok (D.bl (eqT (ratT p) (ratT q))) S = _
 rw [eqT_rat]
theorem neD_rat (p q : Rat) (S : Sto) : neD (ratD p) (ratD q) S = ok (.bl (!decide (p = q))) S := by
 unfold neD; rw [rd_rat, rd_rat]
 show ok (D.bl (!eqT (ratT p) (ratT q))) S = _
 rw [eqT_rat]
theorem rat0 : D.tup [.int 0, .int 1] = ratD 0 := rfl
theorem rat1 : D.tup [.int 1, .int 1] = ratD 1 := rfl
theorem tup2 (x y : D) (S : Sto) : tupD [x, y] S = ok (.tup [x, y]) S := rfl
theorem rdl_map {f : D → Option T} {α : Type} (g : α → D) (h : α → T) (hf : ∀ x, f (g x) = some (h x)) : ∀ xs : List α, rdl f (xs.map g) = some (xs.map h)
 | [] => rfl
 | x :: xs => by simp [rdl, hf, rdl_map g h hf xs]
theorem eqTs_rat : ∀ xs ys : List Rat, eqTs (xs.map ratT) (ys.map ratT) = decide (xs = ys)
 | [], [] => by simp [eqTs]
 | [], _ :: _ => by simp [eqTs]
 | _ :: _, [] => by simp [eqTs]
 | x :: xs, y :: ys => by
  simp only [List.map_cons, eqTs, eqT_rat, eqTs_rat xs ys, List.cons.injEq]
  by_cases h1 : x = y <;> by_cases h2 : xs = ys <;> simp [h1, h2]
abbrev RowA (S : Sto) (a : Nat) (xs : List Rat) : Prop := zH S a = some (xs.map ratD)
theorem rd_row {S : Sto} {a : Nat} {xs : List Rat} (n : Nat) (h : RowA S a xs) : rd (n + 2) S (.ref a) = some (.lst (xs.map ratT)) := by
 show (match zH S a with | some ds => (rdl (rd (n + 1) S) ds).map T.lst | none => none) = _
 rw [h]
 show (rdl (rd (n + 1) S) (xs.map ratD)).map T.lst = _
 rw [rdl_map ratD ratT (rd_rat n S)]
 rfl
theorem neD_row {S : Sto} {a b : Nat} {xs ys : List Rat} (ha : RowA S a xs) (hb : RowA S b ys) : neD (.ref a) (.ref b) S = ok (.bl (!decide (xs = ys))) S := by
 unfold neD; rw [rd_row 7 ha, rd_row 7 hb]
 show ok (D.bl (!eqTs (xs.map ratT) (ys.map ratT))) S = _
 rw [eqTs_rat]
theorem addD_int (i j : Int) (S : Sto) : addD (.int i) (.int j) S = ok (.int (i + j)) S := rfl
theorem subD_int (i j : Int) (S : Sto) : subD (.int i) (.int j) S = ok (.int (i - j)) S := rfl
theorem negD_int (i : Int) (S : Sto) : negD (.int i) S = ok (.int (-i)) S := rfl
theorem absD_int (i : Int) (S : Sto) : absD [.int i] S = ok (.int (if i < 0 then -i else i)) S := rfl
theorem ltD_int (i j : Int) (S : Sto) : ltD (.int i) (.int j) S = ok (.bl (decide (i < j))) S := rfl
theorem leD_int (i j : Int) (S : Sto) : leD (.int i) (.int j) S = ok (.bl (decide (i ≤ j))) S := rfl
theorem gtD_int (i j : Int) (S : Sto) : gtD (.int i) (.int j) S = ok (.bl (decide (j < i))) S := rfl
theorem geD_int (i j : Int) (S : Sto) : geD (.int i) (.int j) S = ok (.bl (decide (j ≤ i))) S := rfl
theorem fdivD_int {i j : Int} (h : j ≠ 0) (S : Sto) : fdivD (.int i) (.int j) S = ok (.int (i.fdiv j)) S := by show (if _ then _ else _) = _; rw [if_neg h]
theorem modD_int {i j : Int} (h : j ≠ 0) (S : Sto) : modD (.int i) (.int j) S = ok (.int (i.fmod j)) S := by show (if _ then _ else _) = _; rw [if_neg h]
theorem mulD_int {i j : Int} (h : i.natAbs.log2 + j.natAbs.log2 ≤ 100000000) (S : Sto) : mulD (.int i) (.int j) S = ok (.int (i * j)) S := by
 show (if _ then _ else _) = _
 rw [if_pos h]
theorem atPK_int (i : Int) (S : Sto) : atPK (.int i) S = ok (some i) S := rfl
theorem isND_non (x : D) (S : Sto) : isND x .non S = ok (.bl (isNoneB x)) S := rfl
theorem isNND_non (x : D) (S : Sto) : isNND x .non S = ok (.bl (!isNoneB x)) S := rfl
theorem noneB_non : isNoneB .non = true := rfl
theorem noneB_ref (a : Nat) : isNoneB (.ref a) = false := rfl
theorem noneB_tup (a : List D) : isNoneB (.tup a) = false := rfl
theorem noneB_int (a : Int) : isNoneB (.int a) = false := rfl
theorem noneB_rat (a : Rat) : isNoneB (ratD a) = false := rfl
theorem isi_int_int (i : Int) (S : Sto) : isiD .int (.int i) S = ok (.bl true) S := rfl
theorem isi_bool_int (i : Int) (S : Sto) : isiD .bool (.int i) S = ok (.bl false) S := rfl
theorem isi_bool_bl (i : Bool) (S : Sto) : isiD .bool (.bl i) S = ok (.bl true) S := rfl
theorem isi_tup_rat (p : Rat) (S : Sto) : isiD .tup (ratD p) S = ok (.bl true) S := rfl
theorem isi_tup_tup (p : List D) (S : Sto) : isiD .tup (.tup p) S = ok (.bl true) S := rfl
theorem isi_lst_ref {S : Sto} {a : Nat} {xs : List D} (h : zH S a = some xs) : isiD .lst (.ref a) S = ok (.bl true) S := by
 unfold zH at h
 split at h
 ·rename_i e
  show (match (match S[a]? with | some (.lst _) => some true | some (.dct _) => some false | _ => none) with | some b => ok (D.bl b) S | none => none) = _
  rw [e]
 ·cases h
theorem lenD_ref {S : Sto} {a : Nat} {xs : List D} (h : zH S a = some xs) : lenD [.ref a] S = ok (.int xs.length) S := by
 show lenK (zH S a) S = _
 rw [h]; rfl
theorem lenD_rat (p : Rat) (S : Sto) : lenD [ratD p] S = ok (.int 2) S := rfl
theorem lenD_tup (xs : List D) (S : Sto) : lenD [.tup xs] S = ok (.int xs.length) S := rfl
theorem lenD_scr (xs : List D) (S : Sto) : lenD [.scr xs] S = ok (.int xs.length) S := rfl
theorem ixA_nat {n i : Nat} (h : i < n) : ixA n (i : Int) = some i := by
 unfold ixA
 rw [if_pos (by omega), if_pos (by omega)]
 rfl
theorem ixD_ref {S : Sto} {a i : Nat} {xs : List D} {d : D} (h : zH S a = some xs) (hi : xs[i]? = some d) : ixD (.ref a) (.int i) S = ok d S := by
 have hl : i < xs.length := (List.getElem?_eq_some_iff.mp hi).1
 show ixK (zH S a) i S = _
 rw [h]
 unfold ixK
 simp only [ixA_nat hl, Option.bind_some, hi]
theorem ixD_scr {S : Sto} {i : Nat} {xs : List D} {d : D} (hi : xs[i]? = some d) : ixD (.scr xs) (.int i) S = ok d S := by
 have hl : i < xs.length := (List.getElem?_eq_some_iff.mp hi).1
 show ixK (some xs) i S = _
 unfold ixK
 simp only [ixA_nat hl, Option.bind_some, hi]
theorem ix0 (p : Rat) (S : Sto) : ixD (ratD p) (.int 0) S = ok (.int p.num) S := rfl
theorem ix1 (p : Rat) (S : Sto) : ixD (ratD p) (.int 1) S = ok (.int p.den) S := rfl
theorem itL_ref {S : Sto} {a : Nat} {xs : List D} (h : zH S a = some xs) : itL (.ref a) S = ok (.one a) S := by
 show (match zH S a with | some _ => ok (Src.one a) S | none => none) = _
 rw [h]
theorem itL_scr (xs : List D) (S : Sto) : itL (.scr xs) S = ok (.fix xs) S := rfl
theorem lofD_ref {S : Sto} {a : Nat} {xs : List D} (h : zH S a = some xs) : lofD [.ref a] S = ok (.ref S.length) (S ++ [.lst xs]) := by
 show (match zH S a with | some xs => newO (.lst xs) S | none => none) = _
 rw [h]; rfl
theorem appD_ref {S : Sto} {a : Nat} {xs : List D} (d : D) (h : zH S a = some xs) (hl : xs.length < 1000000) : appD (.ref a) d S = ok .non (S.set a (.lst (xs ++ [d]))) := by
 show (match zH S a with | some xs => _ | none => none) = _
 rw [h]
 show (if _ then _ else _) = _
 rw [if_pos hl]
theorem opMK_ref {S : Sto} {a : Nat} {xs : List D} (h : zH S a = some xs) (f : D → D → Sto → R D) (b : DE) (δ : DS) : opMK f b δ (.ref a) S = bnd (b δ S) (f (.ref a)) := by
 unfold opMK isL
 simp only [h, Option.isSome_some, if_true]
theorem sm.nd {a b : Rat} (ha : sm a) (hb : sm b) : a.num.natAbs.log2 + ((b.den : Int)).natAbs.log2 ≤ 100000000 := by have := ha.1; have := hb.2; rw [Int.natAbs_natCast]; omega
theorem sm.dd {a b : Rat} (ha : sm a) (hb : sm b) : ((a.den : Int)).natAbs.log2 + ((b.den : Int)).natAbs.log2 ≤ 100000000 := by have := ha.2; have := hb.2; rw [Int.natAbs_natCast, Int.natAbs_natCast]; omega
end Np
end
local macro_rules
  | `(tactic| simp_all [$xs,*]) => do
    let ys : Lean.Syntax.TSepArray [`Lean.Parser.Tactic.simpStar, `Lean.Parser.Tactic.simpErase, `Lean.Parser.Tactic.simpLemma] "," := ⟨xs.elemsAndSeps⟩
    `(tactic| simp only [Np.ifK_t, Np.ifK_f, Np.ifEK_t, Np.ifEK_f, Np.andTK_t, Np.andTK_f, Np.orTK_t, Np.orTK_f, Np.andVB_t, Np.andVB_f, Np.orVB_t, Np.orVB_f, Np.chnB_t, Np.chnB_f, Np.W_bnd, Np.W_ok, Np.W_outF, Np.outQ, Np.seqS, Np.asgS, Np.asgK, Np.setS, Np.setG, Np.retS, Np.retK, Np.ifS, Np.dropS, Np.dropK, Np.nxS, Np.seqK_nx, Np.seqK_rt, Np.vr, Np.cst, Np.op1, Np.op2, Np.op2K, Np.opM, Np.opM3, Np.op3, Np.op3J, Np.op3K, Np.op3K2, Np.fnE, Np.fnD, Np.yF, Np.aConsK, Np.consK, Np.aNil, Np.tv, Np.truV_bl,
  Np.andT, Np.orT, Np.notT, Np.notK, Np.andV, Np.andVK, Np.orV, Np.orVK, Np.notV, Np.notVK, Np.notVB, Np.ifE, Np.chn, Np.chnK, Np.chnK2, Np.chnT, Np.parS, Np.parK, Np.parK2, Np.tupGs, Np.bnd_ok, Np.itE, Np.itA, Np.forS, Np.cntS, Np.brkS,
  Np.startD, List.map_cons, List.map_nil, List.length_cons, List.length_nil, List.replicate, List.cons_append, List.nil_append, List.getElem?_cons_zero, List.getElem?_cons_succ, List.set_cons_zero, List.set_cons_succ, Nat.reduceAdd, Nat.reduceSub, Nat.zero_add,
  Np.addD_int, Np.subD_int, Np.negD_int, Np.absD_int, Np.ltD_int, Np.leD_int, Np.gtD_int, Np.geD_int, Np.isi_int_int, Np.isi_bool_int, Np.isi_bool_bl, Np.isi_tup_rat, Np.isi_tup_tup, Np.isND_non, Np.isNND_non, Np.noneB_non, Np.noneB_ref, Np.noneB_tup, Np.noneB_int, Np.noneB_rat, Np.eqD_int, Np.neD_int, Np.eqD_bl, Np.eqD_rat, Np.neD_rat, Np.tup2, Np.rat0, Np.rat1, Np.slE, Np.slK, Np.slK1, Np.slK2, Np.noP, Np.atP, Np.atPK_int,
  Np.lenD_rat, Np.lenD_tup, Np.lenD_scr, Np.ix0, Np.ix1, Np.itL_scr,
  decide_true, decide_false, Bool.not_true, Bool.not_false, Bool.not_not, decide_eq_true_eq, Bool.not_eq_true', decide_eq_false_iff_not, Bool.false_eq_true, if_true, if_false, Bool.not_eq_eq_eq_not, reduceIte, reduceCtorEq, ne_eq, not_true_eq_false, not_false_eq_true, and_self, $ys,*])
section
namespace Nm
open Np PySem
theorem gcd_step {a b : Int} (hb : 0 < b) (ha : 0 ≤ a) : 0 ≤ a.fmod b ∧ a.fmod b < b ∧ Int.gcd b (a.fmod b) = Int.gcd a b := by
 rw [Int.fmod_eq_emod_of_nonneg a (by omega)]
 refine ⟨Int.emod_nonneg _ (by omega), Int.emod_lt_of_pos _ hb, ?_⟩
 obtain ⟨x, rfl⟩ := Int.eq_ofNat_of_zero_le ha
 obtain ⟨y, rfl⟩ := Int.eq_ofNat_of_zero_le (Int.le_of_lt hb)
 rw [← Int.natCast_emod, Int.gcd_natCast_natCast, Int.gcd_natCast_natCast, Nat.gcd_comm y, ← Nat.gcd_rec, Nat.gcd_comm]
theorem W_eq {α : Type} {m : R α} {a : α} {S : Sto} (h : W m fun b S' => b = a ∧ S' = S) : m = ok a S := by
 obtain ⟨b, S', e, rfl, rfl⟩ := h.out
 exact e
theorem greatest_common_eq {a b : Int} (ha : 0 ≤ a) (hb : 0 ≤ b) (S : Sto) : F.greatest_common [.int a, .int b] S = ok (.int (Int.gcd a b)) S := by
 refine W_eq ?_
 (unfold F.greatest_common; refine Np.W_fnF rfl ?_; unfold Den.greatest_common; simp_all [])
 refine W_whileS (fun δ S' => S' = S ∧ ∃ x y o, δ = [some (.int a), some (.int b), some (.int x), some (.int y), o] ∧ 0 ≤ x ∧ 0 ≤ y ∧ Int.gcd x y = Int.gcd a b) (fun δ _ => match δ with | [_, _, _, some (.int y), _] => y.natAbs | _ => 0) ⟨rfl, a, b, none, rfl, ha, hb, rfl⟩ ?_
 rintro δ S' ⟨rfl, x, y, o, rfl, hx, hy, hg⟩
 simp_all []
 by_cases h0 : y = 0
 ·subst h0
  simp_all []
  rw [← hg]
  simp
  omega
 ·rw [if_pos h0]
  obtain ⟨h1, h2, h3⟩ := gcd_step (a := x) (b := y) (by omega) hx
  simp_all [modD_int h0]
  simp only [loopQ]
  refine ⟨⟨trivial, y, x.fmod y, _, rfl, hy, h1, by rw [h3, hg]⟩, by omega⟩
theorem fdiv_exact {a b : Int} (h : b ∣ a) (hb : b ≠ 0) : a.fdiv b = a / b := by
 obtain ⟨c, rfl⟩ := h
 rw [Int.mul_fdiv_cancel_left _ hb, Int.mul_ediv_cancel_left _ hb]
theorem ratio_parts {a b : Int} (hb : b ≠ 0) : ∀ c : Int, c = (if b < 0 then -((Int.gcd b a : Nat) : Int) else ((Int.gcd b a : Nat) : Int)) → c ≠ 0 ∧ a.fdiv c = (Rat.divInt a b).num ∧ b.fdiv c = ((Rat.divInt a b).den : Int) := by
 intro c hc
 have g0 : Int.gcd b a ≠ 0 := fun z => hb (Int.eq_zero_of_gcd_eq_zero_left z)
 have g1 : ((Int.gcd b a : Nat) : Int) ∣ a := Int.gcd_dvd_right ..
 have g2 : ((Int.gcd b a : Nat) : Int) ∣ b := Int.gcd_dvd_left ..
 have g3 : ((Int.gcd b a : Nat) : Int) ≠ 0 := by omega
 rw [Rat.num_divInt, Rat.den_divInt, if_neg hb]
 split at hc
 ·rename_i hn
  subst hc
  refine ⟨by omega, ?_, ?_⟩
  ·rw [fdiv_exact (Int.neg_dvd.mpr g1) (by omega), Int.ediv_neg, Int.sign_eq_neg_one_of_neg hn, Int.neg_one_mul, Int.neg_ediv_of_dvd g1]
  ·rw [fdiv_exact (Int.neg_dvd.mpr g2) (by omega), Int.ediv_neg, Int.natCast_ediv, Int.ofNat_natAbs_of_nonpos (by omega), Int.neg_ediv_of_dvd g2]
 ·rename_i hn
  subst hc
  refine ⟨g3, ?_, ?_⟩
  ·rw [fdiv_exact g1 g3, Int.sign_eq_one_of_pos (by omega), Int.one_mul]
  ·rw [fdiv_exact g2 g3, Int.natCast_ediv, Int.natAbs_of_nonneg (by omega)]
theorem abs_nonneg (a : Int) : 0 ≤ (if a < 0 then -a else a) := by split <;> omega
end Nm
end
section
namespace Nm
open Np PySem
def Has (src : Src) (S : Sto) (xs : List D) : Prop := xs.length ≤ src.len S ∧ ∀ i, src.get S i = some xs[i]?
theorem Has.fix (xs : List D) (S : Sto) : Has (.fix xs) S xs := ⟨Nat.le_refl _, fun _ => rfl⟩
theorem get_one {a : Nat} {S : Sto} {xs : List D} (h : zH S a = some xs) (i : Nat) : (Src.one a).get S i = some xs[i]? := by
 show (match zH S a with | some xs => some xs[i]? | none => none) = _
 rw [h]
theorem len_one {a : Nat} {S : Sto} {xs : List D} (h : zH S a = some xs) : (Src.one a).len S = xs.length := by
 show (match zH S a with | some xs => xs.length | none => 0) = _
 rw [h]
theorem Has.one {a : Nat} {S : Sto} {xs : List D} (h : zH S a = some xs) : Has (.one a) S xs := ⟨by rw [len_one h]; exact Nat.le_refl _, get_one h⟩
def pairs (xs ys : List D) : List D := List.zipWith (fun x y => .tup [x, y]) xs ys
theorem get_two {a b : Nat} {S : Sto} {xs ys : List D} (h : zH S a = some xs) (k : zH S b = some ys) (i : Nat) : (Src.two a b).get S i = some (pairs xs ys)[i]? := by
 show (match zH S a, zH S b with | some xs, some ys => some (two1 xs[i]? ys[i]?) | _, _ => none) = _
 rw [h, k]
 show some (two1 xs[i]? ys[i]?) = _
 unfold pairs
 rw [List.getElem?_zipWith]
 cases xs[i]? <;> cases ys[i]? <;> rfl
theorem len_two {a b : Nat} {S : Sto} {xs : List D} (h : zH S a = some xs) : (Src.two a b).len S = xs.length := by
 show (match zH S a with | some xs => xs.length | none => 0) = _
 rw [h]
theorem zip2D_ref {a b : Nat} {S : Sto} {xs ys : List D} (h : zH S a = some xs) (k : zH S b = some ys) : zip2D [.ref a, .ref b] S = ok (.two a b) S := by
 show (match zH S a, zH S b with | some _, some _ => ok (Src.two a b) S | _, _ => none) = _
 rw [h, k]
theorem rng1D_nat {n : Nat} (h : n < 1000000) (S : Sto) : rng1D [.int n] S = ok (.fix (intsD 0 n)) S := by
 have hlim := lim_eq
 simp only [rng1D]
 rw [if_pos (by omega)]
 rfl
theorem intsD_map : ∀ (n : Nat) (lo : Nat), intsD lo n = (List.range' lo n).map fun i => D.int (i : Nat)
 | 0, _ => rfl
 | n + 1, lo => by
  have := intsD_map n (lo + 1)
  simp only [List.range'_succ, List.map_cons, intsD]
  rw [← this]
  rfl
theorem intsD_zero (n : Nat) : intsD 0 n = (List.range n).map fun i => D.int (i : Nat) := by
 have := intsD_map n 0
 rw [List.range_eq_range']
 exact this
theorem comp_pure {it : DI} {g : DG} {e : DE} {base : DS} {k : Nat} {S : Sto} {src : Src} (vals : D → List (Option D)) {xs : List D} {f : D → D} {P : D → Prop} (hg : Tg g k vals base P) (hit : it base S = ok src S) (hs : Has src S xs) (hl : src.len S ≤ 1000000) (hP : ∀ x ∈ xs, P x)
  (step : ∀ x ∈ xs, e (base ++ vals x) S = ok (f x) S) : compE it k g e base S = ok (.ref S.length) (S ++ [.lst (xs.map f)]) := by
 refine W_eq ?_
 refine W_compE vals xs (fun i acc S' => S' = S ∧ acc = (xs.take i).map f) P hP hg ?_ ?_ ?_
 ·rw [hit, W_ok]
  exact ⟨hs.1, hl, ⟨rfl, rfl⟩, fun i acc S' ⟨h, _⟩ => by rw [h]; exact hs.2 i⟩
 ·rintro i x acc S' hx ha ⟨rfl, he⟩
  rw [step x (List.mem_of_getElem? hx), W_ok]
  refine ⟨rfl, ?_⟩
  rw [he, List.take_add_one, hx]
  simp
 ·rintro acc S' ⟨rfl, he⟩ _
  rw [he, List.take_length]
  exact ⟨rfl, rfl⟩
theorem W_compX {it : DI} {g : DG} {e : DE} {base : DS} {k : Nat} {S : Sto} {Q : D → Sto → Prop} (vals : D → List (Option D)) (xs : List D) (Rl : D → D → Prop) (P : D → Prop) (hg : Tg g k vals base P) (hP : ∀ x ∈ xs, P x)
  (hit : W (it base S) fun src S' => xs.length ≤ src.len S' ∧ src.len S' ≤ 1000000 ∧ SLe S S' ∧ ∀ i S'', SLe S' S'' → src.get S'' i = some xs[i]?)
  (step : ∀ x S', x ∈ xs → SLe S S' → W (e (base ++ vals x) S') fun d S'' => Rl x d ∧ SLe S' S'')
  (fin : ∀ ds S', SLe S S' → ds.length = xs.length → (∀ (i : Nat) x d, xs[i]? = some x → ds[i]? = some d → Rl x d) → Q (.ref S'.length) (S' ++ [.lst ds])) : W (compE it k g e base S) Q := by
 obtain ⟨src, S0, e0, h1, h2, h3, h4⟩ := hit.out
 refine W_compE vals xs (fun i acc S' => SLe S0 S' ∧ acc.length = i ∧ ∀ (j : Nat) x d, xs[j]? = some x → acc[j]? = some d → Rl x d) P hP hg ?_ ?_ ?_
 ·rw [e0, W_ok]
  exact ⟨h1, h2, ⟨SLe.rfl, rfl, fun j x d _ h => by simp at h⟩, fun i acc S'' h => h4 i S'' h.1⟩
 ·intro i x acc S' hx ha ⟨hS, _, he⟩
  refine (step x S' (List.mem_of_getElem? hx) (h3.trans hS)).mono fun d S'' ⟨h1, h2⟩ => ⟨hS.trans h2, by simp [ha], fun j y d' hy hd => ?_⟩
  by_cases hj : j < acc.length
  ·rw [List.getElem?_append_left hj] at hd
   exact he j y d' hy hd
  ·rw [List.getElem?_append_right (by omega)] at hd
   have : j = i := by
    have := (List.getElem?_eq_some_iff.mp hd).1
    simp at this
    omega
   subst this
   rw [hx] at hy
   cases hy
   rw [← ha] at hd
   simp at hd
   rw [← hd]
   exact h1
 ·intro acc S' ⟨hS, hl, he⟩ hl'
  exact fin acc S' (h3.trans hS) hl' he
theorem mem_pairs {xs ys : List D} {z : D} (h : z ∈ pairs xs ys) : ∃ p q, z = .tup [p, q] := by
 unfold pairs at h
 obtain ⟨i, hi, rfl⟩ := List.getElem_of_mem h
 rw [List.getElem_zipWith]
 exact ⟨_, _, rfl⟩
noncomputable def on1 (g : Rat → D) (d : D) : D := match asRat d with
 | some a => g a
 | none => .non
theorem on1_eq (g : Rat → D) (p : Rat) : on1 g (ratD p) = g p := by unfold on1; rw [asRat_ratD]
theorem map_on1 (g : Rat → D) (xs : List Rat) : (xs.map ratD).map (on1 g) = xs.map g := by
 rw [List.map_map]
 exact List.map_congr_left fun x _ => on1_eq g x
theorem comp_row {e : DE} {base : DS} {S : Sto} {a : Nat} {xs : List Rat} {g : Rat → D} {it : DI} (hit : it base S = ok (.one a) S) (ha : RowA S a xs) (hl : xs.length ≤ 1000000) (he : ∀ x ∈ xs, e (base ++ [some (ratD x)]) S = ok (g x) S) :
  compE it 1 (setG base.length) e base S = ok (.ref S.length) (S ++ [.lst (xs.map g)]) := by
 rw [comp_pure _ (tg_one base) hit (Has.one ha) (by rw [len_one ha, List.length_map]; exact hl) (fun _ _ => trivial) (f := on1 g) fun x hx => by
  obtain ⟨q, hq, rfl⟩ := List.mem_map.mp hx
  rw [on1_eq]
  exact he q hq]
 rw [map_on1]
theorem allB_map {α : Type} (p : α → Bool) : ∀ xs : List α, allB (xs.map fun x => D.bl (p x)) = some (xs.all p)
 | [] => rfl
 | x :: xs => by
  rw [List.map_cons, List.all_cons]
  show (match allB (xs.map fun x => D.bl (p x)) with | some c => some (p x && c) | none => none) = _
  rw [allB_map p xs]
theorem allD_ref {S : Sto} {a : Nat} {xs : List D} {b : Bool} (h : zH S a = some xs) (hb : allB xs = some b) : allD [.ref a] S = ok (.bl b) S := by
 show (match zH S a with | some xs => (match allB xs with | some b => ok (D.bl b) S | none => none) | none => none) = _
 rw [h]
 show (match allB xs with | some b => ok (D.bl b) S | none => none) = _
 rw [hb]
end Nm
end
section
namespace Nm
open Np PySem
theorem powD_ok {a j : Int} (h : (0 ≤ j ∧ j ≤ 1000) ∧ a.natAbs < 1000000) (S : Sto) : powD (.int a) (.int j) S = ok (.int (a ^ j.toNat)) S := by
 simp only [powD]
 rw [if_pos h]
theorem p10_20 (S : Sto) : powD (.int 10) (.int 20) S = ok (.int (10 ^ 20)) S := powD_ok (by decide) S
theorem whole_int (i : Int) (S : Sto) : F.k02_whole [.int i] S = ok (.bl true) S := by
 refine W_eq ?_
 (unfold F.k02_whole; refine Np.W_fnF rfl ?_; unfold Den.k02_whole; simp_all [])
theorem gcd_abs1 (a b : Int) : Int.gcd (if a < 0 then -a else a) b = Int.gcd a b := by
 split
 ·unfold Int.gcd; rw [Int.natAbs_neg]
 ·rfl
theorem gcd_num_den (r : Rat) : Int.gcd r.num (r.den : Int) = 1 := r.reduced
theorem cell_at_scr (ns : List Int) (k : Nat) (S : Sto) : ∃ c : Int, (c = 0 ∨ c ∈ ns) ∧ F.k11_cell_at [.scr (ns.map D.int), .int k] S = ok (.int c) S := by
 by_cases h : k < ns.length
 ·refine ⟨ns[k], .inr (List.getElem_mem _), W_eq ?_⟩
  (unfold F.k11_cell_at; refine Np.W_fnF rfl ?_; unfold Den.k11_cell_at; simp_all [])
  have h1 : (k : Int) < ((ns.map D.int).length : Int) := by rw [List.length_map]; omega
  have h2 : (ns.map D.int)[k]? = some (.int ns[k]) := by simp [h]
  simp_all [h1, ixD_scr h2]
 ·refine ⟨0, .inl rfl, W_eq ?_⟩
  (unfold F.k11_cell_at; refine Np.W_fnF rfl ?_; unfold Den.k11_cell_at; simp_all [])
  have h1 : ¬ (k : Int) < ((ns.map D.int).length : Int) := by rw [List.length_map]; omega
  simp_all [h1]
theorem eight (i : Int) (h0 : 0 ≤ i) (h8 : i < 8) {S : Sto} {a : Nat} (h : zH S a = some [.int 1, .int 1, .int 1, .int 2, .int 3, .int 4, .int 6, .int 12]) : ∃ c : Int, 1 ≤ c ∧ c ≤ 12 ∧ ixD (.ref a) (.int i) S = ok (.int c) S := by
 have : i = 0 ∨ i = 1 ∨ i = 2 ∨ i = 3 ∨ i = 4 ∨ i = 5 ∨ i = 6 ∨ i = 7 := by omega
 rcases this with rfl | rfl | rfl | rfl | rfl | rfl | rfl | rfl
 ·exact ⟨1, by decide, by decide, ixD_ref (i := 0) h rfl⟩
 ·exact ⟨1, by decide, by decide, ixD_ref (i := 1) h rfl⟩
 ·exact ⟨1, by decide, by decide, ixD_ref (i := 2) h rfl⟩
 ·exact ⟨2, by decide, by decide, ixD_ref (i := 3) h rfl⟩
 ·exact ⟨3, by decide, by decide, ixD_ref (i := 4) h rfl⟩
 ·exact ⟨4, by decide, by decide, ixD_ref (i := 5) h rfl⟩
 ·exact ⟨6, by decide, by decide, ixD_ref (i := 6) h rfl⟩
 ·exact ⟨12, by decide, by decide, ixD_ref (i := 7) h rfl⟩
theorem lstD_eq {ds : List D} (h : ds.length ≤ 1000) (S : Sto) : lstD ds S = ok (.ref S.length) (S ++ [.lst ds]) := by
 unfold lstD; rw [if_pos h]; rfl
theorem Le.divInt' {n : Nat} {a b : Int} (hb : 0 < b) (h1 : a.natAbs < 2 ^ n) (h2 : b.natAbs < 2 ^ n) : Le n (Rat.divInt a b) := Le.divInt (by omega) h1 h2
theorem fmod_bd (a : Int) {b : Int} (hb : 0 < b) : 0 ≤ a.fmod b ∧ a.fmod b < b := by
 rw [Int.fmod_eq_emod_of_nonneg a (by omega)]
 exact ⟨Int.emod_nonneg _ (by omega), Int.emod_lt_of_pos _ hb⟩
end Nm
end
section
namespace Nm
open Np PySem
def Scr (ns : List Int) : Prop := ns.length ≤ 63 ∧ ∀ z ∈ ns, z.natAbs.log2 < 1048577
theorem W_new {m : R D} {S : Sto} {xs : List D} {Q : D → Sto → Prop} (h : m = ok (.ref S.length) (S ++ [.lst xs])) (k : ∀ S' b, SLe S S' → S.length ≤ b → zH S' b = some xs → Q (.ref b) S') : W m Q :=
 W.intro h (k _ _ (SLe.app _) (Nat.le_refl _) (lstAt_push S xs))
theorem W_app {S : Sto} {b : Nat} {xs : List D} {d : D} {Q : D → Sto → Prop} (h : zH S b = some xs) (hl : xs.length < 1000000) (k : ∀ S', S'.length = S.length → (∀ S0, SLe S0 S → S0.length ≤ b → SLe S0 S') → (∀ c, c ≠ b → zH S' c = zH S c) → zH S' b = some (xs ++ [d]) → Q .non S') : W (appD (.ref b) d S) Q := by
 refine W.intro (appD_ref d h hl) (k _ (by simp) (fun S0 l hb => l.set hb _) (fun c hc => lstAt_set_ne (Ne.symm hc)) (lstAt_set h))
theorem ixD_at0 {S : Sto} {a : Nat} {xs : List D} {d : D} (h : zH S a = some xs) (hi : xs[0]? = some d) : ixD (.ref a) (.int 0) S = ok d S := ixD_ref (i := 0) h hi
theorem ixD_at1 {S : Sto} {a : Nat} {xs : List D} {d : D} (h : zH S a = some xs) (hi : xs[1]? = some d) : ixD (.ref a) (.int 1) S = ok d S := ixD_ref (i := 1) h hi
def TabR (S : Sto) (a : Nat) (as : List Nat) (T : List (List Rat)) : Prop := zH S a = some (as.map D.ref) ∧ as.length = T.length ∧ ∀ (i b : Nat) r, as[i]? = some b → T[i]? = some r → RowA S b r
theorem TabR.le {S S' : Sto} {a : Nat} {as : List Nat} {T : List (List Rat)} (h : TabR S a as T) (l : SLe S S') : TabR S' a as T := ⟨l.lst h.1, h.2.1, fun i b r h1 h2 => l.lst (h.2.2 i b r h1 h2)⟩
theorem get_map {α : Type} {xs : List α} {f : α → D} {i : Nat} {z : D} (h : (xs.map f)[i]? = some z) : ∃ x, xs[i]? = some x ∧ z = f x := by
 rw [List.getElem?_map] at h
 cases q : xs[i]? with
 | none => rw [q] at h; cases h
 | some x => rw [q] at h; cases h; exact ⟨x, rfl, rfl⟩
theorem zK {α : Type} {xs : List α} {i : Nat} {x : α} (h : xs[i]? = some x) : x ∈ xs := List.mem_of_getElem? h
theorem RowA.to {S : Sto} {a : Nat} {xs ys : List Rat} (h : zH S a = some (xs.map ratD)) (e : xs = ys) : RowA S a ys := e ▸ h
end Nm
end
section
namespace Nm
open Np PySem
end Nm
end
section
namespace Nm
open Np PySem
abbrev addR (xs ys : List Rat) : List Rat := List.zipWith (· + ·) xs ys
abbrev sclR (xs : List Rat) (q : Rat) : List Rat := xs.map (· * q)
def Wide (T : List (List Rat)) (n : Nat) : Prop := ∀ r ∈ T, r.length = n
theorem Wide.tl {r : List Rat} {T : List (List Rat)} {n : Nat} (h : Wide (r :: T) n) : Wide T n := fun x hx => h x (.tail _ hx)
theorem zQ {α : Type} {xs : List α} {i : Nat} (h : i < xs.length) : ∃ x, xs[i]? = some x := ⟨xs[i], by simp [h]⟩
def LeT (n : Nat) (T : List (List Rat)) : Prop := ∀ r ∈ T, ∀ x ∈ r, Le n x
end Nm
end
section
namespace Nm
open Np PySem
structure FT (n : Nat) (S : Sto) (c : Nat) (cs : List Nat) (U : List (List Rat)) : Prop where
 tab : TabR S c cs U
 lo : ∀ b ∈ cs, n ≤ b
 inc : cs.Nodup
 ne : ∀ b ∈ cs, b ≠ c
 nc : n ≤ c
theorem TabR.take {S : Sto} {a b k : Nat} {as : List Nat} {T : List (List Rat)} (h : TabR S a as T) (hb : zH S b = some ((as.take k).map D.ref)) : TabR S b (as.take k) (T.take k) := ⟨hb, by simp [h.2.1], fun i c r h1 h2 => by
 rw [List.getElem?_take] at h1 h2
 split at h1
 ·rename_i hi
  rw [if_pos hi] at h2
  exact h.2.2 i c r h1 h2
 ·cases h1⟩
theorem FT.keep {n : Nat} {S S' : Sto} {c : Nat} {cs : List Nat} {U : List (List Rat)} (h : FT n S c cs U) (k : ∀ a, a = c ∨ a ∈ cs → zH S' a = zH S a) : FT n S' c cs U :=
 ⟨⟨by rw [k c (.inl rfl)]; exact h.tab.1, h.tab.2.1, fun i b r h1 h2 => by
  show zH S' b = _
  rw [k b (.inr (zK h1))]
  exact h.tab.2.2 i b r h1 h2⟩, h.lo, h.inc, h.ne, h.nc⟩
theorem FT.le {n : Nat} {S S' : Sto} {c : Nat} {cs : List Nat} {U : List (List Rat)} (h : FT n S c cs U) (l : SLe S S') : FT n S' c cs U := ⟨h.tab.le l, h.lo, h.inc, h.ne, h.nc⟩
theorem FT.lt {n : Nat} {S : Sto} {c : Nat} {cs : List Nat} {U : List (List Rat)} (h : FT n S c cs U) : ∀ b ∈ cs, b < S.length := fun b hb => by
 obtain ⟨i, hi⟩ := List.getElem?_of_mem hb
 obtain ⟨r, hr⟩ := zQ (show i < U.length by rw [← h.tab.2.1]; exact (List.getElem?_eq_some_iff.mp hi).1)
 exact lstAt_lt (h.tab.2.2 i b r hi hr)
theorem FT.nil {n : Nat} {S : Sto} {c : Nat} (h : zH S c = some []) (hn : n ≤ c) : FT n S c [] [] := ⟨⟨h, rfl, fun i b r h => by simp at h⟩, fun _ h => (by cases h), .nil, fun _ h => (by cases h), hn⟩
theorem range_get {n i j : Nat} (h : (List.range n)[i]? = some j) : j = i ∧ i < n := by
 have hi : i < n := by
  have := (List.getElem?_eq_some_iff.mp h).1
  simpa using this
 exact ⟨by simpa [hi] using h.symm, hi⟩
theorem range_map_get {α : Type} {n i : Nat} {f : Nat → α} {x : α} (h : ((List.range n).map f)[i]? = some x) : x = f i ∧ i < n := by
 rw [List.getElem?_map] at h
 cases q : (List.range n)[i]? with
 | none => rw [q] at h; cases h
 | some j =>
  rw [q] at h
  obtain ⟨rfl, hi⟩ := range_get q
  exact ⟨(Option.some.inj h).symm, hi⟩
theorem setXA_ref {S : Sto} {a i : Nat} {xs : List D} (v : D) (δ : DS) (h : zH S a = some xs) (hi : i < xs.length) : setXA v δ (.ref a) (.int (i : Int)) S = ok δ (S.set a (.lst (xs.set i v))) := by
 show (match zH S a with | some xs => _ | none => none) = _
 rw [h]
 simp only [ixA_nat hi]
theorem W_setX {S : Sto} {b i : Nat} {xs : List D} {v : D} {δ : DS} {Q : DS → Sto → Prop} (h : zH S b = some xs) (hi : i < xs.length) (k : ∀ S', S'.length = S.length → (∀ S0, SLe S0 S → S0.length ≤ b → SLe S0 S') → (∀ c, c ≠ b → zH S' c = zH S c) → zH S' b = some (xs.set i v) → Q δ S') : W (setXA v δ (.ref b) (.int (i : Int)) S) Q := by
 refine W.intro (setXA_ref v δ h hi) (k _ (by simp) (fun S0 l hb => l.set hb _) (fun c hc => lstAt_set_ne (Ne.symm hc)) (lstAt_set h))
theorem FT.rows {n m : Nat} {S : Sto} {c : Nat} {cs : List Nat} {U : List (List Rat)} (h : FT n S c cs U) (hU : ∀ r ∈ U, r.length ≤ m) : ∀ x ∈ cs, ∃ xs, zH S x = some xs ∧ xs.length ≤ m := fun x hx => by
 obtain ⟨i, hi⟩ := List.getElem?_of_mem hx
 obtain ⟨r, hr⟩ := zQ (show i < U.length by rw [← h.tab.2.1]; exact (List.getElem?_eq_some_iff.mp hi).1)
 exact ⟨r.map ratD, h.tab.2.2 i x r hi hr, by simp; exact hU r (zK hr)⟩
end Nm
end
section
namespace Nm
open Np PySem
inductive Deed where
 | swap (i j : Nat) | scale (i : Nat) (q : Rat) | add (i j : Nat) (q : Rat)
def Deed.d : Deed → D
 | .swap i j => .tup [.str "swap", .int (i : Int), .int (j : Int)]
 | .scale i q => .tup [.str "scale", .int (i : Int), ratD q]
 | .add i j q => .tup [.str "add", .int (i : Int), .int (j : Int), ratD q]
def Deed.Ok (m : Nat) : Deed → Prop
 | .swap i j => i < m ∧ j < m ∧ i ≠ j
 | .scale i q => i < m ∧ q ≠ 0
 | .add i j _ => i < m ∧ j < m ∧ i ≠ j
def zR (T : List (List Rat)) (i : Nat) : List Rat := T.getD i []
def doD (T : List (List Rat)) : Deed → List (List Rat)
 | .swap i j => (T.set i (zR T j)).set j (zR T i)
 | .scale i q => T.set i (sclR (zR T i) q)
 | .add i j q => T.set i (addR (zR T i) (sclR (zR T j) q))
def doneR (T : List (List Rat)) (ds : List Deed) : List (List Rat) := ds.foldl doD T
theorem tix (ds : List D) (i : Nat) (d : D) (h : ds[i]? = some d) (S : Sto) : ixD (.tup ds) (.int (i : Int)) S = ok d S := by
 have hl : i < ds.length := (List.getElem?_eq_some_iff.mp h).1
 show ixK (some ds) i S = _
 unfold ixK
 simp only [ixA_nat hl, Option.bind_some, h]
theorem tix0 (a : D) (r : List D) (S : Sto) : ixD (.tup (a :: r)) (.int 0) S = ok a S := tix (a :: r) 0 a rfl S
theorem tix1 (a b : D) (r : List D) (S : Sto) : ixD (.tup (a :: b :: r)) (.int 1) S = ok b S := tix (a :: b :: r) 1 b rfl S
theorem tix2 (a b c : D) (r : List D) (S : Sto) : ixD (.tup (a :: b :: c :: r)) (.int 2) S = ok c S := tix (a :: b :: c :: r) 2 c rfl S
theorem is_ratio_rat (q : Rat) (S : Sto) : F.is_ratio [ratD q] S = ok (.bl true) S := by
 refine W_eq ?_
 have h1 : (1 : Int) ≤ q.den := by have := den_pos' q; omega
 have h2 : Int.gcd (if q.num < 0 then -q.num else q.num) (q.den : Int) = 1 := by rw [gcd_abs1]; exact gcd_num_den q
 (unfold F.is_ratio; refine Np.W_fnF rfl ?_; unfold Den.is_ratio; simp_all [])
 simp_all [whole_int, h1, greatest_common_eq (abs_nonneg q.num) (show (0 : Int) ≤ q.den by omega), h2]
 exact ⟨rfl, trivial⟩
def Deed.le (n : Nat) : Deed → Prop
 | .swap _ _ => True
 | .scale _ q => Le n q
 | .add _ _ q => Le n q
theorem set_get {α : Type} {xs : List α} {i k : Nat} {x y : α} (h : (xs.set i x)[k]? = some y) : (k = i ∧ y = x) ∨ (k ≠ i ∧ xs[k]? = some y) := by
 by_cases e : i = k
 ·subst e
  rw [List.getElem?_set] at h
  split at h
  ·split at h
   ·exact .inl ⟨rfl, (Option.some.inj h).symm⟩
   ·cases h
  ·exact absurd rfl (by assumption)
 ·rw [List.getElem?_set_ne e] at h
  exact .inr ⟨fun z => e z.symm, h⟩
theorem TabR.set {S S' : Sto} {c i b : Nat} {cs : List Nat} {U : List (List Rat)} {r : List Rat} (hl : cs.length = U.length) (hr : ∀ (k x : Nat) u, cs[k]? = some x → U[k]? = some u → RowA S x u) (hb : RowA S b r) : ∀ (k x : Nat) u, (cs.set i b)[k]? = some x → (U.set i r)[k]? = some u → RowA S x u := by
 intro k x u h1 h2
 rcases set_get h1 with ⟨rfl, rfl⟩ | ⟨hk, h1⟩
 ·rcases set_get h2 with ⟨_, rfl⟩ | ⟨hk, _⟩
  ·exact hb
  ·exact absurd rfl hk
 ·rcases set_get h2 with ⟨rfl, _⟩ | ⟨_, h2⟩
  ·exact absurd rfl hk
  ·exact hr k x u h1 h2
theorem map_set_ref (cs : List Nat) (i b : Nat) : (cs.map D.ref).set i (.ref b) = (cs.set i b).map D.ref := by rw [List.map_set]
theorem swap_get {α : Type} {xs : List α} {i j k : Nat} {a b y : α} (hi : xs[i]? = some a) (hj : xs[j]? = some b) (h : ((xs.set i b).set j a)[k]? = some y) : (k = j ∧ y = a) ∨ (k ≠ j ∧ k = i ∧ y = b) ∨ (k ≠ j ∧ k ≠ i ∧ xs[k]? = some y) := by
 rcases set_get h with ⟨rfl, rfl⟩ | ⟨hk, h⟩
 ·exact .inl ⟨rfl, rfl⟩
 ·rcases set_get h with ⟨rfl, rfl⟩ | ⟨hk2, h⟩
  ·exact .inr (.inl ⟨hk, rfl, rfl⟩)
  ·exact .inr (.inr ⟨hk, hk2, h⟩)
theorem nodup_swap {xs : List Nat} {i j a b : Nat} (h : xs.Nodup) (hi : xs[i]? = some a) (hj : xs[j]? = some b) : ((xs.set i b).set j a).Nodup := by
 show List.Pairwise _ _
 rw [List.pairwise_iff_getElem]
 intro p q hp hq hpq
 have hql : q < xs.length := by simpa using hq
 have inj : ∀ {u v x : Nat}, xs[u]? = some x → xs[v]? = some x → u = v := by
  intro u v x hu hv
  have h1 := (List.getElem?_eq_some_iff.mp hu)
  have h2 := (List.getElem?_eq_some_iff.mp hv)
  exact (List.getElem_inj h).mp (h1.2.trans h2.2.symm)
 obtain ⟨x, hx⟩ := zQ (xs := (xs.set i b).set j a) (i := p) (by simp; omega)
 obtain ⟨y, hy⟩ := zQ (xs := (xs.set i b).set j a) (i := q) (by simp; omega)
 intro e
 have e : x = y := by
  have h1 := (List.getElem?_eq_some_iff.mp hx).2
  have h2 := (List.getElem?_eq_some_iff.mp hy).2
  rw [← h1, ← h2]
  exact e
 subst e
 rcases swap_get hi hj hx with ⟨e1, e2⟩ | ⟨p1, e1, e2⟩ | ⟨p1, p2, hx'⟩ <;> rcases swap_get hi hj hy with ⟨e3, e4⟩ | ⟨q1, e3, e4⟩ | ⟨q1, q2, hy'⟩
 ·omega
 ·rw [e2] at e4; rw [← e4] at hj; have := inj hi hj; omega
 ·rw [e2] at hy'; have := inj hy' hi; omega
 ·rw [e2] at e4; rw [← e4] at hi; have := inj hi hj; omega
 ·omega
 ·rw [e2] at hy'; have := inj hy' hj; omega
 ·rw [e4] at hx'; have := inj hx' hi; omega
 ·rw [e4] at hx'; have := inj hx' hj; omega
 ·have := inj hx' hy'; omega
theorem allB_true (n : Nat) : allB (List.replicate n (D.bl true)) = some true := by
 have := allB_map (fun _ : Nat => true) (List.range n)
 rw [List.map_const', List.length_range] at this
 rw [this]
 congr 1
 exact List.all_eq_true.mpr fun _ _ => rfl
end Nm
end
section
namespace Nm
open Np PySem
def Kn (S : Sto) : D → Prop
 | .ref a => (∃ xs, S[a]? = some (.lst xs)) ∨ ∃ kvs, S[a]? = some (.dct kvs)
 | .exc _ => False
 | .scr _ => False
 | _ => True
def partsD : D → List D
 | .tup xs => xs
 | _ => []
def Kn2 (S : Sto) (d : D) : Prop := Kn S d ∧ ∀ x ∈ partsD d, Kn S x
def Gd (S : Sto) (d : D) : Prop := (Kn S d ∧ ∀ x ∈ partsD d, Kn2 S x) ∧ flat 8 d = true
theorem Gd.flats {S : Sto} : ∀ {xs : List D}, (∀ x ∈ xs, Gd S x) → flats 8 xs = true
 | [], _ => rfl
 | x :: xs, h => by
  show (flat 8 x && Np.flats 8 xs) = true
  rw [(h x (by simp)).2, Gd.flats fun y hy => h y (by simp [hy])]
  rfl
theorem addL {S : Sto} {a b : Nat} {xs ys : List D} (ha : zH S a = some xs) (hb : zH S b = some ys) (hl : xs.length + ys.length ≤ 1000000) : addD (.ref a) (.ref b) S = ok (.ref S.length) (S ++ [.lst (xs ++ ys)]) := by
 show catD (zH S a) (zH S b) S = _
 rw [ha, hb]
 show (if _ then _ else _) = _
 rw [if_pos hl]; rfl
end Nm
end
section
namespace Nm
open Np PySem
theorem dvm_eq {i j : Int} (h : j ≠ 0) (S : Sto) : dvmD [.int i, .int j] S = ok (.tup [.int (i.fdiv j), .int (i.fmod j)]) S := by
 show (if _ then _ else _) = _
 rw [if_neg h]
theorem tupG2 (a b : DG) (x y : D) (δ : DS) (S : Sto) : tupG [a, b] (.tup [x, y]) δ S = tupGs [a, b] [x, y] δ S := rfl
theorem tup3 (x y z : D) (S : Sto) : tupD [x, y, z] S = ok (.tup [x, y, z]) S := rfl
theorem tup4 (x y z w : D) (S : Sto) : tupD [x, y, z, w] S = ok (.tup [x, y, z, w]) S := rfl
theorem FT.swap {n : Nat} {S S' : Sto} {c i j bi bj : Nat} {cs : List Nat} {U : List (List Rat)} {ri rj : List Rat} (h : FT n S c cs U) (hbi : cs[i]? = some bi) (hbj : cs[j]? = some bj) (hri : U[i]? = some ri) (hrj : U[j]? = some rj) (k1 : ∀ a, a ≠ c → zH S' a = zH S a) (k2 : zH S' c = some (((cs.map D.ref).set i (.ref bj)).set j (.ref bi))) :
  FT n S' c ((cs.set i bj).set j bi) ((U.set i rj).set j ri) := by
 rw [map_set_ref, map_set_ref] at k2
 have key : ∀ x u, RowA S x u → x ∈ cs → RowA S' x u := fun x u hx hm => by
  show zH S' x = _
  rw [k1 x (h.ne x hm)]
  exact hx
 have row1 := h.tab.2.2 i bi ri hbi hri
 have row2 := h.tab.2.2 j bj rj hbj hrj
 refine ⟨⟨k2, by simp [h.tab.2.1], fun p x u h1 h2 => ?_⟩, fun x hx => ?_, nodup_swap h.inc hbi hbj, fun x hx => ?_, h.nc⟩
 ·rcases swap_get hbi hbj h1 with ⟨e0, e5⟩ | ⟨p1, e0, e5⟩ | ⟨p1, p2, h1⟩ <;> rcases swap_get hri hrj h2 with ⟨e1, e2⟩ | ⟨q1, e1, e2⟩ | ⟨q1, q2, h2⟩
  ·rw [e5, e2]; exact key _ _ row1 (zK hbi)
  ·exact absurd e0 q1
  ·exact absurd e0 q1
  ·exact absurd e1 p1
  ·rw [e5, e2]; exact key _ _ row2 (zK hbj)
  ·exact absurd e0 q2
  ·exact absurd e1 p1
  ·exact absurd e1 p2
  ·exact key _ _ (h.tab.2.2 p x u h1 h2) (zK h1)
 ·rcases List.mem_or_eq_of_mem_set hx with z | z
  ·rcases List.mem_or_eq_of_mem_set z with z | z
   ·exact h.lo x z
   ·rw [z]; exact h.lo _ (zK hbj)
  ·rw [z]; exact h.lo _ (zK hbi)
 ·rcases List.mem_or_eq_of_mem_set hx with z | z
  ·rcases List.mem_or_eq_of_mem_set z with z | z
   ·exact h.ne x z
   ·rw [z]; exact h.ne _ (zK hbj)
  ·rw [z]; exact h.ne _ (zK hbi)
end Nm
end
section
namespace Nm
open Np PySem
theorem lowest_eq {a b : Int} (hb : 0 < b) (S : Sto) : F.k52_lowest [.int a, .int b] S = ok (ratD (Rat.divInt a b)) S := by
 refine W_eq ?_
 have hn : ¬ b < 0 := by omega
 obtain ⟨c0, c1, c2⟩ := ratio_parts (a := a) (b := b) (by omega) (((Int.gcd b a : Nat) : Int)) (by rw [if_neg hn])
 rw [Int.gcd_comm] at c0 c1 c2
 (unfold F.k52_lowest; refine Np.W_fnF rfl ?_; unfold Den.k52_lowest; simp_all [])
 refine W_whileS (fun δ S' => S' = S ∧ ∃ x y, δ = [some (.int a), some (.int b), some (.int x), some (.int y)] ∧ 0 ≤ x ∧ 0 ≤ y ∧ Int.gcd x y = Int.gcd a b) (fun δ _ => match δ with | [_, _, _, some (.int y)] => y.natAbs | _ => 0) ⟨rfl, _, b, rfl, abs_nonneg a, by omega, gcd_abs1 a b⟩ ?_
 rintro δ S' ⟨rfl, x, y, rfl, hx, hy, hg⟩
 simp_all []
 by_cases h0 : y = 0
 ·subst h0
  have hx' : x = ((Int.gcd a b : Nat) : Int) := by rw [← hg]; simp; omega
  subst hx'
  simp_all [fdivD_int c0]
  simp only [c1, c2, ratD, and_self]
 ·rw [if_pos h0]
  obtain ⟨h1, h2, h3⟩ := gcd_step (a := x) (b := y) (by omega) hx
  simp_all [modD_int h0]
  simp only [loopQ]
  refine ⟨⟨trivial, y, x.fmod y, rfl, hy, h1, by rw [h3, hg]⟩, by omega⟩
theorem log_of {i : Int} {n : Nat} (h0 : 0 ≤ i) (h : i < 2 ^ n) : i.natAbs.log2 ≤ n := by
 refine log2_le ?_
 have : ((2 : Int) ^ n) = ((2 ^ n : Nat) : Int) := by norm_cast
 omega
theorem mixed_eq {k : Int} (h0 : 0 ≤ k) (h1 : k < 1000) (c : Int) (S : Sto) : ∃ m : Int, 0 ≤ m ∧ F.k52_mixed [.int c, .int k] S = ok (.int m) S := by
 suffices h : W (F.k52_mixed [.int c, .int k] S) fun d S' => S' = S ∧ ∃ m : Int, 0 ≤ m ∧ d = .int m by
  obtain ⟨d, S', e, rfl, m, hm, rfl⟩ := h.out
  exact ⟨m, hm, e⟩
 (unfold F.k52_mixed; refine Np.W_fnF rfl ?_; unfold Den.k52_mixed; simp_all [])
 obtain ⟨a1, a2⟩ := fmod_bd c (show (0 : Int) < 2147483629 by decide)
 have m1 : (7 : Int).natAbs.log2 + k.natAbs.log2 ≤ 100000000 := by
  have := log_of (n := 10) h0 (by omega)
  have : (7 : Int).natAbs.log2 = 2 := by decide
  omega
 have m2 : (c.fmod 2147483629 + 7 * k + 3).natAbs.log2 + (48271 : Int).natAbs.log2 ≤ 100000000 := by
  have := log_of (i := c.fmod 2147483629 + 7 * k + 3) (n := 40) (by omega) (by omega)
  have : (48271 : Int).natAbs.log2 = 15 := by decide
  omega
 have nz : (2147483647 : Int) ≠ 0 := by decide
 simp_all [modD_int (show (2147483629 : Int) ≠ 0 by decide), mulD_int m1, mulD_int m2, modD_int nz, show rng1D [.int 6] S = ok (.fix (intsD 0 6)) S from rng1D_nat (n := 6) (by decide) S, intsD_zero]
 obtain ⟨b1, b2⟩ := fmod_bd ((c.fmod 2147483629 + 7 * k + 3) * 48271) (show (0 : Int) < 2147483647 by decide)
 refine W_forK ((List.range 6).map fun i => D.int (i : Nat)) (fun i δ S' => S' = S ∧ ∃ (n f : Int) (o : Option D), δ = [some (.int c), some (.int k), some (.int n), some (.int f), o] ∧ 0 ≤ n ∧ n < 2147483647 ∧ 0 ≤ f ∧ f < 2147483647 ^ i) (Nat.le_refl _) ⟨rfl, _, 0, _, rfl, b1, b2, by decide, by decide⟩ (fun i δ S' _ => rfl) ?_ ?_
 ·rintro i x δ S' hx ⟨rfl, n, f, o, rfl, n1, n2, f1, f2⟩
  obtain ⟨rfl, hi⟩ := range_map_get hx
  have p6 : (2147483647 : Int) ^ i ≤ 2 ^ 200 := by
   have : i = 0 ∨ i = 1 ∨ i = 2 ∨ i = 3 ∨ i = 4 ∨ i = 5 := by omega
   rcases this with rfl | rfl | rfl | rfl | rfl | rfl <;> decide
  have k1 : n.natAbs.log2 + (69621 : Int).natAbs.log2 ≤ 100000000 := by
   have := log_of (n := 31) n1 (by omega)
   have : (69621 : Int).natAbs.log2 = 16 := by decide
   omega
  have k2 : (11 : Int).natAbs.log2 + ((i : Nat) : Int).natAbs.log2 ≤ 100000000 := by
   have := log_of (i := (i : Int)) (n := 3) (by omega) (by omega)
   have : (11 : Int).natAbs.log2 = 3 := by decide
   omega
  have k3 : f.natAbs.log2 + (2147483647 : Int).natAbs.log2 ≤ 100000000 := by
   have := log_of (n := 200) f1 (by omega)
   have : (2147483647 : Int).natAbs.log2 = 30 := by decide
   omega
  obtain ⟨e1, e2⟩ := fmod_bd (n * 69621 + 11 * (i : Int) + 5) (show (0 : Int) < 2147483647 by decide)
  simp_all [mulD_int k1, mulD_int k2, mulD_int k3, modD_int nz]
  simp only [loopQ]
  refine ⟨trivial, _, _, _, rfl, e1, e2, by omega, ?_⟩
  have : (2147483647 : Int) ^ (i + 1) = 2147483647 ^ i * 2147483647 := Int.pow_succ _ _
  omega
 ·rintro δ S' ⟨rfl, n, f, o, rfl, n1, n2, f1, f2⟩
  simp_all []
  exact ⟨trivial, f, f1, rfl⟩
theorem ratio52_w {n : Int} (h0 : 0 ≤ n) (h1 : n < 100003) (S : Sto) : W (F.k52_ratio [.int n] S) fun d S' => SLe S S' ∧ ∃ q, Le 70 q ∧ d = ratD q := by
 (unfold F.k52_ratio; refine Np.W_fnF rfl ?_; unfold Den.k52_ratio; simp_all [])
 have q15 : ∀ S, powD (.int 10) (.int 15) S = ok (.int (10 ^ 15)) S := fun S => powD_ok (by decide) S
 have a1 : n.fdiv 16 = n / 16 := Int.fdiv_eq_ediv_of_nonneg _ (by decide)
 have a2 : (n.fdiv 16).fdiv 8 = n.fdiv 16 / 8 := Int.fdiv_eq_ediv_of_nonneg _ (by decide)
 have m2 : ((n.fdiv 16).fdiv 8).natAbs.log2 + ((10 : Int) ^ 15).natAbs.log2 ≤ 100000000 := by
  have := log_of (i := (n.fdiv 16).fdiv 8) (n := 17) (by omega) (by omega)
  have : ((10 : Int) ^ 15).natAbs.log2 = 49 := by decide +kernel
  omega
 have h70 : (2 : Nat) ^ 70 = 1180591620717411303424 := by decide
 simp_all [Np.W_ifK, Np.W_ifEK, Np.W_andTK, Np.W_orTK, Np.W_andVB, Np.W_orVB, Np.W_chnB, dvm_eq (show (16 : Int) ≠ 0 by decide), dvm_eq (show (8 : Int) ≠ 0 by decide), tupG2, q15, p10_20, mulD_int m2, modD_int (show (19 : Int) ≠ 0 by decide), lstD_eq (show [D.int 1, D.int 1, D.int 1, D.int 2, D.int 3, D.int 4, D.int 6, D.int 12].length ≤ 1000 by decide)]
 split
 ·refine ⟨SLe.rfl, (((n.fdiv 16).fdiv 8 * 10 ^ 15 - 10 ^ 20 : Int) : Rat), ⟨?_, by show (1 : Nat) < _; decide⟩, rfl⟩
  show ((n.fdiv 16).fdiv 8 * 10 ^ 15 - 10 ^ 20 : Int).natAbs < _
  omega
 ·obtain ⟨h1, h2⟩ := fmod_bd (n.fdiv 16) (show (0 : Int) < 8 by decide)
  obtain ⟨h3, h4⟩ := fmod_bd ((n.fdiv 16).fdiv 8) (show (0 : Int) < 19 by decide)
  obtain ⟨c, c1, c2, c3⟩ := eight _ h1 h2 (lstAt_push S _)
  simp_all [c3, lowest_eq (show (0 : Int) < c by omega)]
  exact ⟨SLe.app _, _, Le.divInt' (by omega) (by omega) (by omega), rfl⟩
theorem row52_w (n : Int) {k : Nat} (hk : k < 900) (S : Sto) : W (F.k52_row [.int n, .int (k : Int)] S) fun d S' => ∃ c xs, d = .ref c ∧ S.length ≤ c ∧ SLe S S' ∧ RowA S' c xs ∧ xs.length = k ∧ ∀ x ∈ xs, Le 70 x := by
 (unfold F.k52_row; refine Np.W_fnF rfl ?_; unfold Den.k52_row; simp_all [])
 refine W_new (lstD_eq (by simp) _) fun S1 c l1 n1 r1 => ?_
 simp_all [rng1D_nat (show k < 1000000 by omega), intsD_zero]
 refine W_forK ((List.range k).map fun i => D.int (i : Nat)) (fun i δ S' => SLe S S' ∧ (∃ xs, RowA S' c xs ∧ xs.length = i ∧ ∀ x ∈ xs, Le 70 x) ∧ ∃ (o3 : Option D), δ = [some (.int n), some (.int (k : Int)), some (.ref c), o3]) (Nat.le_refl _)
  ⟨l1, ⟨[], r1, rfl, fun _ h => (by cases h)⟩, _, rfl⟩ (fun i δ S' _ => rfl) ?_ ?_
 ·rintro i x δ S2 hx ⟨L, ⟨xs, rc, hxl, hxs⟩, o3, rfl⟩
  obtain ⟨rfl, hi⟩ := range_map_get hx
  obtain ⟨m, m0, em⟩ := mixed_eq (k := 31 + (i : Int)) (by omega) (by omega) n S2
  obtain ⟨g1, g2⟩ := fmod_bd m (show (0 : Int) < 100003 by decide)
  simp_all [opMK_ref rc, em, modD_int (show (100003 : Int) ≠ 0 by decide)]
  refine (ratio52_w g1 g2 S2).mono ?_
  rintro d S3 ⟨l3, q, hq, rfl⟩
  refine W_app (l3.lst rc) (by simp; omega) fun S4 _ k4 _ r4 => ?_
  refine ⟨k4 _ (L.trans l3) n1, ⟨xs ++ [q], by show zH S4 c = _; rw [r4]; simp, by simp [hxl], fun x hx => ?_⟩, _, rfl⟩
  rcases List.mem_append.mp hx with h | h
  ·exact hxs x h
  ·rw [List.mem_singleton.mp h]; exact hq
 ·rintro δ S2 ⟨L, ⟨xs, rc, hxl, hxs⟩, o3, rfl⟩
  simp_all []
  exact ⟨c, xs, rfl, n1, L, rc, by simpa using hxl, hxs⟩
end Nm
end
section
namespace Nm
open Np PySem
def Deed.back : Deed → Deed
 | .swap i j => .swap i j
 | .scale i q => .scale i (1 / q)
 | .add i j q => .add i j (0 - q)
def Deed.t : Deed → T
 | .swap i j => .tup [.str "swap", .int (i : Int), .int (j : Int)]
 | .scale i q => .tup [.str "scale", .int (i : Int), ratT q]
 | .add i j q => .tup [.str "add", .int (i : Int), .int (j : Int), ratT q]
end Nm
end
section
namespace Nm
open Np PySem
theorem clearD_ref {S : Sto} {a : Nat} {xs : List D} (h : zH S a = some xs) : clearD (.ref a) S = ok .non (S.set a (.lst [])) := by
 show (match zH S a with | some _ => _ | none => none) = _
 rw [h]
end Nm
end
section
namespace Nm
open Np PySem
def Sg : Nat → (Nat → Rat) → Rat
 | 0, _ => 0
 | n + 1, f => Sg n f + f n
theorem zM {n : Nat} {f g : Nat → Rat} (h : ∀ i, i < n → f i = g i) : Sg n f = Sg n g := by
 induction n with
 | zero => rfl
 | succ n ih => simp only [Sg]; rw [ih fun i hi => h i (by omega), h n (by omega)]
theorem Sg_add (n : Nat) (f g : Nat → Rat) : Sg n (fun i => f i + g i) = Sg n f + Sg n g := by
 induction n with
 | zero => simp [Sg, Rat.add_zero]
 | succ n ih => simp only [Sg, ih]; grind
theorem Sg_mul (n : Nat) (f : Nat → Rat) (q : Rat) : Sg n (fun i => f i * q) = Sg n f * q := by
 induction n with
 | zero => simp [Sg, Rat.zero_mul]
 | succ n ih => simp only [Sg, ih]; grind
theorem Sg_zero (n : Nat) : Sg n (fun _ => 0) = 0 := by
 induction n with
 | zero => rfl
 | succ n ih => simp only [Sg, ih, Rat.add_zero]
theorem Sg_swap (n m : Nat) (f : Nat → Nat → Rat) : Sg n (fun i => Sg m fun j => f i j) = Sg m fun j => Sg n fun i => f i j := by
 induction n with
 | zero => simp only [Sg]; exact (Sg_zero m).symm
 | succ n ih => simp only [Sg, ih, Sg_add]
def ent (T : List (List Rat)) (i k : Nat) : Rat := (T.getD i []).getD k 0
end Nm
end
section
namespace Nm
open Np PySem
def pvt (T : List (List Rat)) (p f c : Nat) : List Deed := (if f ≠ p then [.swap p f] else []) ++ (if ent T f c ≠ 1 then [.scale p (1 / ent T f c)] else [])
def toClear (T : List (List Rat)) (p f c : Nat) : List Nat := (List.range T.length).filter fun i => decide (i ≠ p ∧ i ≠ f ∧ ent T i c ≠ 0)
def clearDs (T : List (List Rat)) (p f c : Nat) : List Deed := pvt T p f c ++ (toClear T p f c).map fun i => Deed.add i p (0 - ent T i c)
structure RedI (T : List (List Rat)) (fs : List Nat) (c : Nat) : Prop where
 inc : fs.Pairwise (· < ·)
 lt : ∀ x ∈ fs, x < c
 le : fs.length ≤ T.length
 one : ∀ (k x : Nat), fs[k]? = some x → ent T k x = 1
 bef : ∀ (k x j : Nat), fs[k]? = some x → j < x → ent T k j = 0
 alone : ∀ (k x i : Nat), fs[k]? = some x → i ≠ k → ent T i x = 0
 low : ∀ i j : Nat, fs.length ≤ i → j < c → ent T i j = 0
theorem RedI.nil (T : List (List Rat)) : RedI T [] 0 := ⟨.nil, fun _ h => (by cases h), Nat.zero_le _, fun k x h => (by simp at h), fun k x j h => (by simp at h), fun k x i h => (by simp at h), fun i j _ h => (by omega)⟩
def gr (b : Nat) : Nat → Nat
 | 0 => b
 | n + 1 => 4 * gr b n + 1
end Nm
end
section
namespace Nm
open Np PySem
theorem rng2D_nat {p n : Nat} (hp : p < 1000000) (hn : n < 1000000) (S : Sto) : rng2D [.int (p : Int), .int (n : Int)] S = ok (.fix ((List.range' p (n - p)).map fun i => D.int (i : Nat))) S := by
 have hlim := lim_eq
 simp only [rng2D]
 rw [if_pos (by omega), ← intsD_map]
 rw [show ((n : Int) - (p : Int)).toNat = n - p by omega]
end Nm
end
section
namespace Nm
open Np PySem
def tb : Nat → Nat
 | 0 => 27
 | k + 1 => max (tb k) (1 + (tb k + 27 + 1) * k)
end Nm
end
section
namespace Nm
open Np PySem
abbrev natD (i : Nat) : D := .int (i : Int)
end Nm
end
section
namespace Nm
open Np PySem
end Nm
end
section
namespace Nm
open Np PySem
def dt (n : Nat) (w f g : Nat → Rat) : Rat := Sg n fun c => f c * g c * w c
theorem dt_congr {n : Nat} {w f g f' g' : Nat → Rat} (h1 : ∀ c, c < n → f c = f' c) (h2 : ∀ c, c < n → g c = g' c) : dt n w f g = dt n w f' g' := zM fun i hi => by rw [h1 i hi, h2 i hi]
theorem dt_add (n : Nat) (w f f' g : Nat → Rat) : dt n w (fun c => f c + f' c) g = dt n w f g + dt n w f' g := by
 unfold dt
 rw [← Sg_add]
 exact zM fun i _ => by grind
theorem dt_mix (n m : Nat) (w : Nat → Rat) (f : Nat → Nat → Rat) (a : Nat → Rat) (g : Nat → Rat) : dt n w (fun c => Sg m fun j => f j c * a j) g = Sg m fun j => dt n w (f j) g * a j := by
 unfold dt
 have e : Sg n (fun c => Sg m (fun j => f j c * a j) * g c * w c) = Sg n fun c => Sg m fun j => f j c * g c * w c * a j := by
  refine zM fun c _ => ?_
  rw [← Sg_mul, ← Sg_mul]
  exact zM fun j _ => by grind
 rw [e, Sg_swap]
 exact zM fun j _ => by rw [← Sg_mul]
structure GS (n : Nat) (w : Nat → Rat) (R L H : Nat → Nat → Rat) (k : Nat) : Prop where
 mix : ∀ i, i < k → ∀ c, R i c = L i c + Sg i fun j => R j c * H i j
 low : ∀ i j, i < k → i ≤ j → H i j = 0
 up : ∀ i j, i < k → j < k → i ≠ j → dt n w (L i) (L j) = 0
 free : ∀ i j, i < k → j < i → (∀ c, c < n → L j c = 0) → H i j = 0
def AmtIs (n : Nat) (w r l : Nat → Rat) (a : Rat) : Prop := ((∀ c, c < n → l c = 0) ∧ a = 0) ∨ (dt n w l l ≠ 0 ∧ a = dt n w r l / dt n w l l)
theorem AmtIs.eq {n : Nat} {w r l : Nat → Rat} {a : Rat} (h : AmtIs n w r l a) : dt n w r l = dt n w l l * a := by
 rcases h with ⟨h1, h2⟩ | ⟨h1, h2⟩
 ·rw [h2, Rat.mul_zero]
  unfold dt
  rw [zM (g := fun _ => 0) fun i hi => by rw [h1 i hi]; grind, Sg_zero]
 ·rw [h2, Rat.div_def, Rat.mul_comm (dt n w r l), ← Rat.mul_assoc, Rat.mul_inv_cancel _ h1, Rat.one_mul]
theorem GS.rows {n k : Nat} {w : Nat → Rat} {R L H : Nat → Nat → Rat} (g : GS n w R L H k) {f : Nat → Rat} (m : Nat) (hm : m ≤ k) (h : ∀ j, j < m → dt n w (L j) f = 0) : ∀ j, j < m → dt n w (R j) f = 0 := by
 intro j
 induction j using Nat.strongRecOn with
 | _ j ih =>
  intro hj
  have : dt n w (R j) f = dt n w (fun c => L j c + Sg j fun i => R i c * H j i) f := dt_congr (fun c _ => g.mix j (by omega) c) fun _ _ => rfl
  rw [this, dt_add, dt_mix, h j hj, zM (g := fun _ => 0) fun i hi => by rw [ih i hi (by omega), Rat.zero_mul], Sg_zero]
  grind
end Nm
end
section
namespace Nm
open Np PySem
def skip (p k : Nat) : Nat := if k < p then k else k + 1
def upd (A : Nat → Nat → Rat) (r : Nat) (f : Nat → Rat) : Nat → Nat → Rat := fun i c => if i = r then f c else A i c
theorem zW (A : Nat → Nat → Rat) (r : Nat) (f : Nat → Rat) (c : Nat) : upd A r f r c = f c := by unfold upd; rw [if_pos rfl]
theorem zO {A : Nat → Nat → Rat} {r i : Nat} {f : Nat → Rat} (h : i ≠ r) (c : Nat) : upd A r f i c = A i c := by unfold upd; rw [if_neg h]
end Nm
end
section
namespace Nm
open Np PySem
def Deed.turn : Deed → Deed
 | .swap i j => .swap i j
 | .scale i q => .scale i q
 | .add i j q => .add j i q
end Nm
end
section
namespace Nm
open Np PySem
end Nm
end
section
namespace Nm
open Np PySem
section
variable {T E : List (List Rat)} {w : Nat}
end
end Nm
end
section
namespace Nm
open Np PySem
def Tw (a b : Nat) (q : Rat) : Prop := ∃ n : Int, q * ((12 ^ a : Int) : Rat) = (n : Rat) ∧ n.natAbs < 2 ^ b
theorem Tw.up {a b : Nat} {q : Rat} (h : Tw a b q) : Tw (a + 1) (b + 4) q := by
 obtain ⟨n, h1, h2⟩ := h
 refine ⟨n * 12, ?_, by rw [Int.natAbs_mul]; exact mul_lt_pow h2 (by decide)⟩
 rw [Int.pow_succ, Rat.intCast_mul, Rat.intCast_mul, ← h1]
 grind
theorem Tw.add {a b c : Nat} {p q : Rat} (hp : Tw a b p) (hq : Tw a c q) : Tw a (max b c + 1) (p + q) := by
 obtain ⟨n, h1, h2⟩ := hp
 obtain ⟨m, h3, h4⟩ := hq
 refine ⟨n + m, ?_, ?_⟩
 ·rw [Rat.intCast_add, ← h1, ← h3]; grind
 ·have e1 : 2 ^ b ≤ 2 ^ max b c := Nat.pow_le_pow_right (by decide) (Nat.le_max_left _ _)
  have e2 : 2 ^ c ≤ 2 ^ max b c := Nat.pow_le_pow_right (by decide) (Nat.le_max_right _ _)
  have := Int.natAbs_add_le n m
  rw [Nat.pow_succ]
  omega
theorem Tw.zero (a b : Nat) : Tw a b 0 := ⟨0, by grind, by show 0 < _; exact Nat.two_pow_pos b⟩
theorem Tw.le {a b N : Nat} {q : Rat} (h : Tw a b q) (h1 : b ≤ N) (h2 : 4 * a < N) : Le N q := by
 obtain ⟨n, e, hn⟩ := h
 have hD : (0 : Int) < 12 ^ a := Int.pow_pos (by decide)
 have hD' : ((12 ^ a : Int) : Rat) ≠ 0 := fun z => by
  have : (12 ^ a : Int) = 0 := by exact_mod_cast z
  omega
 have eq : q = Rat.divInt n (12 ^ a) := by
  rw [Rat.divInt_eq_div, ← e, Rat.mul_div_cancel hD']
 rw [eq]
 refine Le.divInt' hD (Nat.lt_of_lt_of_le hn (Nat.pow_le_pow_right (by decide) h1)) ?_
 have : ((12 : Int) ^ a).natAbs = 12 ^ a := by rw [Int.natAbs_pow]; rfl
 rw [this]
 have h16 : (12 : Nat) ^ a ≤ 16 ^ a := Nat.pow_le_pow_left (by decide) a
 have e16 : (16 : Nat) ^ a = 2 ^ (4 * a) := by rw [Nat.pow_mul]
 rw [e16] at h16
 exact Nat.lt_of_le_of_lt h16 (Nat.pow_lt_pow_right (by decide) h2)
def TwT (a b : Nat) (T : List (List Rat)) : Prop := ∀ r ∈ T, ∀ x ∈ r, Tw a b x
theorem TwT.le {a b N : Nat} {T : List (List Rat)} (h : TwT a b T) (h1 : b ≤ N) (h2 : 4 * a < N) : LeT N T := fun r hr x hx => (h r hr x hx).le h1 h2
end Nm
end
section
namespace Nm
open Np PySem
def Rl (A : List (List Rat)) (m : Nat) (c : Nat → Rat) : Prop := ∀ i, Sg m (fun k => ent A i k * c k) = 0
end Nm
end
section
namespace Nm
open Np PySem
theorem TabR.drop {S : Sto} {b k : Nat} {as : List Nat} {T : List (List Rat)} (hl : as.length = T.length) (hb : zH S b = some ((as.drop k).map D.ref)) (hr : ∀ (i c : Nat) r, k ≤ i → as[i]? = some c → T[i]? = some r → RowA S c r) : TabR S b (as.drop k) (T.drop k) := ⟨hb, by simp [hl], fun i c r h1 h2 => by
 rw [List.getElem?_drop] at h1 h2
 exact hr (k + i) c r (by omega) h1 h2⟩
end Nm
end
section
namespace Nm
open Np PySem
section
variable {U : List (List Rat)} {fs : List Nat} {w : Nat}
end
section
variable {T : List (List Rat)} {w m b : Nat}
end
end Nm
end
section
namespace Nm
open Np PySem
theorem memT_nats' (k : Nat) : ∀ fs : List Nat, memT (.int (k : Int)) (fs.map fun (i : Nat) => Np.T.int (i : Int)) = decide (k ∈ fs)
 | [] => by simp [memT]
 | f :: fs => by
  simp only [List.map_cons, memT, memT_nats' k fs, eqT]
  by_cases h : k = f
  ·subst h; simp
  ·have : ¬ ((k : Int) = (f : Int)) := by omega
   by_cases h2 : k ∈ fs <;> simp [h, h2, this]
theorem notinD_nats {S : Sto} {a k : Nat} {fs : List Nat} (h : zH S a = some (fs.map natD)) : notinD (.int (k : Int)) (.ref a) S = ok (.bl (!decide (k ∈ fs))) S := by
 have e : rdl (rd 8 S) (fs.map natD) = some (fs.map fun (i : Nat) => Np.T.int (i : Int)) := rdl_map natD (fun i => Np.T.int (i : Int)) (fun i => rd_int 8 S i) fs
 have h8 : rd 8 S (.int (k : Int)) = some (.int (k : Int)) := rd_int 8 S k
 unfold notinD inA
 simp only [h, h8, e, memT_nats']
 simp
end Nm
end
section
namespace Nm
open Np PySem
def CdI (B : Nat) (f : Nat → Rat) (D : Int) (z : Nat → Int) : Prop := (0 < D ∧ D.natAbs < 2 ^ B) ∧ ∀ c, f c * (D : Rat) = (z c : Rat) ∧ (z c).natAbs < 2 ^ B
def Cd (B : Nat) (f : Nat → Rat) : Prop := ∃ D z, CdI B f D z
theorem cast_ne {D : Int} (h : 0 < D) : (D : Rat) ≠ 0 := fun z => by
 have : D = 0 := by
  have e : ((D : Int) : Rat) = ((0 : Int) : Rat) := z
  exact Rat.intCast_inj.mp e
 omega
theorem le_of_mul {B : Nat} {q : Rat} {D z : Int} (hD : 0 < D) (hb : D.natAbs < 2 ^ B) (h : q * (D : Rat) = (z : Rat)) (hz : z.natAbs < 2 ^ B) : Le B q := by
 have e : q = Rat.divInt z D := by
  rw [Rat.divInt_eq_div, ← h, Rat.div_def, Rat.mul_assoc, Rat.mul_inv_cancel _ (cast_ne hD), Rat.mul_one]
 rw [e]
 exact Le.divInt (by omega) hz hb
theorem Cd.le {B : Nat} {f : Nat → Rat} (h : Cd B f) (c : Nat) : Le B (f c) := by
 obtain ⟨D, z, ⟨h1, h2⟩, h3⟩ := h
 exact le_of_mul h1 h2 (h3 c).1 (h3 c).2
structure Amt (n u V q s : Nat) (w y x : Nat → Rat) (D Dj : Int) (U v : Nat → Int) (a : Rat) (p nj : Int) : Prop where
 pos : 0 < nj
 eq : a * ((D * nj : Int) : Rat) = ((p * Dj : Int) : Rat)
 lp : p.natAbs ≤ 2 ^ (u + V + q + s)
 ln : nj.natAbs ≤ 2 ^ (V + V + q + s)
theorem Amt.le {n u V q s : Nat} {w y x : Nat → Rat} {D Dj : Int} {U v : Nat → Int} {a : Rat} {p nj : Int} (h : Amt n u V q s w y x D Dj U v a p nj) (hD : 0 < D) (hDu : D.natAbs < 2 ^ u) (hDj : Dj.natAbs < 2 ^ V) : Le (u + V + V + q + s + 1) a := by
 refine le_of_mul (Int.mul_pos hD h.pos) ?_ h.eq ?_
 ·rw [Int.natAbs_mul]
  have h1 := h.ln
  calc D.natAbs * nj.natAbs ≤ 2 ^ u * 2 ^ (V + V + q + s) := Nat.mul_le_mul (Nat.le_of_lt hDu) h1
   _ < 2 ^ (u + V + V + q + s + 1) := by
    rw [← Nat.pow_add]
    exact Nat.pow_lt_pow_right (by decide) (by omega)
 ·rw [Int.natAbs_mul]
  have h1 := h.lp
  calc p.natAbs * Dj.natAbs ≤ 2 ^ (u + V + q + s) * 2 ^ V := Nat.mul_le_mul h1 (Nat.le_of_lt hDj)
   _ < 2 ^ (u + V + V + q + s + 1) := by
    rw [← Nat.pow_add]
    exact Nat.pow_lt_pow_right (by decide) (by omega)
structure Acc (u P B : Nat) (D : Int) (z : Nat → Rat) (N : Int) (Z : Nat → Int) : Prop where
 pos : 0 < N
 lN : N.natAbs ≤ 2 ^ P
 lD : (D * N).natAbs < 2 ^ B
 eq : ∀ c, z c * ((D * N : Int) : Rat) = (Z c : Rat)
 lz : ∀ c, (Z c).natAbs < 2 ^ B
 uP : u + P ≤ B
end Nm
end
section
namespace Nm
open Np PySem
structure PtR (S : Sto) (t : Nat) (as bs : List Nat) (P H : List (List Rat)) : Prop where
 at' : zH S t = some (List.zipWith (fun a b => D.tup [.ref a, .ref b]) as bs)
 la : as.length = P.length
 lb : bs.length = P.length
 lh : H.length = P.length
 left : ∀ (i a : Nat) r, as[i]? = some a → P[i]? = some r → RowA S a r
 shs : ∀ (i b : Nat) r, bs[i]? = some b → H[i]? = some r → RowA S b r
theorem PtR.le {S S' : Sto} {t : Nat} {as bs : List Nat} {P H : List (List Rat)} (h : PtR S t as bs P H) (l : SLe S S') : PtR S' t as bs P H :=
 ⟨l.lst h.at', h.la, h.lb, h.lh, fun i a r h1 h2 => l.lst (h.left i a r h1 h2), fun i a r h1 h2 => l.lst (h.shs i a r h1 h2)⟩
theorem PtR.len {S : Sto} {t : Nat} {as bs : List Nat} {P H : List (List Rat)} (h : PtR S t as bs P H) : (List.zipWith (fun a b => D.tup [.ref a, .ref b]) as bs).length = P.length := by simp [h.la, h.lb]
end Nm
end
section
namespace Nm
open Np PySem
section
variable {rows : List (List Rat)} {ws : List Rat} {n : Nat}
end
end Nm
end
section
namespace Nm
open Np PySem
end Nm
end
section
namespace Nm
open Np PySem
theorem allB_all {xs : List D} (h : ∀ d ∈ xs, d = .bl true) : allB xs = some true := by
 have : xs = List.replicate xs.length (.bl true) := List.eq_replicate_iff.mpr ⟨rfl, h⟩
 rw [this]
 exact allB_true _
end Nm
end
section
namespace Nm
open Np PySem
def Al2 (R : D → D → Prop) : List D → List D → Prop
 | [], [] => True
 | x :: xs, y :: ys => R x y ∧ Al2 R xs ys
 | _, _ => False
theorem Al2.len {R : D → D → Prop} : ∀ {xs ys : List D}, Al2 R xs ys → xs.length = ys.length
 | [], [], _ => rfl
 | _ :: _, _ :: _, h => by simp [Al2.len h.2]
 | [], _ :: _, h => h.elim
 | _ :: _, [], h => h.elim
theorem Al2.imp {R R' : D → D → Prop} (hi : ∀ x y, R x y → R' x y) : ∀ {xs ys : List D}, Al2 R xs ys → Al2 R' xs ys
 | [], [], _ => trivial
 | _ :: _, _ :: _, h => ⟨hi _ _ h.1, Al2.imp hi h.2⟩
 | [], _ :: _, h => h.elim
 | _ :: _, [], h => h.elim
theorem Al2.mem {R : D → D → Prop} : ∀ {xs ys : List D} {z : D}, Al2 R xs ys → z ∈ pairs xs ys → ∃ p q, z = .tup [p, q] ∧ R p q
 | [], [], _, _, h => by simp [pairs] at h
 | x :: xs, y :: ys, z, h, hz => by
  rw [show pairs (x :: xs) (y :: ys) = .tup [x, y] :: pairs xs ys from rfl] at hz
  rcases List.mem_cons.mp hz with rfl | hz
  ·exact ⟨x, y, rfl, h.1⟩
  ·exact Al2.mem h.2 hz
 | [], _ :: _, _, h, _ => h.elim
 | _ :: _, [], _, h, _ => h.elim
theorem al2_map {α : Type} {R : D → D → Prop} {f g : α → D} : ∀ {xs : List α}, (∀ x ∈ xs, R (f x) (g x)) → Al2 R (xs.map f) (xs.map g)
 | [], _ => trivial
 | x :: xs, h => ⟨h x (.head _), al2_map fun y hy => h y (.tail _ hy)⟩
def Al (S : Sto) : Nat → D → D → Prop
 | 0, _, _ => False
 | n + 1, x, y => (∃ i, x = .int i ∧ y = .int i) ∨ (∃ xs ys, x = .tup xs ∧ y = .tup ys ∧ xs.length ≤ 1000 ∧ Al2 (Al S n) xs ys) ∨ ∃ a b xs ys, x = .ref a ∧ y = .ref b ∧ zH S a = some xs ∧ zH S b = some ys ∧ xs.length ≤ 1000 ∧ Al2 (Al S n) xs ys
theorem Al.mono {S S' : Sto} (l : SLe S S') : ∀ {n : Nat} {x y : D}, Al S n x y → Al S' n x y
 | 0, _, _, h => h.elim
 | n + 1, x, y, h => by
  rcases h with h | ⟨xs, ys, h1, h2, h3, h4⟩ | ⟨a, b, xs, ys, h1, h2, h3, h4, h5, h6⟩
  ·exact .inl h
  ·exact .inr (.inl ⟨xs, ys, h1, h2, h3, h4.imp fun _ _ h => Al.mono l h⟩)
  ·exact .inr (.inr ⟨a, b, xs, ys, h1, h2, l.lst h3, l.lst h4, h5, h6.imp fun _ _ h => Al.mono l h⟩)
theorem pairsD_eq : ∀ xs ys : List D, pairsD xs ys = pairs xs ys
 | [], _ => by simp [pairsD, pairs]
 | _ :: _, [] => rfl
 | x :: xs, y :: ys => by rw [pairsD, pairsD_eq xs ys]; rfl
theorem neD_same (i : Bool) (S : Sto) : neD (.bl i) (.bl i) S = ok (.bl false) S := by
 unfold neD; rw [rd_bl]; cases i <;> rfl
theorem isi_lst_int (i : Int) (S : Sto) : isiD .lst (.int i) S = ok (.bl false) S := rfl
theorem isi_tup_int (i : Int) (S : Sto) : isiD .tup (.int i) S = ok (.bl false) S := rfl
theorem isi_lst_tup (xs : List D) (S : Sto) : isiD .lst (.tup xs) S = ok (.bl false) S := rfl
theorem isi_tup_ref {S : Sto} {a : Nat} {xs : List D} (h : zH S a = some xs) : isiD .tup (.ref a) S = ok (.bl false) S := by
 unfold zH at h
 split at h
 ·rename_i e
  show (match (match S[a]? with | some (.lst _) => some false | some (.dct _) => some false | _ => none) with | some b => ok (D.bl b) S | none => none) = _
  rw [e]
 ·cases h
theorem zipLD_tup (xs ys : List D) (S : Sto) : zipLD [.tup xs, .tup ys] S = ok (.fix (pairs xs ys)) S := by rw [← pairsD_eq]; rfl
theorem zipLD_ref {S : Sto} {a b : Nat} {xs ys : List D} (ha : zH S a = some xs) (hb : zH S b = some ys) : zipLD [.ref a, .ref b] S = ok (.two a b) S := zip2D_ref ha hb
theorem len_pairs {xs ys : List D} (h : xs.length = ys.length) : (pairs xs ys).length = xs.length := by simp [pairs, h]
theorem alike_w : ∀ {n : Nat} {x y : D} {S : Sto}, Al S n x y → W (F.k52_alike n [x, y] S) fun d S' => d = .bl true ∧ SLe S S'
 | 0, _, _, _, h => h.elim
 | n + 1, x, y, S, h => by
  show W (fnF 2 2 (Den.k52_alike (F.k52_alike n)) [x, y] S) _
  refine W_fnF rfl ?_
  unfold Den.k52_alike
  rcases h with ⟨i, rfl, rfl⟩ | ⟨xs, ys, rfl, rfl, hl, ha⟩ | ⟨a, b, xs, ys, rfl, rfl, h1, h2, hl, ha⟩
  ·simp_all [isi_lst_int, isi_tup_int]
   exact ⟨by simp, SLe.rfl⟩
  ·have e := ha.len
   have hle : (xs.length : Int) = (ys.length : Int) := by omega
   simp_all [isi_lst_tup, neD_same, hle]
   refine W_compX (base := [some (.tup xs), some (.tup ys)]) (k := 2) (fun x => [pr1 x, pr2 x]) (pairs xs ys) (fun _ d => d = .bl true) (fun x => ∃ p q, x = .tup [p, q]) (tg_two [some (.tup xs), some (.tup ys)]) (fun x hx => mem_pairs hx) ?_ ?_ ?_
   ·simp_all [zipLD_tup]
    exact ⟨Nat.le_refl _, by show (pairs xs ys).length ≤ _; rw [len_pairs e]; omega, SLe.rfl, fun _ _ _ => rfl⟩
   ·intro z S' hz l
    obtain ⟨p, q, rfl, hr⟩ := ha.mem hz
    simp_all [pr1, pr2]
    exact (alike_w (hr.mono l)).mono fun d S'' h => h
   ·intro ds S' l hd he
    have : ∀ d ∈ ds, d = .bl true := fun d hm => by
     obtain ⟨i, hi, rfl⟩ := List.getElem_of_mem hm
     exact he i ((pairs xs ys)[i]'(by omega)) _ (by simp) (by simp [hi])
    simp_all [allD_ref (lstAt_push S' ds) (allB_all this)]
    exact ⟨trivial, l.push _⟩
  ·have e := ha.len
   have hle : (xs.length : Int) = (ys.length : Int) := by omega
   simp_all [isi_lst_ref h1, isi_lst_ref h2, isi_tup_ref h1, isi_tup_ref h2, neD_same, lenD_ref h1, lenD_ref h2, hle]
   refine W_compX (base := [some (.ref a), some (.ref b)]) (k := 2) (fun x => [pr1 x, pr2 x]) (pairs xs ys) (fun _ d => d = .bl true) (fun x => ∃ p q, x = .tup [p, q]) (tg_two [some (.ref a), some (.ref b)]) (fun x hx => mem_pairs hx) ?_ ?_ ?_
   ·simp_all [zipLD_ref h1 h2]
    exact ⟨by rw [len_two h1, len_pairs e]; exact Nat.le_refl _, by rw [len_two h1]; omega, SLe.rfl, fun i S'' l => get_two (l.lst h1) (l.lst h2) i⟩
   ·intro z S' hz l
    obtain ⟨p, q, rfl, hr⟩ := ha.mem hz
    simp_all [pr1, pr2]
    exact (alike_w (hr.mono l)).mono fun d S'' h => h
   ·intro ds S' l hd he
    have : ∀ d ∈ ds, d = .bl true := fun d hm => by
     obtain ⟨i, hi, rfl⟩ := List.getElem_of_mem hm
     exact he i ((pairs xs ys)[i]'(by omega)) _ (by simp) (by simp [hi])
    simp_all [allD_ref (lstAt_push S' ds) (allB_all this)]
    exact ⟨trivial, l.push _⟩
theorem al_rat (S : Sto) (n : Nat) (q : Rat) : Al S (n + 2) (ratD q) (ratD q) := .inr (.inl ⟨_, _, rfl, rfl, by simp, ⟨.inl ⟨_, rfl, rfl⟩, .inl ⟨_, rfl, rfl⟩, trivial⟩⟩)
theorem al_row {S : Sto} {a b : Nat} {xs : List Rat} (n : Nat) (ha : RowA S a xs) (hb : RowA S b xs) (hl : xs.length ≤ 1000) : Al S (n + 3) (.ref a) (.ref b) := .inr (.inr ⟨a, b, _, _, rfl, rfl, ha, hb, by simpa using hl, al2_map fun x _ => al_rat S n x⟩)
end Nm
end
section
namespace Nm
open Np PySem
def Bt (a : Nat) (S S' : Sto) : Prop := S.length ≤ S'.length ∧ ∀ b, b < S.length → b ≠ a → S'[b]? = S[b]?
theorem _root_.Np.SLe.bt {S S' : Sto} (h : SLe S S') (a : Nat) : Bt a S S' := ⟨h.len, fun _ hb _ => h.get hb⟩
theorem Bt.trans {a : Nat} {S S' S'' : Sto} (h : Bt a S S') (k : Bt a S' S'') : Bt a S S'' := ⟨Nat.le_trans h.1 k.1, fun b hb hn => by rw [k.2 b (Nat.lt_of_lt_of_le hb h.1) hn, h.2 b hb hn]⟩
theorem Bt.set {S : Sto} (a : Nat) (o : O) : Bt a S (S.set a o) := ⟨by simp, fun b _ hn => List.getElem?_set_ne (Ne.symm hn)⟩
theorem Bt.lst {a b : Nat} {S S' : Sto} {xs : List D} (h : Bt a S S') (hn : b ≠ a) (e : zH S b = some xs) : zH S' b = some xs := by rw [lstAt_eq (h.2 b (lstAt_lt e) hn)]; exact e
theorem insAt_eq {S S' : Sto} {a : Nat} (h : S'[a]? = S[a]?) : insAt S' a = insAt S a := by unfold insAt; rw [h]
theorem insAt_lt {S : Sto} {a : Nat} {c : Str} {fs : List (Str × D)} (h : insAt S a = some (c, fs)) : a < S.length := (List.getElem?_eq_some_iff.mp (insAt_some h)).1
theorem Bt.ins {a b : Nat} {S S' : Sto} {c : Str} {fs : List (Str × D)} (h : Bt a S S') (hn : b ≠ a) (e : insAt S b = some (c, fs)) : insAt S' b = some (c, fs) := by rw [insAt_eq (h.2 b (insAt_lt e) hn)]; exact e
theorem _root_.Np.SLe.ins {S S' : Sto} {b : Nat} {c : Str} {fs : List (Str × D)} (h : SLe S S') (e : insAt S b = some (c, fs)) : insAt S' b = some (c, fs) := by rw [insAt_eq (h.get (insAt_lt e))]; exact e
theorem ins_ne_lst {S : Sto} {a b : Nat} {c : Str} {fs : List (Str × D)} {xs : List D} (h : insAt S a = some (c, fs)) (k : zH S b = some xs) : a ≠ b := fun e => by
 subst e
 unfold zH at k
 rw [insAt_some h] at k
 cases k
structure Pt where
 num : Nat
 row : List Rat
 want : Rat
 wt : Rat
def ptD (x : Pt × Nat) : D := .tup [.int (x.1.num : Int), .ref x.2, ratD x.1.want, ratD x.1.wt]
def PtsA (S : Sto) (k : Nat) (q : List (Pt × Nat)) : Prop := zH S k = some (q.map ptD) ∧ ∀ x ∈ q, RowA S x.2 x.1.row
theorem PtsA.mono {S S' : Sto} {k : Nat} {q : List (Pt × Nat)} (h : PtsA S k q) (l : SLe S S') : PtsA S' k q := ⟨l.lst h.1, fun x hx => l.lst (h.2 x hx)⟩
theorem PtsA.bt {S S' : Sto} {a k : Nat} {q : List (Pt × Nat)} (h : PtsA S k q) (l : Bt a S S') (hk : k ≠ a) (hq : ∀ x ∈ q, x.2 ≠ a) : PtsA S' k q := ⟨l.lst hk h.1, fun x hx => l.lst (hq x hx) (h.2 x hx)⟩
abbrev plF (ss : Nat) : List (Str × D) := [(("states" : Str), .ref ss)]
abbrev stF (a b c : D) : List (Str × D) := [(("wide" : Str), a), (("laid" : Str), b), (("kept" : Str), c)]
structure Pl (S : Sto) (p ss st k : Nat) (xs : List D) (w l : Nat) (q : List (Pt × Nat)) : Prop where
 pl : insAt S p = some (("Plane" : Str), plF ss)
 sl : zH S ss = some (xs ++ [.ref st])
 st : insAt S st = some (("State" : Str), stF (.int (w : Int)) (.int (l : Int)) (.ref k))
 kp : PtsA S k q
theorem Pl.mono {S S' : Sto} {p ss st k : Nat} {xs : List D} {w l : Nat} {q : List (Pt × Nat)} (h : Pl S p ss st k xs w l q) (e : SLe S S') : Pl S' p ss st k xs w l q := ⟨e.ins h.pl, e.lst h.sl, e.ins h.st, h.kp.mono e⟩
theorem Pl.bt {S S' : Sto} {a p ss st k : Nat} {xs : List D} {w l : Nat} {q : List (Pt × Nat)} (h : Pl S p ss st k xs w l q) (e : Bt a S S') (h1 : p ≠ a) (h2 : ss ≠ a) (h3 : st ≠ a) (h4 : k ≠ a) (h5 : ∀ x ∈ q, x.2 ≠ a) : Pl S' p ss st k xs w l q := ⟨e.ins h1 h.pl, e.lst h2 h.sl, e.ins h3 h.st, h.kp.bt e h4 h5⟩
theorem fldD_eq {S : Sto} {a : Nat} {c f : Str} {fs : List (Str × D)} {d : D} (h : insAt S a = some (c, fs)) (hl : fs.lookup f = some d) : fldD c f (.ref a) S = ok d S := by
 unfold fldD
 simp only [h, hl, if_true]
theorem methK_eq {S : Sto} {a : Nat} {c m : Str} {fs : List (Str × D)} {Fm : List D → Sto → R D} {as : DA} {δ : DS} (h : insAt S a = some (c, fs)) (hl : fs.lookup m = none) : methK c m Fm as δ (.ref a) S = bnd (as δ S) (methA Fm (.ref a)) := by
 unfold methK
 simp only [h, hl, and_self, if_true]
theorem ixD_last {S : Sto} {a : Nat} {xs : List D} {d : D} (h : zH S a = some (xs ++ [d])) : ixD (.ref a) (.int (-1)) S = ok d S := by
 show ixK (zH S a) (-1) S = _
 rw [h]
 have : ixA (xs ++ [d]).length (-1) = some xs.length := by
  unfold ixA
  rw [if_neg (by decide), if_pos (by simp; omega)]
  simp
  omega
 unfold ixK
 simp only [this, Option.bind_some]
 simp
section
variable {S : Sto} {p ss st k : Nat} {xs : List D} {w l : Nat} {q : List (Pt × Nat)}
theorem Pl.f1 (h : Pl S p ss st k xs w l q) : fldD "Plane" "states" (.ref p) S = ok (.ref ss) S := fldD_eq h.pl rfl
theorem Pl.f2 (h : Pl S p ss st k xs w l q) : ixD (.ref ss) (.int (-1)) S = ok (.ref st) S := ixD_last h.sl
theorem Pl.f3 (h : Pl S p ss st k xs w l q) : fldD "State" "wide" (.ref st) S = ok (.int (w : Int)) S := fldD_eq h.st rfl
theorem Pl.f4 (h : Pl S p ss st k xs w l q) : fldD "State" "laid" (.ref st) S = ok (.int (l : Int)) S := fldD_eq h.st rfl
theorem Pl.f5 (h : Pl S p ss st k xs w l q) : fldD "State" "kept" (.ref st) S = ok (.ref k) S := fldD_eq h.st rfl
theorem width_eq (h : Pl S p ss st k xs w l q) : F.Plane_width [.ref p] S = ok (.int (w : Int)) S := by
 refine W_eq ?_
 (unfold F.Plane_width; refine Np.W_fnF rfl ?_; unfold Den.Plane_width; simp_all [])
 simp_all [h.f1, h.f2, h.f3]
theorem state_mk (a b c : D) (S : Sto) : mkA "State" F.State___init__ [a, b, c] S = ok (.ref S.length) (S ++ [.ins "State" (stF a b c)]) := by
 have e : F.State___init__ [.ref S.length, a, b, c] (S ++ [O.ins "State" []]) = ok .non (S ++ [.ins "State" (stF a b c)]) := by
  refine W_eq ?_
  have i0 : ∀ fs, insAt (S ++ [O.ins "State" fs]) S.length = some (("State" : Str), fs) := fun fs => by simp [insAt]
  have st : ∀ fs o, (S ++ [O.ins "State" fs]).set S.length o = S ++ [o] := fun fs o => by simp
  have sf : ∀ (f : Str) (v : D) (fs : List (Str × D)) (δ : DS), fs.length < 900 → setfA "State" f v δ (.ref S.length) (S ++ [O.ins "State" fs]) = ok (.nx δ) (S ++ [O.ins "State" (putD f v fs)]) := fun f v fs δ hl => by
   unfold setfA
   simp only [i0]
   rw [if_pos ⟨trivial, hl⟩, st]
  unfold F.State___init__
  refine W_fnF rfl ?_
  unfold Den.State___init__
  have p1 : putD "wide" a [] = [(("wide" : Str), a)] := rfl
  have p2 : putD "laid" b [(("wide" : Str), a)] = [(("wide" : Str), a), (("laid" : Str), b)] := rfl
  have p3 : putD "kept" c [(("wide" : Str), a), (("laid" : Str), b)] = stF a b c := rfl
  simp_all [setfS, setfK, sf "wide" a [] _ (by decide), p1, sf "laid" b [(("wide" : Str), a)] _ (by simp), p2, sf "kept" c [(("wide" : Str), a), (("laid" : Str), b)] _ (by simp), p3]
 unfold mkA
 rw [e]
 rfl
theorem ins_push (S : Sto) (c : Str) (fs : List (Str × D)) : insAt (S ++ [O.ins c fs]) S.length = some (c, fs) := by simp [insAt]
theorem with_row_eq {x y z u r : D} (S : Sto) : F.with_row [.tup [x, y, z, u], r] S = ok (.tup [x, r, z, u]) S := by
 refine W_eq ?_
 (unfold F.with_row; refine Np.W_fnF rfl ?_; unfold Den.with_row; simp_all [])
 simp_all [show ixD (.tup [x, y, z, u]) (.int 0) S = ok x S from rfl, show ixD (.tup [x, y, z, u]) (.int 2) S = ok z S from rfl, show ixD (.tup [x, y, z, u]) (.int 3) S = ok u S from rfl, show tupD [x, r, z, u] S = ok (.tup [x, r, z, u]) S from rfl]
theorem W_compP {it : DI} {g : DG} {e : DE} {base : DS} {kk : Nat} {Q : D → Sto → Prop} (vals : D → List (Option D)) (xs : List D) (P : D → Prop) (hP : ∀ x ∈ xs, P x) (hg : Tg g kk vals base P) (ts : List Pt) (hl : ts.length = xs.length)
  (hit : W (it base S) fun src S' => S' = S ∧ xs.length ≤ src.len S ∧ src.len S ≤ 1000000 ∧ ∀ i S'', SLe S S'' → src.get S'' i = some xs[i]?)
  (step : ∀ (i : Nat) x t S', xs[i]? = some x → ts[i]? = some t → SLe S S' → W (e (base ++ vals x) S') fun d S'' => SLe S' S'' ∧ ∃ c, S.length ≤ c ∧ d = ptD (t, c) ∧ RowA S'' c t.row)
  (fin : ∀ (q' : List (Pt × Nat)) S' c, SLe S S' → S.length ≤ c → PtsA S' c q' → q'.map (·.1) = ts → (∀ x ∈ q', S.length ≤ x.2) → Q (.ref c) S') : W (compE it kk g e base S) Q := by
 refine W_compE vals xs (fun i acc S' => SLe S S' ∧ ∃ q' : List (Pt × Nat), acc = q'.map ptD ∧ q'.map (·.1) = ts.take i ∧ ∀ x ∈ q', S.length ≤ x.2 ∧ RowA S' x.2 x.1.row) P hP hg ?_ ?_ ?_
 ·refine hit.mono ?_
  rintro src S' ⟨rfl, h1, h2, h3⟩
  exact ⟨h1, h2, ⟨SLe.rfl, [], rfl, by simp, fun _ h => by cases h⟩, fun i acc S'' h => h3 i S'' h.1⟩
 ·rintro i x acc S' hx ha ⟨l1, q', rfl, hq, hr⟩
  have hi : i < ts.length := by rw [hl]; exact (List.getElem?_eq_some_iff.mp hx).1
  have ht : ts[i]? = some ts[i] := List.getElem?_eq_getElem hi
  refine (step i x ts[i] S' hx ht l1).mono ?_
  rintro d S'' ⟨l2, c, hc, rfl, rc⟩
  refine ⟨l1.trans l2, q' ++ [(ts[i], c)], by simp, ?_, fun y hy => ?_⟩
  ·rw [List.map_append, hq, List.take_add_one, ht]
   rfl
  ·rcases List.mem_append.mp hy with h | h
   ·exact ⟨(hr y h).1, l2.lst (hr y h).2⟩
   ·rw [List.mem_singleton.mp h]
    exact ⟨hc, rc⟩
 ·rintro acc S' ⟨l1, q', rfl, hq, hr⟩ _
  rw [← hl, List.take_length] at hq
  exact fin q' _ _ (l1.push _) l1.len ⟨lstAt_push S' _, fun x hx => (SLe.rfl.push _).lst (hr x hx).2⟩ hq fun x hx => (hr x hx).1
end
end Nm
end
section
namespace Nm
open Np PySem
theorem row_ne {S : Sto} {a ss st : Nat} {xs : List D} {ys : List D} (h : zH S ss = some (xs ++ [.ref st])) (k : zH S a = some ys) (hy : ∀ d ∈ ys, ∃ zs, d = .tup zs) : a ≠ ss := fun e => by
 subst e
 rw [h] at k
 have := Option.some.inj k
 obtain ⟨zs, q⟩ := hy (.ref st) (by rw [← this]; simp)
 cases q
theorem rats_tup (xs : List Rat) : ∀ d ∈ xs.map ratD, ∃ zs, d = .tup zs := fun d h => by
 obtain ⟨q, _, rfl⟩ := List.mem_map.mp h
 exact ⟨_, rfl⟩
theorem pts_tup (q : List (Pt × Nat)) : ∀ d ∈ q.map ptD, ∃ zs, d = .tup zs := fun d h => by
 obtain ⟨x, _, rfl⟩ := List.mem_map.mp h
 exact ⟨_, rfl⟩
theorem less52_eq {p q : Rat} (hp : sm p) (hq : sm q) (S : Sto) : F.less [ratD p, ratD q] S = ok (.bl (decide (p.num * (q.den : Int) < q.num * (p.den : Int)))) S := by
 refine W_eq ?_
 (unfold F.less; refine Np.W_fnF rfl ?_; unfold Den.less; simp_all [])
 simp_all [mulD_int (hp.nd hq), mulD_int (hq.nd hp)]
theorem is_wide_eq {w : Nat} (h : w ≤ 12) (S : Sto) : F.is_wide [.int (w : Int)] S = ok (.bl true) S := by
 refine W_eq ?_
 (unfold F.is_wide; refine Np.W_fnF rfl ?_; unfold Den.is_wide; simp_all [])
 have h1 : (0 : Int) ≤ (w : Int) := by omega
 have h2 : (w : Int) ≤ 12 := by omega
 simp_all [whole_int, h1, h2]
theorem is_weight_eq {q : Rat} (hq : sm q) (h : 0 < q.num) (S : Sto) : F.is_weight [ratD q] S = ok (.bl true) S := by
 refine W_eq ?_
 (unfold F.is_weight; refine Np.W_fnF rfl ?_; unfold Den.is_weight; simp_all [])
 have h0 : sm 0 := ⟨by decide, by decide⟩
 have h1 : (0 : Rat).num * (q.den : Int) < q.num * ((0 : Rat).den : Int) := by
  rw [show (0 : Rat).num = 0 from rfl, show (0 : Rat).den = 1 from rfl]
  omega
 simp_all [is_ratio_rat, rat0, less52_eq h0 hq, h1]
theorem is_rowR_w {S : Sto} {a : Nat} {xs : List Rat} (ha : RowA S a xs) (hl : xs.length ≤ 1000) : W (F.is_row [.ref a, .int (xs.length : Int)] S) fun d S' => d = .bl true ∧ SLe S S' := by
 (unfold F.is_row; refine Np.W_fnF rfl ?_; unfold Den.is_row; simp_all [])
 have c1 := comp_row (base := [some (.ref a), some (.int (xs.length : Int))]) (it := itE itL (vr 0)) (e := fnE F.is_ratio (yF (vr 2) aNil)) (g := fun _ => .bl true) (by simp only [Np.itA, Np.itE, Np.yF, Np.aConsK, Np.aNil, Np.consK, Np.vr, Np.cst, List.getElem?_cons_zero, List.getElem?_cons_succ, Np.bnd_ok]; exact itL_ref ha) ha (by omega) fun x hx => by
  simp only [List.cons_append, List.nil_append]
  unfold fnE yF aNil aConsK consK vr
  simp only [List.getElem?_cons_zero, List.getElem?_cons_succ, bnd_ok]
  exact is_ratio_rat x S
 simp only [List.length_cons, List.length_nil, Nat.reduceAdd] at c1
 simp_all [isi_lst_ref ha, lenD_ref ha, List.length_map, c1, allD_ref (lstAt_push S _) (allB_all (xs := xs.map fun _ => D.bl true) fun d hd => by obtain ⟨_, _, rfl⟩ := List.mem_map.mp hd; rfl)]
 exact ⟨trivial, SLe.app _⟩
theorem is_point_w {S : Sto} {a : Nat} {xs : List Rat} {want wt : Rat} (ha : RowA S a xs) (hl : xs.length ≤ 1000) (hq : sm wt) (h : 0 < wt.num) : W (F.is_point [.tup [.ref a, ratD want, ratD wt], .int (xs.length : Int)] S) fun d S' => d = .bl true ∧ SLe S S' := by
 (unfold F.is_point; refine Np.W_fnF rfl ?_; unfold Den.is_point; simp_all [])
 simp_all [show (((3 : Nat) : Int) = 3) from rfl, tix0, tix1, tix2]
 refine (is_rowR_w ha hl).mono ?_
 rintro d S' ⟨rfl, l⟩
 simp_all [is_ratio_rat, is_weight_eq hq h, tix1, tix2]
 exact ⟨trivial, l⟩
section
variable {S : Sto} {p ss st k : Nat} {xs : List D} {w l : Nat} {q : List (Pt × Nat)}
def Nx (S S' : Sto) (p ss st : Nat) (xs : List D) (q : List (Pt × Nat)) (w' l' : Nat) (ts : List Pt) : Prop :=
 ∃ st' k' q', Bt ss S S' ∧ Pl S' p ss st' k' (xs ++ [.ref st]) w' l' q' ∧ S.length ≤ st' ∧ S.length ≤ k' ∧ (∀ x ∈ q', S.length ≤ x.2 ∨ ∃ y ∈ q, y.2 = x.2) ∧ q'.map (·.1) = ts
theorem Pl.next (h : Pl S p ss st k xs w l q) {S2 : Sto} (l2 : SLe S S2) {k' w' l' : Nat} {q' : List (Pt × Nat)} {ts : List Pt} (hk : PtsA S2 k' q') (n1 : S.length ≤ k') (n2 : ∀ x ∈ q', S.length ≤ x.2 ∨ ∃ y ∈ q, y.2 = x.2) (e : q'.map (·.1) = ts) (hx : xs.length < 900000) {Q : D → Sto → Prop} (fin : ∀ S', Nx S S' p ss st xs q w' l' ts → Q .non S') :
  W (appD (.ref ss) (.ref S2.length) (S2 ++ [O.ins "State" (stF (.int (w' : Int)) (.int (l' : Int)) (.ref k'))])) Q := by
 have l3 : SLe S2 (S2 ++ [O.ins "State" (stF (.int (w' : Int)) (.int (l' : Int)) (.ref k'))]) := SLe.app _
 have h3 := h.mono (l2.trans l3)
 have hk3 := hk.mono l3
 refine W.intro (appD_ref _ h3.sl (by simp; omega)) (fin _ ⟨S2.length, k', q', ((l2.trans l3).bt ss).trans (Bt.set ss _), ⟨?_, lstAt_set h3.sl, ?_, hk3.bt (Bt.set ss _) (row_ne h3.sl hk3.1 (pts_tup _)) fun x hx => row_ne h3.sl (hk3.2 x hx) (rats_tup _)⟩, l2.len, n1, n2, e⟩)
 ·exact (Bt.set ss _).ins (ins_ne_lst h3.pl h3.sl) h3.pl
 ·have := ins_push S2 "State" (stF (.int (w' : Int)) (.int (l' : Int)) (.ref k'))
  exact (Bt.set ss _).ins (ins_ne_lst this h3.sl) this
theorem tix4_0 (x y z u : D) (S : Sto) : ixD (.tup [x, y, z, u]) (.int 0) S = ok x S := rfl
theorem tix4_1 (x y z u : D) (S : Sto) : ixD (.tup [x, y, z, u]) (.int 1) S = ok y S := rfl
theorem map_ptD {i : Nat} {x : D} (hx : (q.map ptD)[i]? = some x) : ∃ y, q[i]? = some y ∧ x = ptD y := by
 rw [List.getElem?_map] at hx
 cases e : q[i]? with
 | none => rw [e] at hx; cases hx
 | some y => rw [e] at hx; exact ⟨y, rfl, (Option.some.inj hx).symm⟩
theorem points_w (h : Pl S p ss st k xs w l q) (hl : q.length ≤ 1000) : W (F.Plane_points [.ref p] S) fun d S' => ∃ c q', d = .ref c ∧ SLe S S' ∧ PtsA S' c q' ∧ q'.map (·.1) = q.map (·.1) ∧ S.length ≤ c ∧ ∀ x ∈ q', S.length ≤ x.2 := by
 (unfold F.Plane_points; refine Np.W_fnF rfl ?_; unfold Den.Plane_points; simp_all [])
 refine W_compP (base := [some (.ref p)]) (kk := 1) (fun x => [some x]) (q.map ptD) (fun _ => True) (fun _ _ => trivial) (tg_one [some (.ref p)]) (q.map (·.1)) (by simp) ?_ ?_ ?_
 ·simp_all [h.f1, h.f2, h.f5, itL_ref h.kp.1]
  exact ⟨trivial, by rw [len_one h.kp.1]; exact Nat.le_refl _, by rw [len_one h.kp.1]; simp; omega, fun i S'' l => get_one (l.lst h.kp.1) i⟩
 ·intro i x t S' hx ht lS
  obtain ⟨y, hy, rfl⟩ := map_ptD hx
  rw [List.getElem?_map, hy] at ht
  obtain rfl : y.1 = t := Option.some.inj ht
  have hr := lS.lst (h.kp.2 y (List.mem_of_getElem? hy))
  unfold ptD
  simp_all [tix4_1, lofD_ref hr, with_row_eq]
  exact ⟨SLe.app _, S'.length, lS.len, rfl, lstAt_push S' _⟩
 ·intro q' S' c l1 n1 h1 h2 h3
  exact ⟨c, q', rfl, l1, h1, h2, n1, h3⟩
theorem lay_w (h : Pl S p ss st k xs w l q) {a : Nat} {row : List Rat} {want wt : Rat} {x : D} (ha : RowA S a row) (hw : row.length = w) (hl : q.length ≤ 1000) (hw2 : w ≤ 12) (hx : xs.length < 900000) (hq : sm wt) (h0 : 0 < wt.num) (hd : x = .non ∧ wt = 1 ∨ x = ratD wt) :
  W (F.Plane_lay [.ref p, .ref a, ratD want, x] S) fun d S' => d = .int (l : Int) ∧ Nx S S' p ss st xs q w (l + 1) (q.map (·.1) ++ [⟨l, row, want, wt⟩]) := by
 subst hw
 unfold F.Plane_lay
 refine W_fnF rfl ?_
 unfold Den.Plane_lay
 rcases hd with ⟨rfl, e⟩ | rfl
 ·simp_all [h.f1, h.f2, h.f4, tup3, h.f3, show (1 : Rat) = wt from e.symm]
  refine (is_point_w ha (by omega) hq h0).mono ?_
  rintro d S1 ⟨rfl, l1⟩
  simp_all [lofD_ref (l1.lst ha), tup4]
  generalize hS2 : S1 ++ [O.lst (List.map ratD row)] = S2
  have l2 : SLe S1 S2 := ⟨_, hS2.symm⟩
  have r2 : RowA S2 S1.length row := by rw [← hS2]; exact lstAt_push S1 _
  have h2 := h.mono (l1.trans l2)
  simp_all [h2.f1, opMK_ref h2.sl, mkE, h2.f3, h2.f5, lstD_eq]
  refine W_new (lstD_eq (by simp) _) fun S3 b l3 n3 r3 => ?_
  have h3 := h2.mono l3
  refine W_new (addL h3.kp.1 r3 (by simp; omega)) fun S4 c l4 n4 r4 => ?_
  simp_all [state_mk]
  have hL := (l1.trans l2).trans (l3.trans l4)
  have hL1 := l1.len
  have hL2 := l2.len
  have hL3 := l3.len
  refine (h.next (w' := row.length) (l' := l + 1) (ts := q.map (·.1) ++ [⟨l, row, want, wt⟩]) (q' := q ++ [(⟨l, row, want, wt⟩, S1.length)]) hL ⟨by rw [r4]; simp [ptD], fun x hx => ?_⟩ (by omega) (fun x hx => ?_) (by simp) hx fun S' hS' => ?_)
  ·rcases List.mem_append.mp hx with hx | hx
   ·exact l4.lst (h3.kp.2 x hx)
   ·rw [List.mem_singleton.mp hx]
    exact l4.lst (l3.lst r2)
  ·rcases List.mem_append.mp hx with hx | hx
   ·exact .inr ⟨x, hx, rfl⟩
   ·rw [List.mem_singleton.mp hx]
    exact .inl hL1
  ·exact ⟨trivial, hS'⟩
 ·simp_all [h.f1, h.f2, h.f4, tup3, h.f3]
  refine (is_point_w ha (by omega) hq h0).mono ?_
  rintro d S1 ⟨rfl, l1⟩
  simp_all [lofD_ref (l1.lst ha), tup4]
  generalize hS2 : S1 ++ [O.lst (List.map ratD row)] = S2
  have l2 : SLe S1 S2 := ⟨_, hS2.symm⟩
  have r2 : RowA S2 S1.length row := by rw [← hS2]; exact lstAt_push S1 _
  have h2 := h.mono (l1.trans l2)
  simp_all [h2.f1, opMK_ref h2.sl, mkE, h2.f3, h2.f5, lstD_eq]
  refine W_new (lstD_eq (by simp) _) fun S3 b l3 n3 r3 => ?_
  have h3 := h2.mono l3
  refine W_new (addL h3.kp.1 r3 (by simp; omega)) fun S4 c l4 n4 r4 => ?_
  simp_all [state_mk]
  have hL := (l1.trans l2).trans (l3.trans l4)
  have hL1 := l1.len
  have hL2 := l2.len
  have hL3 := l3.len
  refine (h.next (w' := row.length) (l' := l + 1) (ts := q.map (·.1) ++ [⟨l, row, want, wt⟩]) (q' := q ++ [(⟨l, row, want, wt⟩, S1.length)]) hL ⟨by rw [r4]; simp [ptD], fun x hx => ?_⟩ (by omega) (fun x hx => ?_) (by simp) hx fun S' hS' => ?_)
  ·rcases List.mem_append.mp hx with hx | hx
   ·exact l4.lst (h3.kp.2 x hx)
   ·rw [List.mem_singleton.mp hx]
    exact l4.lst (l3.lst r2)
  ·rcases List.mem_append.mp hx with hx | hx
   ·exact .inr ⟨x, hx, rfl⟩
   ·rw [List.mem_singleton.mp hx]
    exact .inl hL1
  ·exact ⟨trivial, hS'⟩
theorem compI_pure {it : DI} {g : DG} {t : DT} {e : DE} {base : DS} {kk : Nat} {src : Src} (vals : D → List (Option D)) {ys : List D} {b : D → Bool} {f : D → D} {P : D → Prop} (hg : Tg g kk vals base P) (hit : it base S = ok src S) (hs : Has src S ys) (hl : src.len S ≤ 1000000) (hP : ∀ x ∈ ys, P x)
  (ht : ∀ x ∈ ys, t (base ++ vals x) S = ok (b x) S) (he : ∀ x ∈ ys, e (base ++ vals x) S = ok (f x) S) : compI it kk g t e base S = ok (.ref S.length) (S ++ [.lst ((ys.filter b).map f)]) := by
 have key : ∀ n i os, os.length = kk → i ≤ ys.length → ys.length ≤ i + n → compID src g t e n i (base ++ os) S = ok (((ys.drop i).filter b).map f) S := by
  intro n
  induction n with
  | zero =>
   intro i os ho hi hn
   unfold compID
   rw [hs.2 i, List.getElem?_eq_none (by omega), List.drop_of_length_le (by omega)]
   rfl
  | succ n ih =>
   intro i os ho hi hn
   unfold compID
   rw [hs.2 i]
   by_cases h : i < ys.length
   ·have hx : ys[i] ∈ ys := List.getElem_mem h
    obtain ⟨e1, e2⟩ := hg ys[i] os S ho (hP _ hx)
    rw [List.getElem?_eq_getElem h]
    show bnd (g ys[i] (base ++ os) S) (compIK t e (compID src g t e n (i + 1))) = _
    rw [e1, bnd_ok]
    unfold compIK
    rw [ht _ hx, bnd_ok, List.drop_eq_getElem_cons h]
    cases hb : b ys[i] with
    | true =>
     show bnd (e (base ++ vals ys[i]) S) (compK2 (compID src g t e n (i + 1)) (base ++ vals ys[i])) = _
     rw [he _ hx, bnd_ok]
     unfold compK2
     rw [ih (i + 1) _ e2 h (by omega), bnd_ok, List.filter_cons, hb]
     rfl
    | false =>
     show compID src g t e n (i + 1) (base ++ vals ys[i]) S = _
     rw [ih (i + 1) _ e2 h (by omega), List.filter_cons, hb]
     rfl
   ·rw [List.getElem?_eq_none (by omega), List.drop_of_length_le (by omega)]
    rfl
 unfold compI
 rw [hit, bnd_ok]
 unfold compIL
 have hl1 := hs.1
 rw [if_pos hl, key _ 0 _ (by simp) (Nat.zero_le _) (by omega), List.drop_zero]
 rfl
def numB (n : Int) : D → Bool
 | .tup (.int i :: _) => !decide (i = n)
 | _ => false
def numD : D → D
 | .tup (x :: _) => x
 | x => x
theorem filter_num (n : Nat) : ∀ q : List (Pt × Nat), ((q.map ptD).filter (numB n)) = (q.filter fun x => decide (x.1.num ≠ n)).map ptD
 | [] => rfl
 | x :: q => by
  have e : numB n (ptD x) = decide (x.1.num ≠ n) := by
   show (!decide ((x.1.num : Int) = (n : Int))) = _
   by_cases h : x.1.num = n
   ·simp [h]
   ·have : ¬ (x.1.num : Int) = (n : Int) := by omega
    simp [h, this]
  rw [List.map_cons, List.filter_cons, List.filter_cons, filter_num n q, e]
  split <;> rfl
theorem take_w (h : Pl S p ss st k xs w l q) {n : Nat} (hl : q.length ≤ 1000) (hx : xs.length < 900000) (hn : n ∈ q.map (·.1.num)) :
  W (F.Plane_take [.ref p, .int (n : Int)] S) fun d S' => Nx S S' p ss st xs q w l ((q.map (·.1)).filter fun t => decide (t.num ≠ n)) := by
 (unfold F.Plane_take; refine Np.W_fnF rfl ?_; unfold Den.Plane_take; simp_all [])
 have c1 : compE (itE itL (op1 (fldD "State" "kept") (vr 2))) 1 (setG 4) (op2 ixD (vr 4) (cst (.int 0))) [some (.ref p), some (.int (n : Int)), some (.ref st), none] S = ok (.ref S.length) (S ++ [.lst ((q.map (·.1.num)).map natD)]) := by
  refine (comp_pure (fun x => [some x]) (xs := q.map ptD) (f := numD) (tg_one [some (.ref p), some (.int (n : Int)), some (.ref st), none]) (src := .one k) (by simp only [itE, op1, vr, List.getElem?_cons_zero, List.getElem?_cons_succ, bnd_ok, h.f5, itL_ref h.kp.1]) (Has.one h.kp.1) (by rw [len_one h.kp.1]; simp; omega) (fun _ _ => trivial) fun x hx => by
   obtain ⟨y, _, rfl⟩ := List.mem_map.mp hx
   rfl).trans ?_
  simp [List.map_map, Function.comp_def, numD, ptD, natD]
 simp_all [h.f1, h.f2, whole_int, c1, notinD_nats (lstAt_push S _), hn]
 generalize hS2 : S ++ [O.lst (List.map natD (List.map (fun x => x.fst.num) q))] = S2
 have l2 : SLe S S2 := ⟨_, hS2.symm⟩
 have h2 := h.mono l2
 have c2 : compI (itE itL (op1 (fldD "State" "kept") (vr 2))) 1 (setG 4) (tv (op2 neD (op2 ixD (vr 4) (cst (.int 0))) (vr 1))) (vr 4) [some (.ref p), some (.int (n : Int)), some (.ref st), none] S2 = ok (.ref S2.length) (S2 ++ [.lst ((q.filter fun x => decide (x.1.num ≠ n)).map ptD)]) := by
  refine (compI_pure (fun x => [some x]) (ys := q.map ptD) (b := numB n) (f := fun x => x) (tg_one [some (.ref p), some (.int (n : Int)), some (.ref st), none]) (src := .one k) (by simp only [itE, op1, vr, List.getElem?_cons_zero, List.getElem?_cons_succ, bnd_ok, h2.f5, itL_ref h2.kp.1]) (Has.one h2.kp.1) (by rw [len_one h2.kp.1]; simp; omega) (fun _ _ => trivial) (fun x hx => by
   obtain ⟨y, _, rfl⟩ := List.mem_map.mp hx
   simp only [tv, op2, op2K, vr, cst, List.cons_append, List.nil_append, List.getElem?_cons_zero, List.getElem?_cons_succ, bnd_ok, ptD, tix4_0, neD_int]
   rfl) (fun x hx => by
   obtain ⟨y, _, rfl⟩ := List.mem_map.mp hx
   rfl)).trans ?_
  rw [List.map_id', filter_num]
 simp_all [c2]
 generalize hS3 : S2 ++ [O.lst (List.map ptD (List.filter (fun x => decide (x.fst.num ≠ n)) q))] = S3
 have l3 : SLe S2 S3 := ⟨_, hS3.symm⟩
 have r3 : zH S3 S2.length = some ((q.filter fun x => decide (x.1.num ≠ n)).map ptD) := by rw [← hS3]; exact lstAt_push S2 _
 have h3 := h2.mono l3
 simp_all [h3.f1, opMK_ref h3.sl, mkE, h3.f3, h3.f4, state_mk]
 refine (h.next (w' := w) (l' := l) (ts := (q.map (·.1)).filter fun t => decide (t.num ≠ n)) (q' := q.filter fun x => decide (x.1.num ≠ n)) (l2.trans l3) ⟨r3, fun x hx => h3.kp.2 x (List.mem_filter.mp hx).1⟩ l2.len (fun x hx => .inr ⟨x, (List.mem_filter.mp hx).1, rfl⟩) ?_ hx fun S' hS' => hS')
 rw [List.filter_map]
 rfl
theorem plane_mk {w : Nat} (hw : w ≤ 12) (S : Sto) : W (mkA "Plane" F.Plane___init__ [.int (w : Int)] S) fun d S' => ∃ ss st k, d = .ref S.length ∧ SLe S S' ∧ Pl S' S.length ss st k [] w 0 [] ∧ S.length ≤ ss ∧ S.length ≤ st ∧ S.length ≤ k := by
 have e : W (F.Plane___init__ [.ref S.length, .int (w : Int)] (S ++ [O.ins "Plane" []])) fun d S' => d = .non ∧ ∃ ss st k, SLe S S' ∧ Pl S' S.length ss st k [] w 0 [] ∧ S.length ≤ ss ∧ S.length ≤ st ∧ S.length ≤ k := by
  (unfold F.Plane___init__; refine Np.W_fnF rfl ?_; unfold Den.Plane___init__; simp_all [])
  simp_all [is_wide_eq hw, setfS, mkE]
  refine W_new (lstD_eq (by simp) _) fun S2 k l2 n2 r2 => ?_
  simp_all [state_mk]
  generalize hS3 : S2 ++ [O.ins "State" (stF (.int (w : Int)) (.int 0) (.ref k))] = S3
  have l3 : SLe S2 S3 := ⟨_, hS3.symm⟩
  have i3 : insAt S3 S2.length = some (("State" : Str), stF (.int (w : Int)) (.int 0) (.ref k)) := by rw [← hS3]; exact ins_push S2 _ _
  refine W_new (lstD_eq (by simp) _) fun S4 ss l4 n4 r4 => ?_
  have i4 : insAt S4 S.length = some (("Plane" : Str), []) := (l2.trans (l3.trans l4)).ins (ins_push S _ _)
  have e1 := l2.len
  have e2 := l3.len
  have e3 := l4.len
  have n0 : S.length < (S ++ [O.ins "Plane" []]).length := by simp
  have sf : ∀ δ, setfA "Plane" "states" (.ref ss) δ (.ref S.length) S4 = ok (.nx δ) (S4.set S.length (.ins "Plane" (plF ss))) := fun δ => by
   unfold setfA
   simp only [i4]
   rw [if_pos ⟨trivial, by decide⟩]
   rfl
  simp_all [setfK, sf]
  have bt := Bt.set (S := S4) S.length (O.ins "Plane" (plF ss))
  have l5 : SLe S (S4.set S.length (O.ins "Plane" (plF ss))) := ((SLe.app _).trans (l2.trans (l3.trans l4))).set (Nat.le_refl _) _
  refine ⟨trivial, ss, S2.length, k, l5, ⟨?_, bt.lst (by omega) r4, bt.ins (by omega) (l4.ins i3), ⟨bt.lst (by omega) (l4.lst (l3.lst r2)), fun _ h => by cases h⟩⟩, by omega, by omega, by omega⟩
  have : S.length < S4.length := by omega
  simp [insAt, this]
 obtain ⟨d, S', e0, rfl, ss, st, k, h1, h2, h3, h4, h5⟩ := e.out
 unfold mkA
 rw [e0]
 show W (some (.ok (D.ref S.length) S')) _
 rw [W_ok]
 exact ⟨ss, st, k, rfl, h1, h2, h3, h4, h5⟩
end
end Nm
end
section
namespace Nm
open Np PySem
def Bts (L : List Nat) (S S' : Sto) : Prop := S.length ≤ S'.length ∧ ∀ b, b < S.length → b ∉ L → S'[b]? = S[b]?
theorem Bts.rfl {L : List Nat} {S : Sto} : Bts L S S := ⟨Nat.le_refl _, fun _ _ _ => Eq.refl _⟩
theorem Bts.trans {L : List Nat} {S S' S'' : Sto} (h : Bts L S S') (k : Bts L S' S'') : Bts L S S'' := ⟨Nat.le_trans h.1 k.1, fun b hb hn => by rw [k.2 b (Nat.lt_of_lt_of_le hb h.1) hn, h.2 b hb hn]⟩
theorem Bts.lst {L : List Nat} {b : Nat} {S S' : Sto} {xs : List D} (h : Bts L S S') (hn : b ∉ L) (e : zH S b = some xs) : zH S' b = some xs := by rw [lstAt_eq (h.2 b (lstAt_lt e) hn)]; exact e
theorem Bts.ins {L : List Nat} {b : Nat} {S S' : Sto} {c : Str} {fs : List (Str × D)} (h : Bts L S S') (hn : b ∉ L) (e : insAt S b = some (c, fs)) : insAt S' b = some (c, fs) := by rw [insAt_eq (h.2 b (insAt_lt e) hn)]; exact e
theorem lst_ne {S : Sto} {a b : Nat} {xs ys : List D} (h : zH S a = some xs) (k : zH S b = some ys) (hn : xs ≠ ys) : a ≠ b := fun e => by
 subst e
 rw [h] at k
 exact hn (Option.some.inj k)
theorem Pl.meth {S : Sto} {p ss st k : Nat} {xs : List D} {w l : Nat} {q : List (Pt × Nat)} (h : Pl S p ss st k xs w l q) {m : Str} {Fm : List D → Sto → R D} {as : DA} {δ : DS} (hm : (m == ("states" : Str)) = false) : methK "Plane" m Fm as δ (.ref p) S = bnd (as δ S) (methA Fm (.ref p)) := methK_eq h.pl (by simp [plF, List.lookup, hm])
structure Ls (S : Sto) (s ps w l : Nat) (r : List (Pt × Nat)) : Prop where
 st : zH S s = some [.int (w : Int), .ref ps, .int (l : Int)]
 pt : PtsA S ps r
 nd : (r.map (·.2)).Nodup
theorem Ls.mono {S S' : Sto} {s ps w l : Nat} {r : List (Pt × Nat)} (h : Ls S s ps w l r) (e : SLe S S') : Ls S' s ps w l r := ⟨e.lst h.st, h.pt.mono e, h.nd⟩
theorem Ls.bt {S S' : Sto} {a s ps w l : Nat} {r : List (Pt × Nat)} (h : Ls S s ps w l r) (e : Bt a S S') (h1 : s ≠ a) (h2 : ps ≠ a) (h3 : ∀ x ∈ r, x.2 ≠ a) : Ls S' s ps w l r := ⟨e.lst h1 h.st, h.pt.bt e h2 h3, h.nd⟩
structure Two (S : Sto) (p s ss st k ps : Nat) (xs : List D) (w l : Nat) (q r : List (Pt × Nat)) (w' l' : Nat) : Prop where
 P : Pl S p ss st k xs w l q
 L : Ls S s ps w' l' r
 kp : k ≠ ps
 qr : ∀ x ∈ q, ∀ y ∈ r, x.2 ≠ y.2
section
variable {S S' : Sto} {p s ss st k ps : Nat} {xs : List D} {w l w' l' : Nat} {q r : List (Pt × Nat)}
theorem Two.mono (h : Two S p s ss st k ps xs w l q r w' l') (e : SLe S S') : Two S' p s ss st k ps xs w l q r w' l' := ⟨h.P.mono e, h.L.mono e, h.kp, h.qr⟩
theorem ptD_ne (x : Pt × Nat) (v : Rat) : ptD x ≠ ratD v := fun h => by
 unfold ptD ratD at h
 injection h with h
 have := congrArg List.length h
 simp at this
theorem pts_ne_rats {q : List (Pt × Nat)} {row : List Rat} (h : q ≠ []) : q.map ptD ≠ row.map ratD := fun e => by
 cases q with
 | nil => exact h rfl
 | cons x q =>
  cases row with
  | nil => cases e
  | cons v row =>
   injection e with e1 _
   exact ptD_ne x v e1
theorem Two.ss_s (h : Two S p s ss st k ps xs w l q r w' l') : ss ≠ s := lst_ne h.P.sl h.L.st fun e => by
 have := congrArg List.getLast? e
 simp at this
theorem Two.ps_ss (h : Two S p s ss st k ps xs w l q r w' l') : ps ≠ ss := row_ne h.P.sl h.L.pt.1 (pts_tup _)
theorem Two.row_ss (h : Two S p s ss st k ps xs w l q r w' l') {y : Pt × Nat} (hy : y ∈ r) : y.2 ≠ ss := row_ne h.P.sl (h.L.pt.2 y hy) (rats_tup _)
theorem Two.s_tup (h : Two S p s ss st k ps xs w l q r w' l') {a : Nat} {ys : List D} (ha : zH S a = some ys) (hy : ∀ d ∈ ys, ∃ zs, d = .tup zs) : a ≠ s := lst_ne ha h.L.st fun e => by
 obtain ⟨zs, e⟩ := hy (.int (w' : Int)) (by rw [e]; simp)
 cases e
theorem Two.p_s (h : Two S p s ss st k ps xs w l q r w' l') {a : Nat} {ys : List D} (ha : zH S a = some ys) : p ≠ a := ins_ne_lst h.P.pl ha
theorem Two.st_s (h : Two S p s ss st k ps xs w l q r w' l') {a : Nat} {ys : List D} (ha : zH S a = some ys) : st ≠ a := ins_ne_lst h.P.st ha
theorem Two.step (h : Two S p s ss st k ps xs w l q r w' l') {w2 l2 : Nat} {ts : List Pt} (n : Nx S S' p ss st xs q w2 l2 ts) : ∃ st' k' q', Two S' p s ss st' k' ps (xs ++ [.ref st]) w2 l2 q' r w' l' ∧ Bt ss S S' ∧ S.length ≤ st' ∧ S.length ≤ k' ∧ (∀ x ∈ q', S.length ≤ x.2 ∨ ∃ y ∈ q, y.2 = x.2) ∧ q'.map (·.1) = ts := by
 obtain ⟨st', k', q', b, P, h1, h2, h3, h4⟩ := n
 refine ⟨st', k', q', ⟨P, h.L.bt b h.ss_s.symm h.ps_ss fun y hy => h.row_ss hy, ?_, fun x hx y hy => ?_⟩, b, h1, h2, h3, h4⟩
 ·have := lstAt_lt h.L.pt.1
  omega
 ·rcases h3 x hx with z | ⟨z, hz, e⟩
  ·have := lstAt_lt (h.L.pt.2 y hy)
   omega
  ·rw [← e]
   exact h.qr z hz y hy
theorem Two.aside (h : Two S p s ss st k ps xs w l q r w' l') {a : Nat} (b : Bt a S S') (h1 : p ≠ a) (h2 : ss ≠ a) (h3 : st ≠ a) (h4 : k ≠ a) (h5 : ∀ x ∈ q, x.2 ≠ a) (h6 : s ≠ a) (h7 : ps ≠ a) (h8 : ∀ x ∈ r, x.2 ≠ a) : Two S' p s ss st k ps xs w l q r w' l' := ⟨h.P.bt b h1 h2 h3 h4 h5, h.L.bt b h6 h7 h8, h.kp, h.qr⟩
theorem Two.lt (h : Two S p s ss st k ps xs w l q r w' l') : p < S.length ∧ ss < S.length ∧ st < S.length ∧ k < S.length ∧ (∀ x ∈ q, x.2 < S.length) ∧ s < S.length ∧ ps < S.length ∧ ∀ x ∈ r, x.2 < S.length :=
 ⟨insAt_lt h.P.pl, lstAt_lt h.P.sl, insAt_lt h.P.st, lstAt_lt h.P.kp.1, fun x hx => lstAt_lt (h.P.kp.2 x hx), lstAt_lt h.L.st, lstAt_lt h.L.pt.1, fun x hx => lstAt_lt (h.L.pt.2 x hx)⟩
theorem Two.setS (h : Two S p s ss st k ps xs w l q r w' l') {w2 l2 : Nat} (e : zH S' s = some [.int (w2 : Int), .ref ps, .int (l2 : Int)]) (b : Bt s S S') : Two S' p s ss st k ps xs w l q r w2 l2 :=
 ⟨h.P.bt b (h.p_s h.L.st) h.ss_s (h.st_s h.L.st) (h.s_tup h.P.kp.1 (pts_tup _)) fun x hx => h.s_tup (h.P.kp.2 x hx) (rats_tup _), ⟨e, h.L.pt.bt b (h.s_tup h.L.pt.1 (pts_tup _)) fun x hx => h.s_tup (h.L.pt.2 x hx) (rats_tup _), h.L.nd⟩, h.kp, h.qr⟩
theorem Two.setP (h : Two S p s ss st k ps xs w l q r w' l') {r2 : List (Pt × Nat)} (e : zH S' ps = some (r2.map ptD)) (b : Bt ps S S') (nq : ∀ x ∈ q, x.2 ≠ ps) (hr : ∀ x ∈ r2, x.2 ≠ ps ∧ RowA S x.2 x.1.row) (nd : (r2.map (·.2)).Nodup) (hq : ∀ x ∈ q, ∀ y ∈ r2, x.2 ≠ y.2) : Two S' p s ss st k ps xs w l q r2 w' l' :=
 ⟨h.P.bt b (h.p_s h.L.pt.1) h.ps_ss.symm (h.st_s h.L.pt.1) h.kp nq, ⟨b.lst (h.s_tup h.L.pt.1 (pts_tup _)).symm h.L.st, ⟨e, fun x hx => b.lst (hr x hx).1 (hr x hx).2⟩, nd⟩, h.kp, hq⟩
end
structure Ok (n w l : Nat) (ts : List Pt) : Prop where
 len : ts.length ≤ n
 wide : w ≤ 12
 laid : l ≤ n
 nums : (ts.map (·.num)).Nodup
 each : ∀ t ∈ ts, t.num < l ∧ t.row.length = w ∧ (∀ x ∈ t.row, Le 150 x) ∧ Le 70 t.want ∧ Le 70 t.wt ∧ 0 < t.wt.num
def Bo (S : Sto) (p s n w l : Nat) (ts : List Pt) : Prop := ∃ ss st k ps xs q r, Two S p s ss st k ps xs w l q r w l ∧ q.map (·.1) = ts ∧ r.map (·.1) = ts ∧ xs.length ≤ n ∧ Ok n w l ts
theorem Bo.mono {S S' : Sto} {p s n w l : Nat} {ts : List Pt} (h : Bo S p s n w l ts) (e : SLe S S') : Bo S' p s n w l ts := by
 obtain ⟨ss, st, k, ps, xs, q, r, h1, h2⟩ := h
 exact ⟨ss, st, k, ps, xs, q, r, h1.mono e, h2⟩
theorem al2_pts {S : Sto} : ∀ {q r : List (Pt × Nat)}, q.map (·.1) = r.map (·.1) → (∀ x ∈ q, RowA S x.2 x.1.row ∧ x.1.row.length ≤ 1000) → (∀ x ∈ r, RowA S x.2 x.1.row) → Al2 (Al S 6) (q.map ptD) (r.map ptD)
 | [], [], _, _, _ => trivial
 | x :: q, y :: r, e, h1, h2 => by
  injection e with e1 e2
  have e1 : x.1 = y.1 := e1
  refine ⟨.inr (.inl ⟨_, _, rfl, rfl, by simp, ⟨.inl ⟨_, rfl, by rw [e1]⟩, ?_, ?_, ?_, trivial⟩⟩), al2_pts e2 (fun z hz => h1 z (.tail _ hz)) fun z hz => h2 z (.tail _ hz)⟩
  ·refine al_row 2 (h1 x (.head _)).1 ?_ (h1 x (.head _)).2
   rw [e1]
   exact h2 y (.head _)
  ·rw [e1]; exact al_rat S 3 _
  ·rw [e1]; exact al_rat S 3 _
 | [], _ :: _, e, _, _ => by cases e
 | _ :: _, [], e, _, _ => by cases e
theorem stands_w {S : Sto} {p s n w l : Nat} {ts : List Pt} (h : Bo S p s n w l ts) (hn : n ≤ 900) : W (F.k52_stands [.ref p, .ref s] S) fun d S' => d = .bl true ∧ SLe S S' := by
 obtain ⟨ss, st, k, ps, xs, q, r, T, eq, er, hx, O⟩ := h
 have lq : q.length = ts.length := by rw [← eq]; simp
 have ol := O.len
 (unfold F.k52_stands; refine Np.W_fnF rfl ?_; unfold Den.k52_stands; simp_all [])
 simp_all [methE, T.P.meth (m := "width") rfl, methA, width_eq T.P, ixD_at0 T.L.st rfl]
 refine (alike_w (n := 7) (show Al S 7 (.int (w : Int)) (.int (w : Int)) from .inl ⟨_, rfl, rfl⟩)).mono ?_
 rintro d S1 ⟨rfl, l1⟩
 have T1 := T.mono l1
 simp_all [methE, T1.P.meth (m := "points") rfl, methA]
 refine (points_w T1.P (by omega)).mono ?_
 rintro d S2 ⟨c, q', rfl, l2, hc, hq', _⟩
 have T2 := T1.mono l2
 simp_all [ixD_at1 T2.L.st rfl]
 refine (alike_w (n := 7) (show Al S2 7 (.ref c) (.ref ps) from .inr (.inr ⟨c, ps, _, _, rfl, rfl, hc.1, T2.L.pt.1, ?_, al2_pts (by rw [hq', eq, er]) (fun x hx => ⟨hc.2 x hx, ?_⟩) T2.L.pt.2⟩))).mono ?_
 ·have := congrArg List.length hq'
  simp at this ⊢
  omega
 ·have : x.1 ∈ ts := by rw [← eq, ← hq']; exact List.mem_map.mpr ⟨x, hx, rfl⟩
  have h1 := (O.each _ this).2.1
  have h2 := O.wide
  omega
 ·rintro d S3 ⟨rfl, l3⟩
  simp_all []
  exact ⟨trivial, (l1.trans l2).trans l3⟩
end Nm
end
section
namespace Nm
open Np PySem
theorem W_appB {S : Sto} {b : Nat} {xs : List D} {d : D} {Q : D → Sto → Prop} (h : zH S b = some xs) (hl : xs.length < 1000000) (k : ∀ S', Bt b S S' → S'.length = S.length → zH S' b = some (xs ++ [d]) → Q .non S') : W (appD (.ref b) d S) Q :=
 W.intro (appD_ref d h hl) (k _ (Bt.set b _) (by simp) (lstAt_set h))
theorem W_setB {S : Sto} {b i : Nat} {xs : List D} {v : D} {δ : DS} {Q : DS → Sto → Prop} (h : zH S b = some xs) (hi : i < xs.length) (k : ∀ S', Bt b S S' → S'.length = S.length → zH S' b = some (xs.set i v) → Q δ S') : W (setXA v δ (.ref b) (.int (i : Int)) S) Q :=
 W.intro (setXA_ref v δ h hi) (k _ (Bt.set b _) (by simp) (lstAt_set h))
theorem W_popAtB {S : Sto} {b i : Nat} {xs : List D} {d : D} {Q : D → Sto → Prop} (h : zH S b = some xs) (hi : xs[i]? = some d) (hl : i < 1000000) (k : ∀ S', Bt b S S' → S'.length = S.length → zH S' b = some (xs.eraseIdx i) → Q d S') : W (popAtD (.ref b) (.int (i : Int)) S) Q := by
 have e : popAtD (.ref b) (.int (i : Int)) S = ok d (S.set b (.lst (xs.eraseIdx i))) := by
  unfold popAtD
  simp only [h, Int.toNat_natCast, hi]
  rw [if_pos ⟨by omega, by omega⟩]
 exact W.intro e (k _ (Bt.set b _) (by simp) (lstAt_set h))
theorem filter_erase : ∀ {ts : List Pt} {a : Nat} {t : Pt}, (ts.map (·.num)).Nodup → ts[a]? = some t → (ts.filter fun u => decide (u.num ≠ t.num)) = ts.eraseIdx a
 | [], _, _, _, h => by simp at h
 | u :: ts, 0, t, hn, h => by
  obtain rfl : u = t := by simpa using h
  rw [List.filter_cons, if_neg (by simp)]
  rw [List.map_cons, List.nodup_cons] at hn
  rw [List.eraseIdx_cons_zero]
  refine List.filter_eq_self.mpr fun v hv => ?_
  refine decide_eq_true fun e => hn.1 ?_
  rw [← e]
  exact List.mem_map.mpr ⟨v, hv, rfl⟩
 | u :: ts, a + 1, t, hn, h => by
  rw [List.getElem?_cons_succ] at h
  rw [List.map_cons, List.nodup_cons] at hn
  have : u.num ≠ t.num := fun e => hn.1 (by rw [e]; exact List.mem_map.mpr ⟨t, List.mem_of_getElem? h, rfl⟩)
  rw [List.filter_cons, if_pos (by simpa using this), List.eraseIdx_cons_succ, filter_erase hn.2 h]
theorem map_erase {α β : Type} (f : α → β) : ∀ (xs : List α) (i : Nat), (xs.eraseIdx i).map f = (xs.map f).eraseIdx i
 | [], _ => by simp
 | _ :: _, 0 => by simp
 | x :: xs, i + 1 => by simp [map_erase f xs i]
section
variable {S : Sto} {p s n w l : Nat} {ts : List Pt}
theorem nmap {q : List (Pt × Nat)} : q.map (·.1.num) = (q.map (·.1)).map (·.num) := by rw [List.map_map]; rfl
theorem taken_w (h : Bo S p s n w l ts) (hn : n ≤ 900) {m : Int} (h0 : ts ≠ []) : W (F.k52_taken [.ref p, .ref s, .int m] S) fun d S' => ∃ ts', Bo S' p s (n + 1) w l ts' := by
 obtain ⟨ss, st, k, ps, xs, q, r, T, eq, er, hx, O⟩ := h
 have lq : q.length = ts.length := by rw [← eq]; simp
 have lr : r.length = ts.length := by rw [← er]; simp
 have ol := O.len
 have lt : 0 < ts.length := List.length_pos_iff.mpr h0
 have hne : ((r.map ptD).length : Int) ≠ 0 := by rw [List.length_map]; omega
 obtain ⟨f1, f2⟩ := fmod_bd m (show (0 : Int) < ((r.map ptD).length : Int) by rw [List.length_map]; omega)
 obtain ⟨a, ha⟩ : ∃ a : Nat, m.fmod ((r.map ptD).length : Int) = (a : Int) := ⟨(m.fmod ((r.map ptD).length : Int)).toNat, by omega⟩
 rw [List.length_map] at f2
 have ha' : a < r.length := by rw [List.length_map] at ha; omega
 have hy : r[a]? = some r[a] := List.getElem?_eq_getElem ha'
 have hpy : (r.map ptD)[a]? = some (ptD r[a]) := by rw [List.getElem?_map, hy]; rfl
 (unfold F.k52_taken; refine Np.W_fnF rfl ?_; unfold Den.k52_taken; simp_all [])
 simp_all [ixD_at1 T.L.st rfl, lenD_ref T.L.pt.1, modD_int hne, ha, methE, T.P.meth (m := "take") rfl, methA, ixD_ref T.L.pt.1 hpy]
 unfold ptD
 simp_all [tix4_0]
 have hm : r[a].1.num ∈ q.map (·.1.num) := by
  rw [nmap, eq, ← er, ← nmap]
  exact List.mem_map.mpr ⟨r[a], List.getElem_mem ha', rfl⟩
 refine (take_w T.P (by omega) (by omega) hm).mono ?_
 intro d S1 N
 obtain ⟨st', k', q', T1, b1, n1, n2, n3, e1⟩ := T.step N
 have hta : ts[a]? = some r[a].1 := by rw [← er, List.getElem?_map, hy]; rfl
 rw [eq, filter_erase O.nums hta] at e1
 simp_all [ixD_at1 T1.L.st rfl, opMK_ref T1.L.pt.1]
 refine W_popAtB T1.L.pt.1 hpy (by omega) fun S2 b2 l2 r2 => ?_
 have T2 : Two S2 p s ss st' k' ps (xs ++ [.ref st]) w l q' (r.eraseIdx a) w l := by
  refine T1.setP (by rw [r2, map_erase]) b2 (fun x hx => ?_) (fun x hx => ?_) ?_ fun x hx y hy => T1.qr x hx y (List.mem_of_mem_eraseIdx hy)
  ·have nr : r ≠ [] := fun z => by rw [z] at ha'; simp at ha'
   exact (lst_ne T1.L.pt.1 (T1.P.kp.2 x hx) (pts_ne_rats nr)).symm
  ·have hx' := List.mem_of_mem_eraseIdx hx
   have nr : r ≠ [] := fun z => by rw [z] at ha'; simp at ha'
   exact ⟨(lst_ne T1.L.pt.1 (T1.L.pt.2 x hx') (pts_ne_rats nr)).symm, T1.L.pt.2 x hx'⟩
  ·rw [map_erase]
   exact T1.L.nd.sublist (List.eraseIdx_sublist ..)
 refine ⟨ts.eraseIdx a, ss, st', k', ps, xs ++ [.ref st], q', r.eraseIdx a, T2, e1, by rw [map_erase, er], by simp; omega, ?_, O.wide, by have := O.laid; omega, ?_, fun t ht => O.each t (List.mem_of_mem_eraseIdx ht)⟩
 ·have := List.length_eraseIdx_le ts a
  omega
 ·rw [map_erase]
  exact O.nums.sublist (List.eraseIdx_sublist ..)
theorem W_seq2 {A B : DSt} {δ : DS} {Q : Fl → Sto → Prop} (P : DS → Sto → Prop) (h : W (A δ S) fun fl S' => ∃ δ', fl = .nx δ' ∧ P δ' S') (k : ∀ δ' S', P δ' S' → W (B δ' S') Q) : W (seqS A B δ S) Q := by
 unfold seqS
 rw [W_bnd]
 refine h.mono ?_
 rintro fl S' ⟨δ', rfl, hp⟩
 exact k δ' S' hp
theorem tupG3b (a b c : DG) (x y z : D) (δ : DS) (S : Sto) : tupG [a, b, c] (.tup [x, y, z]) δ S = tupGs [a, b, c] [x, y, z] δ S := rfl
end
theorem fresh_w {S : Sto} {p ss st k w : Nat} (h : Pl S p ss st k [] w 0 []) (hw : w ≤ 12) : W (F.k52_fresh [.int (w : Int)] S) fun d S' => ∃ s, d = .ref s ∧ Bo S' p s 1 w 0 [] := by
 (unfold F.k52_fresh; refine Np.W_fnF rfl ?_; unfold Den.k52_fresh; simp_all [])
 refine W_new (lstD_eq (by simp) _) fun S1 ps l1 n1 r1 => ?_
 refine W_new (lstD_eq (by simp) _) fun S2 s l2 n2 r2 => ?_
 have u := lstAt_lt h.kp.1
 refine ⟨s, rfl, ss, st, k, ps, [], [], [], ⟨(h.mono l1).mono l2, ⟨r2, ⟨l2.lst r1, fun _ h => by cases h⟩, by simp⟩, by omega, fun _ h => by cases h⟩, rfl, rfl, by simp, by simp, hw, by omega, by simp, fun _ h => by cases h⟩
theorem rp_get {α : Type} {a n i : Nat} {f : Nat → α} {x : α} (h : ((List.range' a n).map f)[i]? = some x) : x = f (a + i) ∧ i < n := by
 rw [List.getElem?_map] at h
 cases e : (List.range' a n)[i]? with
 | none => rw [e] at h; cases h
 | some y =>
  rw [e] at h
  obtain ⟨h1, h2⟩ := List.getElem?_eq_some_iff.mp e
  rw [List.length_range'] at h1
  rw [List.getElem_range'] at h2
  refine ⟨?_, h1⟩
  rw [← Option.some.inj h, ← h2, Nat.one_mul]
end Nm
end
section
namespace Nm
open Np PySem
theorem W_setW {S : Sto} {a b : Nat} {xs ys : List D} {δ : DS} {Q : DS → Sto → Prop} (hx : zH S a = some xs) (hy : zH S b = some ys) (hne : a ≠ b) (h1 : xs.length ≤ 1000000) (h2 : ys.length ≤ 1000000) (k : ∀ S', Bt a S S' → S'.length = S.length → Q δ S') : W (setWA (.ref b) δ (.ref a) S) Q := by
 have e : setWA (.ref b) δ (.ref a) S = ok δ (S.set a (.lst ys)) := by
  unfold setWA
  simp only [hx, hy]
  rw [if_pos ⟨hne, h1, h2⟩]
 exact W.intro e (k _ (Bt.set a _) (by simp))
theorem plus52_eq {p q : Rat} (hp : sm p) (hq : sm q) (S : Sto) : F.k52_plus [ratD p, ratD q] S = ok (ratD (p + q)) S := by
 refine W_eq ?_
 (unfold F.k52_plus; refine Np.W_fnF rfl ?_; unfold Den.k52_plus; simp_all [])
 simp_all [mulD_int (hp.nd hq), mulD_int (hq.nd hp), mulD_int (hp.dd hq), lowest_eq (show (0 : Int) < p.den * q.den from Int.mul_pos (den_pos' p) (den_pos' q)), ← add_divInt]
theorem pointL_w {n : Int} (h0 : 0 ≤ n) {k : Nat} (hk : k < 900) (lean : Bool) (S : Sto) : W (F.k52_point [.int n, .int (k : Int), .bl lean] S) fun d S' => ∃ c xs want wt, d = .tup [.ref c, ratD want, ratD wt] ∧ S.length ≤ c ∧ SLe S S' ∧ RowA S' c xs ∧ xs.length = k ∧ (∀ x ∈ xs, Le 150 x) ∧ Le 70 want ∧ Le 70 wt ∧ 0 < wt.num := by
 unfold F.k52_point
 refine W_fnF rfl ?_
 rw [W_outF]
 unfold Den.k52_point
 refine W_seq2 (fun δ' S' => S' = S ∧ δ' = [some (.int (n.fdiv 100003)), some (.int (k : Int)), some (.bl lean), some (.int (n.fmod 100003)), none, none]) ?_ ?_
 ·simp_all [dvm_eq (show (100003 : Int) ≠ 0 by decide), tupG2]
  exact ⟨_, rfl, trivial, rfl⟩
 rintro _ S' ⟨e, rfl⟩
 obtain rfl : S = S' := e.symm
 refine W_seq2 (fun δ' S' => S' = S ∧ δ' = [some (.int ((n.fdiv 100003).fdiv 6)), some (.int (k : Int)), some (.bl lean), some (.int (n.fmod 100003)), some (.int ((n.fdiv 100003).fmod 6)), none]) ?_ ?_
 ·simp_all [dvm_eq (show (6 : Int) ≠ 0 by decide), tupG2]
  exact ⟨_, rfl, trivial, rfl⟩
 rintro _ S' ⟨e, rfl⟩
 obtain rfl : S = S' := e.symm
 refine W_seq2 (fun δ' S' => ∃ c xs, δ' = [some (.int ((n.fdiv 100003).fdiv 6)), some (.int (k : Int)), some (.bl lean), some (.int (n.fmod 100003)), some (.int ((n.fdiv 100003).fmod 6)), some (.ref c)] ∧ S.length ≤ c ∧ SLe S S' ∧ RowA S' c xs ∧ xs.length = k ∧ ∀ x ∈ xs, Le 70 x) ?_ ?_
 ·simp_all []
  refine (row52_w ((n.fdiv 100003).fdiv 6) hk S).mono ?_
  rintro d S1 ⟨c, xs, rfl, hc, l1, rc, hl, hx⟩
  exact ⟨_, rfl, c, xs, rfl, hc, l1, rc, hl, hx⟩
 rintro _ S0 ⟨c, xs0, rfl, hc, l0, rc0, hl0, hx0⟩
 refine W_seq2 (fun δ' S' => ∃ xs, δ' = [some (.int ((n.fdiv 100003).fdiv 6)), some (.int (k : Int)), some (.bl lean), some (.int (n.fmod 100003)), some (.int ((n.fdiv 100003).fmod 6)), some (.ref c)] ∧ SLe S S' ∧ RowA S' c xs ∧ xs.length = k ∧ ∀ x ∈ xs, Le 150 x) ?_ ?_
 ·have w150 : ∀ x ∈ xs0, Le 150 x := fun x hx => (hx0 x hx).mono (by decide)
  cases lean with
  | false =>
   simp_all []
   exact ⟨_, rfl, xs0, rfl, l0, rc0, hl0, w150⟩
  | true =>
   by_cases h1 : (1 : Int) < (k : Int)
   ·have k1 : k - 1 < xs0.length := by omega
    have k2 : k - 2 < xs0.length := by omega
    have k0 : 0 < xs0.length := by omega
    have e1 : ((k : Int) - 1) = ((k - 1 : Nat) : Int) := by omega
    have e2 : ((k : Int) - 2) = ((k - 2 : Nat) : Int) := by omega
    have g0 : (xs0.map ratD)[0]? = some (ratD xs0[0]) := by simp [k0]
    have g2 : (xs0.map ratD)[k - 2]? = some (ratD xs0[k - 2]) := by simp [k2]
    have z0 := hx0 _ (List.getElem_mem k0)
    have z2 := hx0 _ (List.getElem_mem k2)
    simp_all [h1, ixD_at0 rc0 g0, e2, ixD_ref rc0 g2, plus52_eq (z0.sm (by decide)) (z2.sm (by decide)), e1, setXG, setXK]
    refine W_setX rc0 (by simpa using k1) fun S' _ kS _ r' => ?_
    refine ⟨_, rfl, xs0.set (k - 1) (xs0[0] + xs0[k - 2]), rfl, kS _ l0 hc, by show zH _ _ = _; rw [r', List.map_set], by simp [hl0], fun x hx => ?_⟩
    rcases List.mem_or_eq_of_mem_set hx with hx | rfl
    ·exact w150 x hx
    ·exact (z0.add z2).mono (by decide)
   ·simp_all [h1]
    exact ⟨_, rfl, xs0, rfl, l0, rc0, hl0, w150⟩
 rintro _ S1 ⟨xs, rfl, l1, rc, hl, hx⟩
 obtain ⟨g1, g2⟩ := fmod_bd n (show (0 : Int) < 100003 by decide)
 simp_all []
 refine (ratio52_w g1 g2 S1).mono ?_
 rintro d S2 ⟨l2, want, hw, rfl⟩
 simp_all [tup2, tup3]
 refine W_new (lstD_eq (by simp) _) fun S3 b l3 n3 hp => ?_
 obtain ⟨i1, i2⟩ := fmod_bd (n.fdiv 100003) (show (0 : Int) < 6 by decide)
 have hq : ∃ wt : Rat, Le 70 wt ∧ 0 < wt.num ∧ ixD (.ref b) (.int ((n.fdiv 100003).fmod 6)) S3 = ok (ratD wt) S3 := by
  generalize (n.fdiv 100003).fmod 6 = j at i1 i2
  have : j = 0 ∨ j = 1 ∨ j = 2 ∨ j = 3 ∨ j = 4 ∨ j = 5 := by omega
  rcases this with rfl | rfl | rfl | rfl | rfl | rfl
  ·exact ⟨1, ⟨by decide, by decide⟩, by decide, ixD_ref (i := 0) hp rfl⟩
  ·exact ⟨1, ⟨by decide, by decide⟩, by decide, ixD_ref (i := 1) hp rfl⟩
  ·exact ⟨mkRat 1 2, ⟨by decide, by decide⟩, by decide, ixD_ref (i := 2) hp (by show some (D.tup [.int 1, .int 2]) = some (D.tup [.int (mkRat 1 2).num, .int ((mkRat 1 2).den : Int)]); rw [show (mkRat 1 2).num = 1 by decide, show (mkRat 1 2).den = 2 by decide]; rfl)⟩
  ·exact ⟨2, ⟨by decide, by decide⟩, by decide, ixD_ref (i := 3) hp rfl⟩
  ·exact ⟨3, ⟨by decide, by decide⟩, by decide, ixD_ref (i := 4) hp rfl⟩
  ·exact ⟨mkRat 5 7, ⟨by decide, by decide⟩, by decide, ixD_ref (i := 5) hp (by show some (D.tup [.int 5, .int 7]) = some (D.tup [.int (mkRat 5 7).num, .int ((mkRat 5 7).den : Int)]); rw [show (mkRat 5 7).num = 5 by decide, show (mkRat 5 7).den = 7 by decide]; rfl)⟩
 obtain ⟨wt, w1, w2, w3⟩ := hq
 rw [w3, show (ok (ratD wt) S3 : R D) = some (.ok (ratD wt) S3) from rfl, W_ok]
 exact ⟨c, xs, want, wt, rfl, hc, (l1.trans l2).trans l3, l3.lst (l2.lst rc), hl, hx, hw, w1, w2⟩
section
variable {S : Sto} {p s n w l : Nat} {ts : List Pt}
theorem laid51_w (h : Bo S p s n w l ts) (hn : n ≤ 800) {m : Int} (hm : 0 ≤ m) (lean : Bool) : W (F.k51_laid [.ref p, .ref s, .int m, .bl lean] S) fun d S' => d = .bl true ∧ ∃ ts', Bo S' p s (n + 1) w (l + 1) ts' := by
 obtain ⟨ss, st, k, ps, xs, q, r, T, eq, er, hx, O⟩ := h
 have lq : q.length = ts.length := by rw [← eq]; simp
 have lr : r.length = ts.length := by rw [← er]; simp
 have ol := O.len
 have ow := O.wide
 obtain ⟨u1, u2, u3, u4, u5, u6, u7, u8⟩ := T.lt
 unfold F.k51_laid
 refine W_fnF rfl ?_
 rw [W_outF]
 unfold Den.k51_laid
 refine W_seq2 (fun δ' S' => ∃ c row want wt, δ' = [some (.ref p), some (.ref s), some (.int m), some (.bl lean), some (.ref c), some (ratD want), some (ratD wt), none, none] ∧ SLe S S' ∧ S.length ≤ c ∧ RowA S' c row ∧ row.length = w ∧ (∀ x ∈ row, Le 150 x) ∧ Le 70 want ∧ Le 70 wt ∧ 0 < wt.num) ?_ ?_
 ·simp_all [ixD_at0 T.L.st rfl]
  refine (pointL_w hm (show w < 900 by omega) lean S).mono ?_
  rintro d S1 ⟨c, row, want, wt, rfl, nc, l1, rc, h1, h2, h3, h4, h5⟩
  simp_all [tupG3b]
  exact ⟨_, rfl, c, row, want, wt, rfl, l1, nc, rc, h1, h2, h3, h4, h5⟩
 rintro _ S1 ⟨c1, row1, want, wt, rfl, l1, nc1, rc1, hl1, hx1, hwant, hwt, hpos⟩
 have T1 := T.mono l1
 refine W_seq2 (fun δ' S' => ∃ c row, δ' = [some (.ref p), some (.ref s), some (.int m), some (.bl lean), some (.ref c), some (ratD want), some (ratD wt), none, none] ∧ SLe S S' ∧ S.length ≤ c ∧ RowA S' c row ∧ row.length = w ∧ (∀ x ∈ row, Le 150 x)) ?_ ?_
 ·by_cases hr0 : (0 : Int) < ((r.map ptD).length : Int)
  ·by_cases h5 : m.fmod 5 = 1
   ·obtain ⟨f1, f2⟩ := fmod_bd (m.fdiv 5) hr0
    obtain ⟨a, ha⟩ : ∃ a : Nat, (m.fdiv 5).fmod ((r.map ptD).length : Int) = (a : Int) := ⟨((m.fdiv 5).fmod ((r.map ptD).length : Int)).toNat, by omega⟩
    have ha' : a < r.length := by rw [List.length_map] at ha f2; omega
    have hy : r[a]? = some r[a] := List.getElem?_eq_getElem ha'
    have hpy : (r.map ptD)[a]? = some (ptD r[a]) := by rw [List.getElem?_map, hy]; rfl
    have hym := List.getElem_mem ha'
    have ry := T1.L.pt.2 _ hym
    have hne : ((r.map ptD).length : Int) ≠ 0 := by omega
    obtain ⟨g1, g2, g3, g4, g5, g6⟩ := O.each r[a].1 (by rw [← er]; exact List.mem_map.mpr ⟨r[a], hym, rfl⟩)
    simp_all [ixD_at1 T1.L.st rfl, lenD_ref T1.L.pt.1, hr0, modD_int (show (5 : Int) ≠ 0 by decide), h5, fdivD_int (show (5 : Int) ≠ 0 by decide), modD_int hne, ha, ixD_ref T1.L.pt.1 hpy]
    unfold ptD
    simp_all [tix4_1, lofD_ref ry]
    exact ⟨_, rfl, _, _, rfl, l1.push _, l1.len, lstAt_push S1 _, g2, g3⟩
   ·simp_all [ixD_at1 T1.L.st rfl, lenD_ref T1.L.pt.1, hr0, modD_int (show (5 : Int) ≠ 0 by decide), h5]
    exact ⟨_, rfl, c1, row1, rfl, l1, nc1, rc1, hl1, hx1⟩
  ·simp_all [ixD_at1 T1.L.st rfl, lenD_ref T1.L.pt.1, hr0]
   exact ⟨_, rfl, c1, row1, rfl, l1, nc1, rc1, hl1, hx1⟩
 rintro _ S2 ⟨c, row, rfl, l2, nc, rc, hl, hx2⟩
 have T2 := T.mono l2
 refine W_seq2 (fun δ' S' => ∃ hd, δ' = [some (.ref p), some (.ref s), some (.int m), some (.bl lean), some (.ref c), some (ratD want), some (ratD wt), some (.ref hd), none] ∧ SLe S2 S' ∧ S2.length ≤ hd ∧ RowA S' hd row) ?_ ?_
 ·simp_all []
  refine W_new (lofD_ref rc) fun S3 hd l3 n3 r3 => ?_
  exact ⟨_, rfl, hd, rfl, l3, n3, r3⟩
 rintro _ S3 ⟨hd, rfl, l3, n3, r3⟩
 have T3 := T2.mono l3
 have hsm : sm wt := hwt.sm (by decide)
 refine W_seq2 (fun δ' S' => δ' = [some (.ref p), some (.ref s), some (.int m), some (.bl lean), some (.ref c), some (ratD want), some (ratD wt), some (.ref hd), some (.int (l : Int))] ∧ Nx S3 S' p ss st xs q w (l + 1) (q.map (·.1) ++ [⟨l, row, want, wt⟩])) ?_ ?_
 ·by_cases h1 : wt = 1
  ·rw [h1] at hsm hpos
   by_cases h3 : m.fmod 3 = 0
   ·simp_all [tup2, rat1, eqD_rat, h1, modD_int (show (3 : Int) ≠ 0 by decide), h3, methE, T3.P.meth (m := "lay") rfl, methA, fnD]
    refine (lay_w T3.P r3 hl (by omega) ow (by omega) hsm hpos (.inl ⟨rfl, rfl⟩)).mono ?_
    rintro d S4 ⟨rfl, N⟩
    exact ⟨_, rfl, rfl, N⟩
   ·by_cases h4 : m.fmod 3 = 1
    ·simp_all [tup2, rat1, eqD_rat, h1, modD_int (show (3 : Int) ≠ 0 by decide), h3, h4, show ¬ ((1 : Int) = 0) by decide, methE, T3.P.meth (m := "lay") rfl, methA]
     refine (lay_w T3.P r3 hl (by omega) ow (by omega) hsm hpos (.inl ⟨rfl, rfl⟩)).mono ?_
     rintro d S4 ⟨rfl, N⟩
     exact ⟨_, rfl, rfl, N⟩
    ·simp_all [tup2, rat1, eqD_rat, h1, modD_int (show (3 : Int) ≠ 0 by decide), h3, h4, methE, T3.P.meth (m := "lay") rfl, methA]
     refine (lay_w T3.P r3 hl (by omega) ow (by omega) hsm hpos (.inr rfl)).mono ?_
     rintro d S4 ⟨rfl, N⟩
     exact ⟨_, rfl, rfl, N⟩
  ·simp_all [tup2, rat1, eqD_rat, h1, methE, T3.P.meth (m := "lay") rfl, methA]
   refine (lay_w T3.P r3 hl (by omega) ow (by omega) hsm hpos (.inr rfl)).mono ?_
   rintro d S4 ⟨rfl, N⟩
   exact ⟨_, rfl, rfl, N⟩
 rintro _ S4 ⟨rfl, N⟩
 obtain ⟨st', k', q', T4, b4, n41, n42, n43, e4⟩ := T3.step N
 rw [eq] at e4
 have v2 := l2.len
 have v3 := l3.len
 have vh := lstAt_lt r3
 have vc := lstAt_lt rc
 have r4 : RowA S4 hd row := b4.lst (by omega) r3
 have c4 : RowA S4 c row := b4.lst (by omega) (l3.lst rc)
 simp_all [neD_row r4 c4, tup2]
 refine W_new (lstD_eq (by simp) _) fun S4' nb l4' n4' r4' => ?_
 have v4 := b4.1
 have v4' := l4'.len
 simp_all [setWG]
 refine W_setW (l4'.lst r4) r4' (by omega) (by simp; omega) (by simp) fun S5 b5 l5 => ?_
 have T5 := (T4.mono l4').aside b5 (by omega) (by omega) (by omega) (by omega) (fun x hx => by
  rcases n43 x hx with z | ⟨z, hz, e⟩
  ·omega
  ·have := u5 z hz
   omega) (by omega) (by omega) (fun x hx => by have := u8 x hx; omega)
 have c5 : RowA S5 c row := b5.lst (by omega) (l4'.lst c4)
 simp_all [ixD_at1 T5.L.st rfl, opMK_ref T5.L.pt.1, show ixD (.ref s) (.int 2) S5 = ok (.int (l : Int)) S5 from ixD_ref (i := 2) T5.L.st rfl, tup4]
 refine W_appB T5.L.pt.1 (by simp; omega) fun S6 b6 l6 r6 => ?_
 have cps : c ≠ ps := by omega
 have T6 : Two S6 p s ss st' k' ps (xs ++ [.ref st]) w (l + 1) q' (r ++ [(⟨l, row, want, wt⟩, c)]) w l := by
  refine T5.setP (by rw [r6]; simp [ptD]) b6 (fun x hx => ?_) (fun x hx => ?_) ?_ fun x hx y hy => ?_
  ·by_cases nr : r = []
   ·rcases n43 x hx with z | ⟨z, hz, e⟩
    ·omega
    ·exfalso
     have : r.length = 0 := by rw [nr]; rfl
     have : q.length = 0 := by omega
     rw [List.eq_nil_of_length_eq_zero this] at hz
     cases hz
   ·exact (lst_ne T5.L.pt.1 (T5.P.kp.2 x hx) (pts_ne_rats nr)).symm
  ·rcases List.mem_append.mp hx with hx | hx
   ·have nr : r ≠ [] := fun z => by rw [z] at hx; cases hx
    exact ⟨(lst_ne T5.L.pt.1 (T5.L.pt.2 x hx) (pts_ne_rats nr)).symm, T5.L.pt.2 x hx⟩
   ·rw [List.mem_singleton.mp hx]
    exact ⟨cps, c5⟩
  ·rw [List.map_append]
   refine List.nodup_append.mpr ⟨T5.L.nd, by simp, fun a ha b hb => ?_⟩
   obtain ⟨y, hy, rfl⟩ := List.mem_map.mp ha
   have := u8 y hy
   obtain rfl : b = c := by simpa using hb
   omega
  ·rcases List.mem_append.mp hy with hy | hy
   ·exact T5.qr x hx y hy
   ·rw [List.mem_singleton.mp hy]
    rcases n43 x hx with z | ⟨z, hz, e⟩
    ·show x.2 ≠ c
     omega
    ·have := u5 z hz
     show x.2 ≠ c
     omega
 have hl1 : (l : Int) + 1 = ((l + 1 : Nat) : Int) := by omega
 simp_all [show ixD (.ref s) (.int 2) S6 = ok (.int (l : Int)) S6 from ixD_ref (i := 2) T6.L.st rfl, hl1, setXG, setXK]
 refine W_setB (i := 2) T6.L.st (by simp) fun S7 b7 l7 r7 => ?_
 have T7 : Two S7 p s ss st' k' ps (xs ++ [.ref st]) w (l + 1) q' (r ++ [(⟨l, row, want, wt⟩, c)]) w (l + 1) := T6.setS r7 b7
 have hl2 : ((l + 1 : Nat) : Int) - 1 = (l : Int) := by omega
 simp_all [show ixD (.ref s) (.int 2) S7 = ok (.int ((l + 1 : Nat) : Int)) S7 from ixD_ref (i := 2) T7.L.st rfl, hl2]
 refine (alike_w (n := 7) (show Al S7 7 (.int (l : Int)) (.int (l : Int)) from .inl ⟨_, rfl, rfl⟩)).mono ?_
 rintro d S8 ⟨rfl, l8⟩
 simp_all []
 refine ⟨trivial, ts ++ [⟨l, row, want, wt⟩], ss, st', k', ps, xs ++ [.ref st], q', _, T7.mono l8, e4, by rw [List.map_append, er]; rfl, by simp; omega, by simp; omega, ow, by have := O.laid; omega, ?_, fun t ht => ?_⟩
 ·rw [List.map_append]
  refine List.nodup_append.mpr ⟨O.nums, by simp, fun a ha b hb => ?_⟩
  obtain ⟨t, ht, rfl⟩ := List.mem_map.mp ha
  have := (O.each t ht).1
  obtain rfl : b = l := by simpa using hb
  omega
 ·rcases List.mem_append.mp ht with ht | ht
  ·obtain ⟨g1, g2⟩ := O.each t ht
   exact ⟨by omega, g2⟩
  ·rw [List.mem_singleton.mp ht]
   exact ⟨Nat.lt_succ_self _, hl, hx2, hwant, hwt, hpos⟩
end
theorem k51_holds (ns : List Int) (hs : Scr ns) : W (F.k51_law [.scr (ns.map D.int)] []) fun d _ => d = .bl true := by
 unfold F.k51_law
 refine W_fnF rfl ?_
 rw [W_outF]
 unfold Den.k51_law
 obtain ⟨c, _, ec⟩ := cell_at_scr ns 0 []
 have ec : F.k11_cell_at [.scr (ns.map D.int), .int 0] [] = ok (.int c) [] := ec
 refine W_seq2 (fun δ' S' => S' = [] ∧ ∃ w : Nat, w ≤ 12 ∧ δ' = [some (.scr (ns.map D.int)), some (.int (w : Int)), none, none, none, none, none, none, none]) ?_ ?_
 ·obtain ⟨f1, f2⟩ := fmod_bd c (show (0 : Int) < 13 by decide)
  simp_all [ec, modD_int (show (13 : Int) ≠ 0 by decide)]
  exact ⟨_, rfl, trivial, (c.fmod 13).toNat, by omega, by rw [Int.toNat_of_nonneg f1]⟩
 rintro _ S0 ⟨rfl, w, hw, rfl⟩
 refine W_seq2 (fun δ' S' => ∃ p ss st k, δ' = [some (.scr (ns.map D.int)), some (.int (w : Int)), some (.ref p), none, none, none, none, none, none] ∧ Pl S' p ss st k [] w 0 []) ?_ ?_
 ·simp_all [mkE]
  refine (plane_mk hw []).mono ?_
  rintro d S1 ⟨ss, st, k, rfl, _, P, _⟩
  exact ⟨_, rfl, _, ss, st, k, rfl, P⟩
 rintro _ S1 ⟨p, ss, st, k, rfl, P⟩
 refine W_seq2 (fun δ' S' => ∃ s, δ' = [some (.scr (ns.map D.int)), some (.int (w : Int)), some (.ref p), some (.ref s), none, none, none, none, none] ∧ Bo S' p s 1 w 0 []) ?_ ?_
 ·simp_all []
  refine (fresh_w P hw).mono ?_
  rintro d S2 ⟨s, rfl, B⟩
  exact ⟨_, rfl, s, rfl, B⟩
 rintro _ S2 ⟨s, rfl, B⟩
 refine W_seq2 (fun δ' S' => ∃ o4 o5 o6 o7 o8, δ' = [some (.scr (ns.map D.int)), some (.int (w : Int)), some (.ref p), some (.ref s), o4, o5, o6, o7, o8] ∧ ∃ n w l ts, n ≤ 800 ∧ Bo S' p s n w l ts) ?_ ?_
 ·have hb : ∃ b : Nat, b ≤ 61 ∧ b ≤ ns.length ∧ minD [.int 61, .int ((ns.map D.int).length : Int)] S2 = ok (.int (b : Int)) S2 := by
   by_cases h : ns.length < 61
   ·refine ⟨ns.length, by omega, Nat.le_refl _, ?_⟩
    show ok (D.int (if ((ns.map D.int).length : Int) < 61 then _ else _)) S2 = _
    rw [if_pos (by rw [List.length_map]; omega), List.length_map]
   ·refine ⟨61, Nat.le_refl _, by omega, ?_⟩
    show ok (D.int (if ((ns.map D.int).length : Int) < 61 then _ else _)) S2 = _
    rw [if_neg (by rw [List.length_map]; omega)]
    rfl
  obtain ⟨b, hb1, hb2, hb3⟩ := hb
  have hrng : rng2D [.int 1, .int (b : Int)] S2 = ok (.fix ((List.range' 1 (b - 1)).map fun i => D.int (i : Nat))) S2 := rng2D_nat (p := 1) (by decide) (by omega) S2
  unfold forS
  rw [W_bnd]
  refine W.intro (a := Src.fix ((List.range' 1 (b - 1)).map fun i => D.int (i : Nat))) (S := S2) ?_ ?_
  ·unfold itA
   refine Eq.trans ?_ hrng
   simp only [yF, aConsK, aNil, consK, fnE, cst, vr, List.getElem?_cons_zero, List.getElem?_cons_succ, bnd_ok, lenD_scr, hb3]
  refine W_forK _ (fun i δ S' => i ≤ 61 ∧ (∃ o4 o5 o6 o7 o8, δ = [some (.scr (ns.map D.int)), some (.int (w : Int)), some (.ref p), some (.ref s), o4, o5, o6, o7, o8]) ∧ ∃ w l ts, Bo S' p s (i + 1) w l ts) (Nat.le_refl _) ⟨by omega, ⟨_, _, _, _, _, rfl⟩, w, 0, [], B⟩ (fun i δ S' _ => rfl) ?_ ?_
  ·rintro i x δ S3 hx ⟨_, ⟨o4, o5, o6, o7, o8, rfl⟩, w1, l1, ts, B1⟩
   obtain ⟨rfl, hi⟩ := rp_get hx
   refine W.intro (a := [some (.scr (ns.map D.int)), some (.int (w : Int)), some (.ref p), some (.ref s), some (.int ((1 + i : Nat) : Int)), o5, o6, o7, o8]) (S := S3) rfl ?_
   have hk : (ns.map D.int)[1 + i]? = some (.int (ns[1 + i]'(by omega))) := by simp [show 1 + i < ns.length by omega]
   obtain ⟨m, m0, em⟩ := mixed_eq (k := ((1 + i : Nat) : Int)) (by omega) (by omega) (ns[1 + i]'(by omega)) S3
   obtain ⟨f1, f2⟩ := fmod_bd m (show (0 : Int) < 3 by decide)
   have fd : m.fdiv 3 = m / 3 := Int.fdiv_eq_ediv_of_nonneg _ (by decide)
   have hn0 : 0 ≤ m.fdiv 3 := by omega
   refine W_seq2 (fun δ' S' => S' = S3 ∧ δ' = [some (.scr (ns.map D.int)), some (.int (w : Int)), some (.ref p), some (.ref s), some (.int ((1 + i : Nat) : Int)), some (.int (m.fdiv 3)), some (.int (m.fmod 3)), o7, o8]) ?_ ?_
   ·simp_all [ixD_scr hk, em, dvm_eq (show (3 : Int) ≠ 0 by decide), tupG2]
    exact ⟨_, rfl, trivial, rfl⟩
   rintro _ S3' ⟨rfl, rfl⟩
   refine W_seq2 (fun δ' S' => δ' = [some (.scr (ns.map D.int)), some (.int (w : Int)), some (.ref p), some (.ref s), some (.int ((1 + i : Nat) : Int)), some (.int (m.fdiv 3)), some (.int (m.fmod 3)), o7, o8] ∧ ∃ w l ts, Bo S' p s (i + 1 + 1) w l ts) ?_ ?_
   ·have B1' := B1
    obtain ⟨ss1, st1, k1, ps1, xs1, q1, r1, T1, eq1, er1, hx1, O1⟩ := B1'
    have s1 := ixD_at1 T1.L.st rfl
    have lr : r1.length = ts.length := by rw [← er1]; simp
    have tk : ts ≠ [] → W (F.k52_taken [.ref p, .ref s, .int (m.fdiv 3)] S3') fun d S' => ∃ ts', Bo S' p s (i + 1 + 1) w1 l1 ts' := fun h => taken_w B1 (by omega) h
    have ld : ∀ lean, W (F.k51_laid [.ref p, .ref s, .int (m.fdiv 3), .bl lean] S3') fun d S' => d = .bl true ∧ ∃ ts', Bo S' p s (i + 1 + 1) w1 (l1 + 1) ts' := fun lean => laid51_w B1 (by omega) hn0 lean
    by_cases c3 : ((r1.map ptD).length : Int) = 40
    ·have c2 : (0 : Int) < ((r1.map ptD).length : Int) := by omega
     have ne : ts ≠ [] := fun z => by rw [List.length_map, lr, z] at c2; simp at c2
     by_cases c1 : m.fmod 3 = 0
     ·simp_all [c1, s1, lenD_ref T1.L.pt.1, c2]
      refine (tk ne).mono ?_
      rintro d S' ⟨ts', B⟩
      exact ⟨_, rfl, rfl, w1, l1, ts', B⟩
     ·simp_all [c1, s1, lenD_ref T1.L.pt.1, c3]
      refine (tk ne).mono ?_
      rintro d S' ⟨ts', B⟩
      exact ⟨_, rfl, rfl, w1, l1, ts', B⟩
    ·by_cases c1 : m.fmod 3 = 0
     ·by_cases c2 : (0 : Int) < ((r1.map ptD).length : Int)
      ·have ne : ts ≠ [] := fun z => by rw [List.length_map, lr, z] at c2; simp at c2
       simp_all [c1, s1, lenD_ref T1.L.pt.1, c2]
       refine (tk ne).mono ?_
       rintro d S' ⟨ts', B⟩
       exact ⟨_, rfl, rfl, w1, l1, ts', B⟩
      ·simp_all [c1, s1, lenD_ref T1.L.pt.1, c2, c3]
       refine (ld _).mono ?_
       rintro d S' ⟨rfl, ts', B⟩
       simp_all []
       exact ⟨_, rfl, rfl, w1, _, ts', B⟩
     ·simp_all [c1, s1, lenD_ref T1.L.pt.1, c3]
      refine (ld _).mono ?_
      rintro d S' ⟨rfl, ts', B⟩
      simp_all []
      exact ⟨_, rfl, rfl, w1, _, ts', B⟩
   rintro _ S4 ⟨rfl, w2, l2, ts2, B2⟩
   have B2' := B2
   obtain ⟨ss2, st2, k2, ps2, xs2, q2, r2, T2, eq2, er2, hx2, O2⟩ := B2'
   have lq2 : q2.length = ts2.length := by rw [← eq2]; simp
   have ol2 := O2.len
   have ow2 := O2.wide
   refine W_seq2 (fun δ' S' => ∃ c q', δ' = [some (.scr (ns.map D.int)), some (.int (w : Int)), some (.ref p), some (.ref s), some (.int ((1 + i : Nat) : Int)), some (.int (m.fdiv 3)), some (.int (m.fmod 3)), some (.ref c), o8] ∧ SLe S4 S' ∧ PtsA S' c q' ∧ q'.map (·.1) = ts2 ∧ S4.length ≤ c ∧ ∀ x ∈ q', S4.length ≤ x.2) ?_ ?_
   ·simp_all [methE, T2.P.meth (m := "points") rfl, methA]
    refine (points_w T2.P (by omega)).mono ?_
    rintro d S5 ⟨c, q', rfl, l5, hc, hq', n1, n2⟩
    exact ⟨_, rfl, c, q', rfl, l5, hc, by rw [hq', eq2], n1, n2⟩
   rintro _ S5 ⟨c, q', rfl, l5, hc, hq', n1, n2⟩
   have T5 := T2.mono l5
   have lq' : q'.length = ts2.length := by rw [← hq']; simp
   have hrow : ∀ x ∈ q', x.1.row.length ≤ 12 := fun x hx => by
    have : x.1 ∈ ts2 := by rw [← hq']; exact List.mem_map.mpr ⟨x, hx, rfl⟩
    have := (O2.each _ this).2.1
    omega
   refine W_seq2 (fun δ' S' => δ' = [some (.scr (ns.map D.int)), some (.int (w : Int)), some (.ref p), some (.ref s), some (.int ((1 + i : Nat) : Int)), some (.int (m.fdiv 3)), some (.int (m.fmod 3)), some (.ref c), o8] ∧ SLe S5 S') ?_ ?_
   ·simp_all [ixD_at1 T5.L.st rfl]
    refine (alike_w (n := 7) (show Al S5 7 (.ref c) (.ref ps2) from .inr (.inr ⟨c, ps2, _, _, rfl, rfl, hc.1, T5.L.pt.1, ?_, al2_pts (by rw [hq', er2]) (fun x hx => ⟨hc.2 x hx, ?_⟩) T5.L.pt.2⟩))).mono ?_
    ·simp; omega
    ·have := hrow x hx
     omega
    ·rintro d S6 ⟨rfl, l6⟩
     simp_all []
     exact ⟨_, rfl, rfl, l6⟩
   rintro _ S6 ⟨rfl, l6⟩
   have hc6 := hc.mono l6
   have L6 := l5.trans l6
   refine W_seq2 (fun δ' S' => (∃ o8, δ' = [some (.scr (ns.map D.int)), some (.int (w : Int)), some (.ref p), some (.ref s), some (.int ((1 + i : Nat) : Int)), some (.int (m.fdiv 3)), some (.int (m.fmod 3)), some (.ref c), o8]) ∧ SLe S4 S' ∧ zH S' c = some (q'.map ptD)) ?_ ?_
   ·simp_all [itL_ref hc6.1]
    refine W_forK (q'.map ptD) (fun j δ S' => (∃ o8, δ = [some (.scr (ns.map D.int)), some (.int (w : Int)), some (.ref p), some (.ref s), some (.int ((1 + i : Nat) : Int)), some (.int (m.fdiv 3)), some (.int (m.fmod 3)), some (.ref c), o8]) ∧ SLe S4 S' ∧ zH S' c = some (q'.map ptD) ∧ ∀ x ∈ q', ∃ zs : List Rat, RowA S' x.2 zs ∧ zs.length ≤ 12 + j) (by rw [len_one hc6.1]; exact Nat.le_refl _) ⟨⟨_, rfl⟩, L6, hc6.1, fun x hx => ⟨x.1.row, hc6.2 x hx, hrow x hx⟩⟩ (fun j δ S' h => get_one h.2.2.1 j) ?_ ?_
    ·rintro j x δ S7 hx ⟨⟨o8', rfl⟩, L7, h7, hr7⟩
     obtain ⟨y, hy, rfl⟩ := map_ptD hx
     have hym := List.mem_of_getElem? hy
     have hj : j < q'.length := (List.getElem?_eq_some_iff.mp hy).1
     obtain ⟨zs, rz, hz⟩ := hr7 y hym
     have yc : y.2 ≠ c := (lst_ne h7 rz (pts_ne_rats fun z => by rw [z] at hym; cases hym)).symm
     unfold ptD
     simp_all [tix4_1, opMK_ref rz, tup2]
     refine W_appB rz (by simp; omega) fun S8 b8 l8 r8 => ?_
     refine ⟨⟨_, rfl⟩, ?_, b8.lst (Ne.symm yc) h7, fun x hx => ?_⟩
     ·obtain ⟨X, rfl⟩ := L7
      refine ⟨S8.drop S4.length, ?_⟩
      apply List.ext_getElem?
      intro t
      by_cases ht : t < S4.length
      ·rw [List.getElem?_append_left ht, b8.2 t (by simp; omega) (by have := n2 y hym; omega), List.getElem?_append_left ht]
      ·rw [List.getElem?_append_right (by omega), List.getElem?_drop]
       congr 1
       omega
     ·obtain ⟨us, ru, hu⟩ := hr7 x hx
      by_cases e : x.2 = y.2
      ·refine ⟨zs ++ [1], ?_, by simp; omega⟩
       rw [e]
       show zH _ _ = _
       rw [r8]
       simp
      ·exact ⟨us, b8.lst e ru, by omega⟩
    ·rintro δ S7 ⟨⟨o8', rfl⟩, L7, h7, _⟩
     exact ⟨_, rfl, ⟨_, rfl⟩, L7, h7⟩
   rintro _ S7 ⟨⟨o8', rfl⟩, L7, h7⟩
   simp_all [clearD_ref h7]
   exact ⟨by omega, ⟨_, _, _, _, _, rfl⟩, w2, l2, ts2, B2.mono (L7.set n1 _)⟩
  ·rintro δ S3 ⟨hi, ⟨o4, o5, o6, o7, o8, rfl⟩, w3, l3, ts3, B3⟩
   exact ⟨_, rfl, _, _, _, _, _, rfl, _, w3, l3, ts3, by simp; omega, B3⟩
 rintro _ S3 ⟨o4, o5, o6, o7, o8, rfl, n, w3, l3, ts3, hn, B3⟩
 simp_all []
 refine (stands_w B3 (by omega)).mono ?_
 rintro d S4 ⟨rfl, _⟩
 simp_all []
end Nm
end
section
namespace Tm
open PySem PySem.Spec PyProof.Rows L2 Np
def top (i : Nat) : Stmt := PySem.Challenge.pw_nearplane_k51_laid_and_taken.main.body.getD i (.Pass ⟨0, 0, 0, 0⟩)
def clsBody (s : Stmt) : List Stmt := match s with
 | .ClassDef _ _ _ b _ _ _ _ _ _ _ => b
 | _ => []
abbrev s_is_whole : Stmt := top 8
theorem sc_is_whole : zN ["thing"] ["thing"] (zC s_is_whole) := ⟨rfl, rfl, rfl, by decide +kernel, rfl, by decide +kernel, by decide +kernel⟩
abbrev s_greatest_common : Stmt := top 10
theorem sc_greatest_common : zN ["one", "other", "larger", "smaller", "rest"] ["one", "other"] (zC s_greatest_common) := ⟨rfl, rfl, rfl, by decide +kernel, rfl, by decide +kernel, by decide +kernel⟩
abbrev s_is_ratio : Stmt := top 9
theorem sc_is_ratio : zN ["thing"] ["thing"] (zC s_is_ratio) := ⟨rfl, rfl, rfl, by decide +kernel, rfl, by decide +kernel, by decide +kernel⟩
abbrev s_less : Stmt := top 11
theorem sc_less : zN ["one", "other"] ["one", "other"] (zC s_less) := ⟨rfl, rfl, rfl, by decide +kernel, rfl, by decide +kernel, by decide +kernel⟩
abbrev s_is_row : Stmt := top 13
theorem sc_is_row : zN ["thing", "long"] ["thing", "long"] (zC s_is_row) := ⟨rfl, rfl, rfl, by decide +kernel, rfl, by decide +kernel, by decide +kernel⟩
abbrev s_is_wide : Stmt := top 16
theorem sc_is_wide : zN ["thing"] ["thing"] (zC s_is_wide) := ⟨rfl, rfl, rfl, by decide +kernel, rfl, by decide +kernel, by decide +kernel⟩
abbrev s_is_weight : Stmt := top 18
theorem sc_is_weight : zN ["thing"] ["thing"] (zC s_is_weight) := ⟨rfl, rfl, rfl, by decide +kernel, rfl, by decide +kernel, by decide +kernel⟩
abbrev s_is_point : Stmt := top 17
theorem sc_is_point : zN ["thing", "wide"] ["thing", "wide"] (zC s_is_point) := ⟨rfl, rfl, rfl, by decide +kernel, rfl, by decide +kernel, by decide +kernel⟩
abbrev s_State___init__ : Stmt := (clsBody (top 20)).getD 0 (.Pass ⟨0, 0, 0, 0⟩)
theorem sc_State___init__ : zN ["self", "wide", "laid", "kept"] ["self", "wide", "laid", "kept"] (zC s_State___init__) := ⟨rfl, rfl, rfl, by decide +kernel, rfl, by decide +kernel, by decide +kernel⟩
abbrev s_Plane___init__ : Stmt := (clsBody (top 21)).getD 0 (.Pass ⟨0, 0, 0, 0⟩)
theorem sc_Plane___init__ : zN ["self", "wide"] ["self", "wide"] (zC s_Plane___init__) := ⟨rfl, rfl, rfl, by decide +kernel, rfl, by decide +kernel, by decide +kernel⟩
abbrev s_Plane_lay : Stmt := (clsBody (top 21)).getD 1 (.Pass ⟨0, 0, 0, 0⟩)
theorem sc_Plane_lay : zN ["self", "row", "want", "weight", "state", "number", "heavy", "point"] ["self", "row", "want", "weight"] (zC s_Plane_lay) := ⟨rfl, rfl, rfl, by decide +kernel, rfl, by decide +kernel, by decide +kernel⟩
abbrev s_Plane_take : Stmt := (clsBody (top 21)).getD 2 (.Pass ⟨0, 0, 0, 0⟩)
theorem sc_Plane_take : zN ["self", "number", "state", "kept"] ["self", "number"] (zC s_Plane_take) := ⟨rfl, rfl, rfl, by decide +kernel, rfl, by decide +kernel, by decide +kernel⟩
abbrev s_with_row : Stmt := top 22
theorem sc_with_row : zN ["point", "row"] ["point", "row"] (zC s_with_row) := ⟨rfl, rfl, rfl, by decide +kernel, rfl, by decide +kernel, by decide +kernel⟩
abbrev s_Plane_points : Stmt := (clsBody (top 21)).getD 5 (.Pass ⟨0, 0, 0, 0⟩)
theorem sc_Plane_points : zN ["self"] ["self"] (zC s_Plane_points) := ⟨rfl, rfl, rfl, by decide +kernel, rfl, by decide +kernel, by decide +kernel⟩
abbrev s_Plane_width : Stmt := (clsBody (top 21)).getD 6 (.Pass ⟨0, 0, 0, 0⟩)
theorem sc_Plane_width : zN ["self"] ["self"] (zC s_Plane_width) := ⟨rfl, rfl, rfl, by decide +kernel, rfl, by decide +kernel, by decide +kernel⟩
abbrev s__law_cell : Stmt := top 24
theorem sc__law_cell : zN ["_law_script", "_law_k"] ["_law_script", "_law_k"] (zC s__law_cell) := ⟨rfl, rfl, rfl, by decide +kernel, rfl, by decide +kernel, by decide +kernel⟩
abbrev s__law_mixed : Stmt := top 25
theorem sc__law_mixed : zN ["_law_cell_here", "_law_k", "_law_number", "_law_found", "_law_turn"] ["_law_cell_here", "_law_k"] (zC s__law_mixed) := ⟨rfl, rfl, rfl, by decide +kernel, rfl, by decide +kernel, by decide +kernel⟩
abbrev s__law_lowest : Stmt := top 26
theorem sc__law_lowest : zN ["_law_top", "_law_bottom", "_law_one", "_law_other"] ["_law_top", "_law_bottom"] (zC s__law_lowest) := ⟨rfl, rfl, rfl, by decide +kernel, rfl, by decide +kernel, by decide +kernel⟩
abbrev s__law_plus : Stmt := top 27
theorem sc__law_plus : zN ["_law_one", "_law_other"] ["_law_one", "_law_other"] (zC s__law_plus) := ⟨rfl, rfl, rfl, by decide +kernel, rfl, by decide +kernel, by decide +kernel⟩
abbrev s__law_ratio : Stmt := top 28
theorem sc__law_ratio : zN ["_law_number", "_law_far", "_law_kind"] ["_law_number"] (zC s__law_ratio) := ⟨rfl, rfl, rfl, by decide +kernel, rfl, by decide +kernel, by decide +kernel⟩
abbrev s__law_row : Stmt := top 29
theorem sc__law_row : zN ["_law_number", "_law_wide", "_law_row_here", "_law_k"] ["_law_number", "_law_wide"] (zC s__law_row) := ⟨rfl, rfl, rfl, by decide +kernel, rfl, by decide +kernel, by decide +kernel⟩
abbrev s__law_point : Stmt := top 30
theorem sc__law_point : zN ["_law_number", "_law_wide", "_law_lean", "_law_want", "_law_weight", "_law_row_here"] ["_law_number", "_law_wide", "_law_lean"] (zC s__law_point) := ⟨rfl, rfl, rfl, by decide +kernel, rfl, by decide +kernel, by decide +kernel⟩
abbrev s__law_fresh : Stmt := top 31
theorem sc__law_fresh : zN ["_law_wide"] ["_law_wide"] (zC s__law_fresh) := ⟨rfl, rfl, rfl, by decide +kernel, rfl, by decide +kernel, by decide +kernel⟩
abbrev s__law_alike : Stmt := top 32
theorem sc__law_alike : zN ["_law_found", "_law_due"] ["_law_found", "_law_due"] (zC s__law_alike) := ⟨rfl, rfl, rfl, by decide +kernel, rfl, by decide +kernel, by decide +kernel⟩
abbrev s__law_stands : Stmt := top 33
theorem sc__law_stands : zN ["_law_plane", "_law_state"] ["_law_plane", "_law_state"] (zC s__law_stands) := ⟨rfl, rfl, rfl, by decide +kernel, rfl, by decide +kernel, by decide +kernel⟩
abbrev s__law_laid : Stmt := top 34
theorem sc__law_laid : zN ["_law_plane", "_law_state", "_law_number", "_law_lean", "_law_row_here", "_law_want", "_law_weight", "_law_handed", "_law_told"] ["_law_plane", "_law_state", "_law_number", "_law_lean"] (zC s__law_laid) := ⟨rfl, rfl, rfl, by decide +kernel, rfl, by decide +kernel, by decide +kernel⟩
abbrev s__law_taken : Stmt := top 35
theorem sc__law_taken : zN ["_law_plane", "_law_state", "_law_number", "_law_at"] ["_law_plane", "_law_state", "_law_number"] (zC s__law_taken) := ⟨rfl, rfl, rfl, by decide +kernel, rfl, by decide +kernel, by decide +kernel⟩
abbrev s_law : Stmt := top 36
theorem sc_law : zN ["_law_script", "_law_wide", "_law_plane", "_law_state", "_law_k", "_law_number", "_law_way", "_law_told", "_law_point_here"] ["_law_script"] (zC s_law) := ⟨rfl, rfl, rfl, by decide +kernel, rfl, by decide +kernel, by decide +kernel⟩
section
variable {P : Program} {w : World} {K : PySem.W.Frag} {mg : Str → Option Value} {base : Heap}
theorem ok_is_whole (ht : P.given.tree = none) {f : Addr} {fd : FuncData} (fF : FunG K "is_whole" "is_whole" s_is_whole f fd) (m_bool : mg "bool" = none) (m_int : mg "int" = none) (m_isinstance : mg "isinstance" = none) :
  FnOk P w K mg base CX0 1 f fd ["thing"] (spF ⟨K, mg⟩ F.k02_whole) :=
 fn_N 1 1 Den.k02_whole rfl fF sc_is_whole rfl rfl fun cdv A outer s H hr =>
  (zJ (zP (pd_andV (pd_isi .int (by decide +kernel) rfl m_isinstance rfl m_int (zA 0)) (pd_oneV (pd_notV (pd_isi .bool (by decide +kernel) rfl m_isinstance rfl m_bool (zA 0)))))))
theorem ok_greatest_common (ht : P.given.tree = none) {f : Addr} {fd : FuncData} (fF : FunG K "greatest_common" "greatest_common" s_greatest_common f fd) :
  FnOk P w K mg base CX0 1 f fd ["one", "other"] (spF ⟨K, mg⟩ F.greatest_common) :=
 fn_N 5 2 Den.greatest_common rfl fF sc_greatest_common rfl rfl fun cdv A outer s H hr =>
  (zD (zS 2 sc_greatest_common.nd (zA 0)) (zD (zS 3 sc_greatest_common.nd (zA 1)) (zD (pd_while PassesOwn.never (zY (op_neX hr) od_ne (zA 3) zF (zZ _)) (zD (zS 4 sc_greatest_common.nd (pd_op op_modN od_mod (zA 2) (zA 3))) (zD (zS 2 sc_greatest_common.nd (zA 3)) (zJ (zS 3 sc_greatest_common.nd (zA 4)))))) (zJ (zP (zA 2))))))
theorem ok_is_ratio (ht : P.given.tree = none) {f : Addr} {fd : FuncData} (fF : FunG K "is_ratio" "is_ratio" s_is_ratio f fd) {f_is_whole : Addr} {d_is_whole : FuncData} (O_is_whole : FnOk P w K mg base CX0 1 f_is_whole d_is_whole ["thing"] (spF ⟨K, mg⟩ F.k02_whole)) (b_is_whole : zV K d_is_whole ["thing"] []) (k_is_whole : PySem.W.keepIn K (.ref f_is_whole) = true) (m_is_whole : mg "is_whole" = some (.ref f_is_whole)) {f_greatest_common : Addr} {d_greatest_common : FuncData} (O_greatest_common : FnOk P w K mg base CX0 1 f_greatest_common d_greatest_common ["one", "other"] (spF ⟨K, mg⟩ F.greatest_common)) (b_greatest_common : zV K d_greatest_common ["one", "other"] []) (k_greatest_common : PySem.W.keepIn K (.ref f_greatest_common) = true) (m_greatest_common : mg "greatest_common" = some (.ref f_greatest_common)) (m_abs : mg "abs" = none) (m_isinstance : mg "isinstance" = none) (m_len : mg "len" = none) (m_tuple : mg "tuple" = none) :
  FnOk P w K mg base CX0 2 f fd ["thing"] (spF ⟨K, mg⟩ F.is_ratio) :=
 fn_N 1 1 Den.is_ratio rfl fF sc_is_ratio rfl rfl fun cdv A outer s H hr =>
  (zD (pd_if (pd_wt (pd_or (pd_not (pt_valD (pd_isi .tup (by decide +kernel) rfl m_isinstance rfl m_tuple (zA 0)))) (pd_or1 (zY (op_neX hr) od_ne (yA call_lenX cd_len rfl m_len (by decide +kernel) (zB (zA 0) zE)) zF (zZ _))))) (zJ (zP pd_bl)) pds_nil) (zD (pd_if (pd_wt (pd_or (pd_not (pt_valD (pd_fn (O_is_whole.mono (by decide)) hr rfl m_is_whole k_is_whole b_is_whole zT (zB (pd_ix ix_X zU (zA 0) zF (fun _ _ => rfl)) zE)))) (pd_or1 (pd_not (pt_valD (pd_fn (O_is_whole.mono (by decide)) hr rfl m_is_whole k_is_whole b_is_whole zT (zB (pd_ix ix_X zU (zA 0) zF (fun _ _ => rfl)) zE))))))) (zJ (zP pd_bl)) pds_nil) (zJ (zP (pd_andV (pd_cmp op_ge od_ge (pd_ix ix_X zU (zA 0) zF (fun _ _ => rfl)) zF (zZ _)) (pd_oneV (pd_cmp (op_eqX hr) od_eq (pd_fn (O_greatest_common.mono (by decide)) hr rfl m_greatest_common k_greatest_common b_greatest_common zT (zB (yA call_abs cd_abs rfl m_abs (by decide +kernel) (zB (pd_ix ix_X zU (zA 0) zF (fun _ _ => rfl)) zE)) (zB (pd_ix ix_X zU (zA 0) zF (fun _ _ => rfl)) zE))) zF (zZ _))))))))
theorem ok_less (ht : P.given.tree = none) {f : Addr} {fd : FuncData} (fF : FunG K "less" "less" s_less f fd) :
  FnOk P w K mg base CX0 1 f fd ["one", "other"] (spF ⟨K, mg⟩ F.less) :=
 fn_N 2 2 Den.less rfl fF sc_less rfl rfl fun cdv A outer s H hr =>
  (zJ (zP (pd_cmp op_lt od_lt (pd_op op_mulX od_mul (pd_ix ix_X zU (zA 0) zF (fun _ _ => rfl)) (pd_ix ix_X zU (zA 1) zF (fun _ _ => rfl))) (pd_op op_mulX od_mul (pd_ix ix_X zU (zA 1) zF (fun _ _ => rfl)) (pd_ix ix_X zU (zA 0) zF (fun _ _ => rfl))) (zZ _))))
theorem ok_is_row (ht : P.given.tree = none) {f : Addr} {fd : FuncData} (fF : FunG K "is_row" "is_row" s_is_row f fd) {f_is_ratio : Addr} {d_is_ratio : FuncData} (O_is_ratio : FnOk P w K mg base CX0 2 f_is_ratio d_is_ratio ["thing"] (spF ⟨K, mg⟩ F.is_ratio)) (b_is_ratio : zV K d_is_ratio ["thing"] []) (k_is_ratio : PySem.W.keepIn K (.ref f_is_ratio) = true) (m_is_ratio : mg "is_ratio" = some (.ref f_is_ratio)) (m_all : mg "all" = none) (m_isinstance : mg "isinstance" = none) (m_len : mg "len" = none) (m_list : mg "list" = none) :
  FnOk P w K mg base CX0 3 f fd ["thing", "long"] (spF ⟨K, mg⟩ F.is_row) :=
 fn_N 2 2 Den.is_row rfl fF sc_is_row rfl rfl fun cdv A outer s H hr =>
  (zD (pd_if (pd_wt (pd_or (pd_not (pt_valD (pd_isi .lst (by decide +kernel) rfl m_isinstance rfl m_list (zA 0)))) (pd_or1 (zY (op_neX hr) od_ne (yA call_lenX cd_len rfl m_len (by decide +kernel) (zB (zA 0) zE)) (zA 1) (zZ _))))) (zJ (zP pd_bl)) pds_nil) (zJ (zP (yA (call_allX rfl) cd_all rfl m_all (by decide +kernel) (zB (pd_comp (N' := ["thing", "long", "one"]) 1 (CompOk.mk (N := ["thing", "long"]) (fsc := zC s_is_row) (N' := ["thing", "long", "one"]) rfl (by decide +kernel) (by decide +kernel) (by decide +kernel) (by decide +kernel) (by decide) (by decide +kernel)) rfl (pdi_list (zA 0)) (fun _ _ _ _ _ => (zL 2 (show List.Nodup (["thing", "long", "one"] : List Str) by decide +kernel))) (fun _ _ _ _ _ => (pd_fn (O_is_ratio.mono (by decide)) hr rfl m_is_ratio k_is_ratio b_is_ratio zT (zB (zA 2) zE)))) zE)))))
theorem ok_is_wide (ht : P.given.tree = none) {f : Addr} {fd : FuncData} (fF : FunG K "is_wide" "is_wide" s_is_wide f fd) {f_is_whole : Addr} {d_is_whole : FuncData} (O_is_whole : FnOk P w K mg base CX0 1 f_is_whole d_is_whole ["thing"] (spF ⟨K, mg⟩ F.k02_whole)) (b_is_whole : zV K d_is_whole ["thing"] []) (k_is_whole : PySem.W.keepIn K (.ref f_is_whole) = true) (m_is_whole : mg "is_whole" = some (.ref f_is_whole)) (hC_MOST_COLUMNS : CstAt K mg "MOST_COLUMNS" (.int 12)) :
  FnOk P w K mg base CX0 2 f fd ["thing"] (spF ⟨K, mg⟩ F.is_wide) :=
 fn_N 1 1 Den.is_wide rfl fF sc_is_wide rfl rfl fun cdv A outer s H hr =>
  (zJ (zP (pd_andV (pd_fn (O_is_whole.mono (by decide)) hr rfl m_is_whole k_is_whole b_is_whole zT (zB (zA 0) zE)) (pd_oneV (pd_chain op_le od_le op_le od_le zF (zA 0) (pd_C rfl hC_MOST_COLUMNS))))))
theorem ok_is_weight (ht : P.given.tree = none) {f : Addr} {fd : FuncData} (fF : FunG K "is_weight" "is_weight" s_is_weight f fd) {f_is_ratio : Addr} {d_is_ratio : FuncData} (O_is_ratio : FnOk P w K mg base CX0 2 f_is_ratio d_is_ratio ["thing"] (spF ⟨K, mg⟩ F.is_ratio)) (b_is_ratio : zV K d_is_ratio ["thing"] []) (k_is_ratio : PySem.W.keepIn K (.ref f_is_ratio) = true) (m_is_ratio : mg "is_ratio" = some (.ref f_is_ratio)) {f_less : Addr} {d_less : FuncData} (O_less : FnOk P w K mg base CX0 1 f_less d_less ["one", "other"] (spF ⟨K, mg⟩ F.less)) (b_less : zV K d_less ["one", "other"] []) (k_less : PySem.W.keepIn K (.ref f_less) = true) (m_less : mg "less" = some (.ref f_less)) (hC_NOUGHT : CstAt K mg "NOUGHT" (.tup [(.int 0), (.int 1)])) :
  FnOk P w K mg base CX0 3 f fd ["thing"] (spF ⟨K, mg⟩ F.is_weight) :=
 fn_N 1 1 Den.is_weight rfl fF sc_is_weight rfl rfl fun cdv A outer s H hr =>
  (zJ (zP (pd_andV (pd_fn (O_is_ratio.mono (by decide)) hr rfl m_is_ratio k_is_ratio b_is_ratio zT (zB (zA 0) zE)) (pd_oneV (pd_fn (O_less.mono (by decide)) hr rfl m_less k_less b_less zT (zB (pd_C rfl hC_NOUGHT) (zB (zA 0) zE)))))))
theorem ok_is_point (ht : P.given.tree = none) {f : Addr} {fd : FuncData} (fF : FunG K "is_point" "is_point" s_is_point f fd) {f_is_row : Addr} {d_is_row : FuncData} (O_is_row : FnOk P w K mg base CX0 3 f_is_row d_is_row ["thing", "long"] (spF ⟨K, mg⟩ F.is_row)) (b_is_row : zV K d_is_row ["thing", "long"] []) (k_is_row : PySem.W.keepIn K (.ref f_is_row) = true) (m_is_row : mg "is_row" = some (.ref f_is_row)) {f_is_ratio : Addr} {d_is_ratio : FuncData} (O_is_ratio : FnOk P w K mg base CX0 2 f_is_ratio d_is_ratio ["thing"] (spF ⟨K, mg⟩ F.is_ratio)) (b_is_ratio : zV K d_is_ratio ["thing"] []) (k_is_ratio : PySem.W.keepIn K (.ref f_is_ratio) = true) (m_is_ratio : mg "is_ratio" = some (.ref f_is_ratio)) {f_is_weight : Addr} {d_is_weight : FuncData} (O_is_weight : FnOk P w K mg base CX0 3 f_is_weight d_is_weight ["thing"] (spF ⟨K, mg⟩ F.is_weight)) (b_is_weight : zV K d_is_weight ["thing"] []) (k_is_weight : PySem.W.keepIn K (.ref f_is_weight) = true) (m_is_weight : mg "is_weight" = some (.ref f_is_weight)) (m_isinstance : mg "isinstance" = none) (m_len : mg "len" = none) (m_tuple : mg "tuple" = none) :
  FnOk P w K mg base CX0 4 f fd ["thing", "wide"] (spF ⟨K, mg⟩ F.is_point) :=
 fn_N 2 2 Den.is_point rfl fF sc_is_point rfl rfl fun cdv A outer s H hr =>
  (zD (pd_if (pd_wt (pd_or (pd_not (pt_valD (pd_isi .tup (by decide +kernel) rfl m_isinstance rfl m_tuple (zA 0)))) (pd_or1 (zY (op_neX hr) od_ne (yA call_lenX cd_len rfl m_len (by decide +kernel) (zB (zA 0) zE)) zF (zZ _))))) (zJ (zP pd_bl)) pds_nil) (zJ (zP (pd_andV (pd_fn (O_is_row.mono (by decide)) hr rfl m_is_row k_is_row b_is_row zT (zB (pd_ix ix_X zU (zA 0) zF (fun _ _ => rfl)) (zB (zA 1) zE))) (pd_andV (pd_fn (O_is_ratio.mono (by decide)) hr rfl m_is_ratio k_is_ratio b_is_ratio zT (zB (pd_ix ix_X zU (zA 0) zF (fun _ _ => rfl)) zE)) (pd_oneV (pd_fn (O_is_weight.mono (by decide)) hr rfl m_is_weight k_is_weight b_is_weight zT (zB (pd_ix ix_X zU (zA 0) zF (fun _ _ => rfl)) zE))))))))
theorem ok_State___init__ (ht : P.given.tree = none) {f : Addr} {fd : FuncData} (fF : FunG K "__init__" "State.__init__" s_State___init__ f fd) {C_State : Addr} (mC_State : mg "State" = some (.ref C_State)) (cl_State : Cls K C_State) (na_State_kept : NoAttr K C_State "kept") (na_State_laid : NoAttr K C_State "laid") (na_State_wide : NoAttr K C_State "wide") :
  FnOk P w K mg base CX0 1 f fd ["self", "wide", "laid", "kept"] (spF ⟨K, mg⟩ F.State___init__) :=
 fn_N 4 4 Den.State___init__ rfl fF sc_State___init__ rfl rfl fun cdv A outer s H hr =>
  (zD (pd_setf cl_State na_State_wide mC_State (zA 0) (zA 1)) (zD (pd_setf cl_State na_State_laid mC_State (zA 0) (zA 2)) (zJ (pd_setf cl_State na_State_kept mC_State (zA 0) (zA 3)))))
theorem ok_Plane___init__ (ht : P.given.tree = none) {f : Addr} {fd : FuncData} (fF : FunG K "__init__" "Plane.__init__" s_Plane___init__ f fd) {f_is_wide : Addr} {d_is_wide : FuncData} (O_is_wide : FnOk P w K mg base CX0 2 f_is_wide d_is_wide ["thing"] (spF ⟨K, mg⟩ F.is_wide)) (b_is_wide : zV K d_is_wide ["thing"] []) (k_is_wide : PySem.W.keepIn K (.ref f_is_wide) = true) (m_is_wide : mg "is_wide" = some (.ref f_is_wide)) {f_State___init__ : Addr} {d_State___init__ : FuncData} (O_State___init__ : FnOk P w K mg base CX0 1 f_State___init__ d_State___init__ ["self", "wide", "laid", "kept"] (spF ⟨K, mg⟩ F.State___init__)) (b_State___init__ : zV K d_State___init__ ["self", "wide", "laid", "kept"] []) {C_Plane : Addr} (mC_Plane : mg "Plane" = some (.ref C_Plane)) {C_State : Addr} (mC_State : mg "State" = some (.ref C_State)) (cl_Plane : Cls K C_Plane) (cl_State : Cls K C_State) (na_Plane_states : NoAttr K C_Plane "states") (mk_State : Mk K C_State f_State___init__) :
  FnOk P w K mg base CX0 3 f fd ["self", "wide"] (spF ⟨K, mg⟩ F.Plane___init__) :=
 fn_N 2 2 Den.Plane___init__ rfl fF sc_Plane___init__ rfl rfl fun cdv A outer s H hr =>
  (zD (pd_if (pd_not (pt_valD (pd_fn (O_is_wide.mono (by decide)) hr rfl m_is_wide k_is_wide b_is_wide zT (zB (zA 1) zE)))) (zJ pd_never) pds_nil) (zJ (pd_setf cl_Plane na_Plane_states mC_Plane (zA 0) (pd_lst (zB (pd_make mk_State mC_State (O_State___init__.mono (by decide)) hr rfl b_State___init__ zT (zB (zA 1) (zB zF (zB (pd_lst zE) zE)))) zE)))))
theorem ok_Plane_lay (ht : P.given.tree = none) {f : Addr} {fd : FuncData} (fF : FunG K "lay" "Plane.lay" s_Plane_lay f fd) {f_is_point : Addr} {d_is_point : FuncData} (O_is_point : FnOk P w K mg base CX0 4 f_is_point d_is_point ["thing", "wide"] (spF ⟨K, mg⟩ F.is_point)) (b_is_point : zV K d_is_point ["thing", "wide"] []) (k_is_point : PySem.W.keepIn K (.ref f_is_point) = true) (m_is_point : mg "is_point" = some (.ref f_is_point)) {f_State___init__ : Addr} {d_State___init__ : FuncData} (O_State___init__ : FnOk P w K mg base CX0 1 f_State___init__ d_State___init__ ["self", "wide", "laid", "kept"] (spF ⟨K, mg⟩ F.State___init__)) (b_State___init__ : zV K d_State___init__ ["self", "wide", "laid", "kept"] []) (m_list : mg "list" = none) (hC_ONE : CstAt K mg "ONE" (.tup [(.int 1), (.int 1)])) {C_Plane : Addr} (mC_Plane : mg "Plane" = some (.ref C_Plane)) {C_State : Addr} (mC_State : mg "State" = some (.ref C_State)) (cl_Plane : Cls K C_Plane) (cl_State : Cls K C_State) (na_Plane_states : NoAttr K C_Plane "states") (na_State_kept : NoAttr K C_State "kept") (na_State_laid : NoAttr K C_State "laid") (na_State_wide : NoAttr K C_State "wide") (mk_State : Mk K C_State f_State___init__) :
  FnOk P w K mg base CX0 5 f fd ["self", "row", "want", "weight"] (spF ⟨K, mg⟩ F.Plane_lay) :=
 fn_N 8 4 Den.Plane_lay rfl fF sc_Plane_lay rfl rfl fun cdv A outer s H hr =>
  (zD (zS 4 sc_Plane_lay.nd (pd_ix ix_X zU (pd_fld cl_Plane na_Plane_states mC_Plane (zA 0)) (pd_un un_neg ud_neg zF) (fun _ _ => rfl))) (zD (zS 5 sc_Plane_lay.nd (pd_fld cl_State na_State_laid mC_State (zA 4))) (zD (zS 6 sc_Plane_lay.nd (pd_ifE (zY op_isN od_isN (zA 3) pd_non (zZ _)) (pd_C rfl hC_ONE) (zA 3))) (zD (pd_if (pd_not (pt_valD (pd_fn (O_is_point.mono (by decide)) hr rfl m_is_point k_is_point b_is_point zT (zB (pd_tup (zB (zA 1) (zB (zA 2) (zB (zA 6) zE)))) (zB (pd_fld cl_State na_State_wide mC_State (zA 4)) zE))))) (zJ pd_never) pds_nil) (zD (zS 7 sc_Plane_lay.nd (pd_tup (zB (zA 5) (zB (pd_callTy call_list_of cd_lof rfl m_list (by decide +kernel) (zB (zA 1) zE)) (zB (zA 2) (zB (zA 6) zE)))))) (zD (pd_expr (pd_append (pd_fld cl_Plane na_Plane_states mC_Plane (zA 0)) (pd_make mk_State mC_State (O_State___init__.mono (by decide)) hr rfl b_State___init__ zT (zB (pd_fld cl_State na_State_wide mC_State (zA 4)) (zB (pd_op op_addX od_add (zA 5) zF) (zB (pd_op op_addX od_add (pd_fld cl_State na_State_kept mC_State (zA 4)) (pd_lst (zB (zA 7) zE))) zE)))))) (zJ (zP (zA 5)))))))))
theorem ok_Plane_take (ht : P.given.tree = none) {f : Addr} {fd : FuncData} (fF : FunG K "take" "Plane.take" s_Plane_take f fd) {f_is_whole : Addr} {d_is_whole : FuncData} (O_is_whole : FnOk P w K mg base CX0 1 f_is_whole d_is_whole ["thing"] (spF ⟨K, mg⟩ F.k02_whole)) (b_is_whole : zV K d_is_whole ["thing"] []) (k_is_whole : PySem.W.keepIn K (.ref f_is_whole) = true) (m_is_whole : mg "is_whole" = some (.ref f_is_whole)) {f_State___init__ : Addr} {d_State___init__ : FuncData} (O_State___init__ : FnOk P w K mg base CX0 1 f_State___init__ d_State___init__ ["self", "wide", "laid", "kept"] (spF ⟨K, mg⟩ F.State___init__)) (b_State___init__ : zV K d_State___init__ ["self", "wide", "laid", "kept"] []) {C_Plane : Addr} (mC_Plane : mg "Plane" = some (.ref C_Plane)) {C_State : Addr} (mC_State : mg "State" = some (.ref C_State)) (cl_Plane : Cls K C_Plane) (cl_State : Cls K C_State) (na_Plane_states : NoAttr K C_Plane "states") (na_State_kept : NoAttr K C_State "kept") (na_State_laid : NoAttr K C_State "laid") (na_State_wide : NoAttr K C_State "wide") (mk_State : Mk K C_State f_State___init__) :
  FnOk P w K mg base CX0 3 f fd ["self", "number"] (spF ⟨K, mg⟩ F.Plane_take) :=
 fn_N 4 2 Den.Plane_take rfl fF sc_Plane_take rfl rfl fun cdv A outer s H hr =>
  (zD (zS 2 sc_Plane_take.nd (pd_ix ix_X zU (pd_fld cl_Plane na_Plane_states mC_Plane (zA 0)) (pd_un un_neg ud_neg zF) (fun _ _ => rfl))) (zD (pd_if (pd_wt (pd_or (pd_not (pt_valD (pd_fn (O_is_whole.mono (by decide)) hr rfl m_is_whole k_is_whole b_is_whole zT (zB (zA 1) zE)))) (pd_or1 (zY (op_notinX hr) od_notin (zA 1) (pd_comp (N' := ["self", "number", "state", "kept", "point"]) 1 (CompOk.mk (N := ["self", "number", "state", "kept"]) (fsc := zC s_Plane_take) (N' := ["self", "number", "state", "kept", "point"]) rfl (by decide +kernel) (by decide +kernel) (by decide +kernel) (by decide +kernel) (by decide) (by decide +kernel)) rfl (pdi_list (pd_fld cl_State na_State_kept mC_State (zA 2))) (fun _ _ _ _ _ => (zL 4 (show List.Nodup (["self", "number", "state", "kept", "point"] : List Str) by decide +kernel))) (fun _ _ _ _ _ => (pd_ix ix_X zU (zA 4) zF (fun _ _ => rfl)))) rfl)))) (zJ pd_never) pds_nil) (zD (pd_setCompI 3 (N' := ["self", "number", "state", "kept", "point"]) 1 (CompOk.mk (N := ["self", "number", "state", "kept"]) (fsc := zC s_Plane_take) (N' := ["self", "number", "state", "kept", "point"]) rfl (by decide +kernel) (by decide +kernel) (by decide +kernel) (by decide +kernel) (by decide) (by decide +kernel)) rfl (pdi_list (pd_fld cl_State na_State_kept mC_State (zA 2))) (fun _ _ _ _ _ => (zL 4 (show List.Nodup (["self", "number", "state", "kept", "point"] : List Str) by decide +kernel))) (fun _ _ _ _ _ => (zY (op_neX hr) od_ne (pd_ix ix_X zU (zA 4) zF (fun _ _ => rfl)) (zA 1) (zZ _))) (fun _ _ _ _ _ => (zA 4)) sc_Plane_take.nd) (zJ (pd_expr (pd_append (pd_fld cl_Plane na_Plane_states mC_Plane (zA 0)) (pd_make mk_State mC_State (O_State___init__.mono (by decide)) hr rfl b_State___init__ zT (zB (pd_fld cl_State na_State_wide mC_State (zA 2)) (zB (pd_fld cl_State na_State_laid mC_State (zA 2)) (zB (zA 3) zE))))))))))
theorem ok_with_row (ht : P.given.tree = none) {f : Addr} {fd : FuncData} (fF : FunG K "with_row" "with_row" s_with_row f fd) :
  FnOk P w K mg base CX0 1 f fd ["point", "row"] (spF ⟨K, mg⟩ F.with_row) :=
 fn_N 2 2 Den.with_row rfl fF sc_with_row rfl rfl fun cdv A outer s H hr =>
  (zJ (zP (pd_tup (zB (pd_ix ix_X zU (zA 0) zF (fun _ _ => rfl)) (zB (zA 1) (zB (pd_ix ix_X zU (zA 0) zF (fun _ _ => rfl)) (zB (pd_ix ix_X zU (zA 0) zF (fun _ _ => rfl)) zE)))))))
theorem ok_Plane_points (ht : P.given.tree = none) {f : Addr} {fd : FuncData} (fF : FunG K "points" "Plane.points" s_Plane_points f fd) {f_with_row : Addr} {d_with_row : FuncData} (O_with_row : FnOk P w K mg base CX0 1 f_with_row d_with_row ["point", "row"] (spF ⟨K, mg⟩ F.with_row)) (b_with_row : zV K d_with_row ["point", "row"] []) (k_with_row : PySem.W.keepIn K (.ref f_with_row) = true) (m_with_row : mg "with_row" = some (.ref f_with_row)) (m_list : mg "list" = none) {C_Plane : Addr} (mC_Plane : mg "Plane" = some (.ref C_Plane)) {C_State : Addr} (mC_State : mg "State" = some (.ref C_State)) (cl_Plane : Cls K C_Plane) (cl_State : Cls K C_State) (na_Plane_states : NoAttr K C_Plane "states") (na_State_kept : NoAttr K C_State "kept") :
  FnOk P w K mg base CX0 2 f fd ["self"] (spF ⟨K, mg⟩ F.Plane_points) :=
 fn_N 1 1 Den.Plane_points rfl fF sc_Plane_points rfl rfl fun cdv A outer s H hr =>
  (zJ (zP (pd_comp (N' := ["self", "point"]) 1 (CompOk.mk (N := ["self"]) (fsc := zC s_Plane_points) (N' := ["self", "point"]) rfl (by decide +kernel) (by decide +kernel) (by decide +kernel) (by decide +kernel) (by decide) (by decide +kernel)) rfl (pdi_list (pd_fld cl_State na_State_kept mC_State (pd_ix ix_X zU (pd_fld cl_Plane na_Plane_states mC_Plane (zA 0)) (pd_un un_neg ud_neg zF) (fun _ _ => rfl)))) (fun _ _ _ _ _ => (zL 1 (show List.Nodup (["self", "point"] : List Str) by decide +kernel))) (fun _ _ _ _ _ => (pd_fn (O_with_row.mono (by decide)) hr rfl m_with_row k_with_row b_with_row zT (zB (zA 1) (zB (pd_callTy call_list_of cd_lof rfl m_list (by decide +kernel) (zB (pd_ix ix_X zU (zA 1) zF (fun _ _ => rfl)) zE)) zE)))))))
theorem ok_Plane_width (ht : P.given.tree = none) {f : Addr} {fd : FuncData} (fF : FunG K "width" "Plane.width" s_Plane_width f fd) {C_Plane : Addr} (mC_Plane : mg "Plane" = some (.ref C_Plane)) {C_State : Addr} (mC_State : mg "State" = some (.ref C_State)) (cl_Plane : Cls K C_Plane) (cl_State : Cls K C_State) (na_Plane_states : NoAttr K C_Plane "states") (na_State_wide : NoAttr K C_State "wide") :
  FnOk P w K mg base CX0 1 f fd ["self"] (spF ⟨K, mg⟩ F.Plane_width) :=
 fn_N 1 1 Den.Plane_width rfl fF sc_Plane_width rfl rfl fun cdv A outer s H hr =>
  (zJ (zP (pd_fld cl_State na_State_wide mC_State (pd_ix ix_X zU (pd_fld cl_Plane na_Plane_states mC_Plane (zA 0)) (pd_un un_neg ud_neg zF) (fun _ _ => rfl)))))
theorem ok__law_cell (ht : P.given.tree = none) {f : Addr} {fd : FuncData} (fF : FunG K "_law_cell" "_law_cell" s__law_cell f fd) (m_len : mg "len" = none) :
  FnOk P w K mg base CX0 1 f fd ["_law_script", "_law_k"] (spF ⟨K, mg⟩ F.k11_cell_at) :=
 fn_N 2 2 Den.k11_cell_at rfl fF sc__law_cell rfl rfl fun cdv A outer s H hr =>
  (zD (pd_if (zY op_lt od_lt (zA 1) (yA call_lenX cd_len rfl m_len (by decide +kernel) (zB (zA 0) zE)) (zZ _)) (zJ (zP (pd_ix ix_X zU (zA 0) (zA 1) (fun _ _ => rfl)))) pds_nil) (zJ (zP zF)))
theorem ok__law_mixed (ht : P.given.tree = none) {f : Addr} {fd : FuncData} (fF : FunG K "_law_mixed" "_law_mixed" s__law_mixed f fd) (m_range : mg "range" = none) :
  FnOk P w K mg base CX0 1 f fd ["_law_cell_here", "_law_k"] (spF ⟨K, mg⟩ F.k52_mixed) :=
 fn_N 5 2 Den.k52_mixed rfl fF sc__law_mixed rfl rfl fun cdv A outer s H hr =>
  (zD (zS 2 sc__law_mixed.nd (pd_op op_modN od_mod (pd_op op_mulX od_mul (pd_op op_addX od_add (pd_op op_addX od_add (pd_op op_modN od_mod (zA 0) zF) (pd_op op_mulX od_mul zF (zA 1))) zF) zF) zF)) (zD (zS 3 sc__law_mixed.nd zF) (zD (pd_for PassesOwn.never rfl (pdi_range1 rfl m_range zF) (zL 4 sc__law_mixed.nd) (zD (zS 2 sc__law_mixed.nd (pd_op op_modN od_mod (pd_op op_addX od_add (pd_op op_addX od_add (pd_op op_mulX od_mul (zA 2) zF) (pd_op op_mulX od_mul zF (zA 4))) zF) zF)) (zJ (zS 3 sc__law_mixed.nd (pd_op op_addX od_add (pd_op op_mulX od_mul (zA 3) zF) (zA 2)))))) (zJ (zP (zA 3))))))
theorem ok__law_lowest (ht : P.given.tree = none) {f : Addr} {fd : FuncData} (fF : FunG K "_law_lowest" "_law_lowest" s__law_lowest f fd) (m_abs : mg "abs" = none) :
  FnOk P w K mg base CX0 1 f fd ["_law_top", "_law_bottom"] (spF ⟨K, mg⟩ F.k52_lowest) :=
 fn_N 4 2 Den.k52_lowest rfl fF sc__law_lowest rfl rfl fun cdv A outer s H hr =>
  (zD (zS 2 sc__law_lowest.nd (yA call_abs cd_abs rfl m_abs (by decide +kernel) (zB (zA 0) zE))) (zD (zS 3 sc__law_lowest.nd (zA 1)) (zD (pd_while PassesOwn.never (zY (op_neX hr) od_ne (zA 3) zF (zZ _)) (zJ (pd_par 2 3 rfl sc__law_lowest.nd (zA 3) (pd_op op_modN od_mod (zA 2) (zA 3))))) (zJ (zP (pd_tup (zB (pd_op (op_fdivX hr ht rfl sc__law_lowest.gen sc__law_lowest.co) od_fdiv (zA 0) (zA 2)) (zB (pd_op (op_fdivX hr ht rfl sc__law_lowest.gen sc__law_lowest.co) od_fdiv (zA 1) (zA 2)) zE))))))))
theorem ok__law_plus (ht : P.given.tree = none) {f : Addr} {fd : FuncData} (fF : FunG K "_law_plus" "_law_plus" s__law_plus f fd) {f__law_lowest : Addr} {d__law_lowest : FuncData} (O__law_lowest : FnOk P w K mg base CX0 1 f__law_lowest d__law_lowest ["_law_top", "_law_bottom"] (spF ⟨K, mg⟩ F.k52_lowest)) (b__law_lowest : zV K d__law_lowest ["_law_top", "_law_bottom"] []) (k__law_lowest : PySem.W.keepIn K (.ref f__law_lowest) = true) (m__law_lowest : mg "_law_lowest" = some (.ref f__law_lowest)) :
  FnOk P w K mg base CX0 2 f fd ["_law_one", "_law_other"] (spF ⟨K, mg⟩ F.k52_plus) :=
 fn_N 2 2 Den.k52_plus rfl fF sc__law_plus rfl rfl fun cdv A outer s H hr =>
  (zJ (zP (pd_fn (O__law_lowest.mono (by decide)) hr rfl m__law_lowest k__law_lowest b__law_lowest zT (zB (pd_op op_addX od_add (pd_op op_mulX od_mul (pd_ix ix_X zU (zA 0) zF (fun _ _ => rfl)) (pd_ix ix_X zU (zA 1) zF (fun _ _ => rfl))) (pd_op op_mulX od_mul (pd_ix ix_X zU (zA 1) zF (fun _ _ => rfl)) (pd_ix ix_X zU (zA 0) zF (fun _ _ => rfl)))) (zB (pd_op op_mulX od_mul (pd_ix ix_X zU (zA 0) zF (fun _ _ => rfl)) (pd_ix ix_X zU (zA 1) zF (fun _ _ => rfl))) zE)))))
theorem ok__law_ratio (ht : P.given.tree = none) {f : Addr} {fd : FuncData} (fF : FunG K "_law_ratio" "_law_ratio" s__law_ratio f fd) {f__law_lowest : Addr} {d__law_lowest : FuncData} (O__law_lowest : FnOk P w K mg base CX0 1 f__law_lowest d__law_lowest ["_law_top", "_law_bottom"] (spF ⟨K, mg⟩ F.k52_lowest)) (b__law_lowest : zV K d__law_lowest ["_law_top", "_law_bottom"] []) (k__law_lowest : PySem.W.keepIn K (.ref f__law_lowest) = true) (m__law_lowest : mg "_law_lowest" = some (.ref f__law_lowest)) (m_divmod : mg "divmod" = none) :
  FnOk P w K mg base CX0 2 f fd ["_law_number"] (spF ⟨K, mg⟩ F.k52_ratio) :=
 fn_N 3 1 Den.k52_ratio rfl fF sc__law_ratio rfl rfl fun cdv A outer s H hr =>
  (zD (pd_asg (yA (call_divmodX hr ht rfl sc__law_ratio.gen sc__law_ratio.co) cd_dvm rfl m_divmod (by decide +kernel) (zB (zA 0) (zB zF zE))) (pdg_tup rfl (zX (zL 0 sc__law_ratio.nd) (zX (zL 1 sc__law_ratio.nd) pdgs_nil)))) (zD (pd_asg (yA (call_divmodX hr ht rfl sc__law_ratio.gen sc__law_ratio.co) cd_dvm rfl m_divmod (by decide +kernel) (zB (zA 0) (zB zF zE))) (pdg_tup rfl (zX (zL 0 sc__law_ratio.nd) (zX (zL 2 sc__law_ratio.nd) pdgs_nil)))) (zD (pd_if (zY (op_eqX hr) od_eq (zA 1) zF (zZ _)) (zJ (zP (pd_tup (zB (pd_op op_sub od_sub (pd_op op_mulX od_mul (zA 0) (pd_op op_pow od_pow zF zF)) (pd_op op_pow od_pow zF zF)) (zB zF zE))))) pds_nil) (zJ (zP (pd_fn (O__law_lowest.mono (by decide)) hr rfl m__law_lowest k__law_lowest b__law_lowest zT (zB (pd_op op_sub od_sub (pd_op op_modN od_mod (zA 0) zF) zF) (zB (pd_ix ix_X zU (pd_lst (zB zF (zB zF (zB zF (zB zF (zB zF (zB zF (zB zF (zB zF zE))))))))) (zA 2) (fun _ _ => rfl)) zE))))))))
theorem ok__law_row (ht : P.given.tree = none) {f : Addr} {fd : FuncData} (fF : FunG K "_law_row" "_law_row" s__law_row f fd) {f__law_ratio : Addr} {d__law_ratio : FuncData} (O__law_ratio : FnOk P w K mg base CX0 2 f__law_ratio d__law_ratio ["_law_number"] (spF ⟨K, mg⟩ F.k52_ratio)) (b__law_ratio : zV K d__law_ratio ["_law_number"] []) (k__law_ratio : PySem.W.keepIn K (.ref f__law_ratio) = true) (m__law_ratio : mg "_law_ratio" = some (.ref f__law_ratio)) {f__law_mixed : Addr} {d__law_mixed : FuncData} (O__law_mixed : FnOk P w K mg base CX0 1 f__law_mixed d__law_mixed ["_law_cell_here", "_law_k"] (spF ⟨K, mg⟩ F.k52_mixed)) (b__law_mixed : zV K d__law_mixed ["_law_cell_here", "_law_k"] []) (k__law_mixed : PySem.W.keepIn K (.ref f__law_mixed) = true) (m__law_mixed : mg "_law_mixed" = some (.ref f__law_mixed)) (m_range : mg "range" = none) :
  FnOk P w K mg base CX0 3 f fd ["_law_number", "_law_wide"] (spF ⟨K, mg⟩ F.k52_row) :=
 fn_N 4 2 Den.k52_row rfl fF sc__law_row rfl rfl fun cdv A outer s H hr =>
  (zD (zS 2 sc__law_row.nd (pd_lst zE)) (zD (pd_for PassesOwn.never rfl (pdi_range1 rfl m_range (zA 1)) (zL 3 sc__law_row.nd) (zJ (pd_expr (pd_append (zA 2) (pd_fn (O__law_ratio.mono (by decide)) hr rfl m__law_ratio k__law_ratio b__law_ratio zT (zB (pd_op op_modN od_mod (pd_fn (O__law_mixed.mono (by decide)) hr rfl m__law_mixed k__law_mixed b__law_mixed zT (zB (zA 0) (zB (pd_op op_addX od_add zF (zA 3)) zE))) zF) zE)))))) (zJ (zP (zA 2)))))
theorem ok__law_point (ht : P.given.tree = none) {f : Addr} {fd : FuncData} (fF : FunG K "_law_point" "_law_point" s__law_point f fd) {f__law_row : Addr} {d__law_row : FuncData} (O__law_row : FnOk P w K mg base CX0 3 f__law_row d__law_row ["_law_number", "_law_wide"] (spF ⟨K, mg⟩ F.k52_row)) (b__law_row : zV K d__law_row ["_law_number", "_law_wide"] []) (k__law_row : PySem.W.keepIn K (.ref f__law_row) = true) (m__law_row : mg "_law_row" = some (.ref f__law_row)) {f__law_plus : Addr} {d__law_plus : FuncData} (O__law_plus : FnOk P w K mg base CX0 2 f__law_plus d__law_plus ["_law_one", "_law_other"] (spF ⟨K, mg⟩ F.k52_plus)) (b__law_plus : zV K d__law_plus ["_law_one", "_law_other"] []) (k__law_plus : PySem.W.keepIn K (.ref f__law_plus) = true) (m__law_plus : mg "_law_plus" = some (.ref f__law_plus)) {f__law_ratio : Addr} {d__law_ratio : FuncData} (O__law_ratio : FnOk P w K mg base CX0 2 f__law_ratio d__law_ratio ["_law_number"] (spF ⟨K, mg⟩ F.k52_ratio)) (b__law_ratio : zV K d__law_ratio ["_law_number"] []) (k__law_ratio : PySem.W.keepIn K (.ref f__law_ratio) = true) (m__law_ratio : mg "_law_ratio" = some (.ref f__law_ratio)) (m_divmod : mg "divmod" = none) :
  FnOk P w K mg base CX0 4 f fd ["_law_number", "_law_wide", "_law_lean"] (spF ⟨K, mg⟩ F.k52_point) :=
 fn_N 6 3 Den.k52_point rfl fF sc__law_point rfl rfl fun cdv A outer s H hr =>
  (zD (pd_asg (yA (call_divmodX hr ht rfl sc__law_point.gen sc__law_point.co) cd_dvm rfl m_divmod (by decide +kernel) (zB (zA 0) (zB zF zE))) (pdg_tup rfl (zX (zL 0 sc__law_point.nd) (zX (zL 3 sc__law_point.nd) pdgs_nil)))) (zD (pd_asg (yA (call_divmodX hr ht rfl sc__law_point.gen sc__law_point.co) cd_dvm rfl m_divmod (by decide +kernel) (zB (zA 0) (zB zF zE))) (pdg_tup rfl (zX (zL 0 sc__law_point.nd) (zX (zL 4 sc__law_point.nd) pdgs_nil)))) (zD (zS 5 sc__law_point.nd (pd_fn (O__law_row.mono (by decide)) hr rfl m__law_row k__law_row b__law_row zT (zB (zA 0) (zB (zA 1) zE)))) (zD (pd_if (pd_wt (pd_and (pt_valD (zA 2)) (pd_and1 (zY op_gt od_gt (zA 1) zF (zZ _))))) (zJ (pd_asg (pd_fn (O__law_plus.mono (by decide)) hr rfl m__law_plus k__law_plus b__law_plus zT (zB (pd_ix ix_X zU (zA 5) zF (fun _ _ => rfl)) (zB (pd_ix ix_X zU (zA 5) (pd_op op_sub od_sub (zA 1) zF) (fun _ _ => rfl)) zE))) (pdg_sub (zA 5) (pd_op op_sub od_sub (zA 1) zF)))) pds_nil) (zJ (zP (pd_tup (zB (zA 5) (zB (pd_fn (O__law_ratio.mono (by decide)) hr rfl m__law_ratio k__law_ratio b__law_ratio zT (zB (zA 3) zE)) (zB (pd_ix ix_X zU (pd_lst (zB (pd_tup (zB zF (zB zF zE))) (zB (pd_tup (zB zF (zB zF zE))) (zB (pd_tup (zB zF (zB zF zE))) (zB (pd_tup (zB zF (zB zF zE))) (zB (pd_tup (zB zF (zB zF zE))) (zB (pd_tup (zB zF (zB zF zE))) zE))))))) (zA 4) (fun _ _ => rfl)) zE))))))))))
theorem ok__law_fresh (ht : P.given.tree = none) {f : Addr} {fd : FuncData} (fF : FunG K "_law_fresh" "_law_fresh" s__law_fresh f fd) :
  FnOk P w K mg base CX0 1 f fd ["_law_wide"] (spF ⟨K, mg⟩ F.k52_fresh) :=
 fn_N 1 1 Den.k52_fresh rfl fF sc__law_fresh rfl rfl fun cdv A outer s H hr =>
  (zJ (zP (pd_lst (zB (zA 0) (zB (pd_lst zE) (zB zF zE))))))
theorem ok__law_alike (ht : P.given.tree = none) {f : Addr} {fd : FuncData} (fF : FunG K "_law_alike" "_law_alike" s__law_alike f fd) (m_all : mg "all" = none) (m_bool : mg "bool" = none) (m_int : mg "int" = none) (m_isinstance : mg "isinstance" = none) (m_len : mg "len" = none) (m_list : mg "list" = none) (m_tuple : mg "tuple" = none) (m_zip : mg "zip" = none) (b__law_alike : zV K fd ["_law_found", "_law_due"] []) (k__law_alike : PySem.W.keepIn K (.ref f) = true) (m__law_alike : mg "_law_alike" = some (.ref f)) (n : Nat) :
  FnOk P w K mg base CX0 (n + 1) f fd ["_law_found", "_law_due"] (spF ⟨K, mg⟩ (F.k52_alike n)) := by
 induction n with
 | zero => exact ((fn_N 2 2 nevS rfl fF sc__law_alike rfl rfl fun cdv A outer s H hr => pds_never : FnOk P w K mg base CX0 (0 + 1) f fd ["_law_found", "_law_due"] _)).imp fun vs H Q E h => (by obtain ⟨W, ds, rr, _, _, e, _⟩ := h; cases e)
 | succ n O__law_alike =>
  exact fn_N 2 2 (Den.k52_alike (F.k52_alike n)) rfl fF sc__law_alike rfl rfl fun cdv A outer s H hr =>
  (zD (pd_if (pd_wt (pd_or (pt_valD (pd_isi .lst (by decide +kernel) rfl m_isinstance rfl m_list (zA 1))) (pd_or1 (pt_valD (pd_isi .tup (by decide +kernel) rfl m_isinstance rfl m_tuple (zA 1)))))) (zD (pd_if (pd_wt (pd_or (zY (op_neX hr) od_ne (pd_isi .lst (by decide +kernel) rfl m_isinstance rfl m_list (zA 1)) (pd_isi .lst (by decide +kernel) rfl m_isinstance rfl m_list (zA 0)) (zZ _)) (pd_or1 (zY (op_neX hr) od_ne (pd_isi .tup (by decide +kernel) rfl m_isinstance rfl m_tuple (zA 1)) (pd_isi .tup (by decide +kernel) rfl m_isinstance rfl m_tuple (zA 0)) (zZ _))))) (zJ (zP pd_bl)) pds_nil) (zJ (zP (pd_andV (pd_cmp (op_eqX hr) od_eq (yA call_lenX cd_len rfl m_len (by decide +kernel) (zB (zA 0) zE)) (yA call_lenX cd_len rfl m_len (by decide +kernel) (zB (zA 1) zE)) (zZ _)) (pd_oneV (yA (call_allX rfl) cd_all rfl m_all (by decide +kernel) (zB (pd_comp (N' := ["_law_found", "_law_due", "_law_one", "_law_other"]) 2 (CompOk.mk (N := ["_law_found", "_law_due"]) (fsc := zC s__law_alike) (N' := ["_law_found", "_law_due", "_law_one", "_law_other"]) rfl (by decide +kernel) (by decide +kernel) (by decide +kernel) (by decide +kernel) (by decide) (by decide +kernel)) rfl (pdi_zipL rfl m_zip (zA 0) (zA 1)) (fun _ _ _ _ _ => (pdg_tup rfl (zX (zL 2 (show List.Nodup (["_law_found", "_law_due", "_law_one", "_law_other"] : List Str) by decide +kernel)) (zX (zL 3 (show List.Nodup (["_law_found", "_law_due", "_law_one", "_law_other"] : List Str) by decide +kernel)) pdgs_nil)))) (fun _ _ _ _ _ => (pd_fn (O__law_alike.mono (by omega)) hr rfl m__law_alike k__law_alike b__law_alike zT (zB (zA 2) (zB (zA 3) zE))))) zE))))))) pds_nil) (zJ (zP (pd_andV (pd_isi .int (by decide +kernel) rfl m_isinstance rfl m_int (zA 0)) (pd_andV (pd_notV (pd_isi .bool (by decide +kernel) rfl m_isinstance rfl m_bool (zA 0))) (pd_oneV (pd_cmp (op_eqX hr) od_eq (zA 0) (zA 1) (zZ _))))))))
theorem ok__law_stands (ht : P.given.tree = none) {f : Addr} {fd : FuncData} (fF : FunG K "_law_stands" "_law_stands" s__law_stands f fd) {f__law_alike : Addr} {d__law_alike : FuncData} (O__law_alike : FnOk P w K mg base CX0 8 f__law_alike d__law_alike ["_law_found", "_law_due"] (spF ⟨K, mg⟩ (F.k52_alike 7))) (b__law_alike : zV K d__law_alike ["_law_found", "_law_due"] []) (k__law_alike : PySem.W.keepIn K (.ref f__law_alike) = true) (m__law_alike : mg "_law_alike" = some (.ref f__law_alike)) {f_Plane_width : Addr} {d_Plane_width : FuncData} (O_Plane_width : FnOk P w K mg base CX0 1 f_Plane_width d_Plane_width ["self"] (spF ⟨K, mg⟩ F.Plane_width)) (b_Plane_width : zV K d_Plane_width ["self"] []) {f_Plane_points : Addr} {d_Plane_points : FuncData} (O_Plane_points : FnOk P w K mg base CX0 2 f_Plane_points d_Plane_points ["self"] (spF ⟨K, mg⟩ F.Plane_points)) (b_Plane_points : zV K d_Plane_points ["self"] []) {C_Plane : Addr} (mC_Plane : mg "Plane" = some (.ref C_Plane)) (cl_Plane : Cls K C_Plane) (me_Plane_width : Meth K C_Plane "width" f_Plane_width) (me_Plane_points : Meth K C_Plane "points" f_Plane_points) :
  FnOk P w K mg base CX0 9 f fd ["_law_plane", "_law_state"] (spF ⟨K, mg⟩ F.k52_stands) :=
 fn_N 2 2 Den.k52_stands rfl fF sc__law_stands rfl rfl fun cdv A outer s H hr =>
  (zD (pd_if (pd_not (pt_valD (pd_fn (O__law_alike.mono (by decide)) hr rfl m__law_alike k__law_alike b__law_alike zT (zB (pd_meth0 cl_Plane me_Plane_width mC_Plane (O_Plane_width.mono (by decide)) hr b_Plane_width zT (zA 0)) (zB (pd_ix ix_X zU (zA 1) zF (fun _ _ => rfl)) zE))))) (zJ (zP pd_bl)) pds_nil) (zJ (zP (pd_fn (O__law_alike.mono (by decide)) hr rfl m__law_alike k__law_alike b__law_alike zT (zB (pd_meth0 cl_Plane me_Plane_points mC_Plane (O_Plane_points.mono (by decide)) hr b_Plane_points zT (zA 0)) (zB (pd_ix ix_X zU (zA 1) zF (fun _ _ => rfl)) zE))))))
theorem ok__law_laid (ht : P.given.tree = none) {f : Addr} {fd : FuncData} (fF : FunG K "_law_laid" "_law_laid" s__law_laid f fd) {f__law_point : Addr} {d__law_point : FuncData} (O__law_point : FnOk P w K mg base CX0 4 f__law_point d__law_point ["_law_number", "_law_wide", "_law_lean"] (spF ⟨K, mg⟩ F.k52_point)) (b__law_point : zV K d__law_point ["_law_number", "_law_wide", "_law_lean"] []) (k__law_point : PySem.W.keepIn K (.ref f__law_point) = true) (m__law_point : mg "_law_point" = some (.ref f__law_point)) {f_Plane_lay : Addr} {d_Plane_lay : FuncData} (O_Plane_lay : FnOk P w K mg base CX0 5 f_Plane_lay d_Plane_lay ["self", "row", "want", "weight"] (spF ⟨K, mg⟩ F.Plane_lay)) (b_Plane_lay : zV K d_Plane_lay ["self", "row", "want", "weight"] []) (b1_Plane_lay : zV K d_Plane_lay ["self", "row", "want", "weight"] [.none]) {f__law_alike : Addr} {d__law_alike : FuncData} (O__law_alike : FnOk P w K mg base CX0 8 f__law_alike d__law_alike ["_law_found", "_law_due"] (spF ⟨K, mg⟩ (F.k52_alike 7))) (b__law_alike : zV K d__law_alike ["_law_found", "_law_due"] []) (k__law_alike : PySem.W.keepIn K (.ref f__law_alike) = true) (m__law_alike : mg "_law_alike" = some (.ref f__law_alike)) (m_len : mg "len" = none) (m_list : mg "list" = none) {C_Plane : Addr} (mC_Plane : mg "Plane" = some (.ref C_Plane)) (cl_Plane : Cls K C_Plane) (me_Plane_lay : Meth K C_Plane "lay" f_Plane_lay) :
  FnOk P w K mg base CX0 9 f fd ["_law_plane", "_law_state", "_law_number", "_law_lean"] (spF ⟨K, mg⟩ F.k51_laid) :=
 fn_N 9 4 Den.k51_laid rfl fF sc__law_laid rfl rfl fun cdv A outer s H hr =>
  (zD (pd_asg (pd_fn (O__law_point.mono (by decide)) hr rfl m__law_point k__law_point b__law_point zT (zB (zA 2) (zB (pd_ix ix_X zU (zA 1) zF (fun _ _ => rfl)) (zB (zA 3) zE)))) (pdg_tup rfl (zX (zL 4 sc__law_laid.nd) (zX (zL 5 sc__law_laid.nd) (zX (zL 6 sc__law_laid.nd) pdgs_nil))))) (zD (pd_if (pd_wt (pd_and (zY op_gt od_gt (yA call_lenX cd_len rfl m_len (by decide +kernel) (zB (pd_ix ix_X zU (zA 1) zF (fun _ _ => rfl)) zE)) zF (zZ _)) (pd_and1 (zY (op_eqX hr) od_eq (pd_op op_modN od_mod (zA 2) zF) zF (zZ _))))) (zJ (zS 4 sc__law_laid.nd (pd_callTy call_list_of cd_lof rfl m_list (by decide +kernel) (zB (pd_ix ix_X zU (pd_ix ix_X zU (pd_ix ix_X zU (zA 1) zF (fun _ _ => rfl)) (pd_op op_modN od_mod (pd_op (op_fdivX hr ht rfl sc__law_laid.gen sc__law_laid.co) od_fdiv (zA 2) zF) (yA call_lenX cd_len rfl m_len (by decide +kernel) (zB (pd_ix ix_X zU (zA 1) zF (fun _ _ => rfl)) zE))) (fun _ _ => rfl)) zF (fun _ _ => rfl)) zE)))) pds_nil) (zD (zS 7 sc__law_laid.nd (pd_callTy call_list_of cd_lof rfl m_list (by decide +kernel) (zB (zA 4) zE))) (zD (pd_if (pd_wt (pd_and (zY (op_eqX hr) od_eq (zA 6) (pd_tup (zB zF (zB zF zE))) (zZ _)) (pd_and1 (zY (op_eqX hr) od_eq (pd_op op_modN od_mod (zA 2) zF) zF (zZ _))))) (zJ (zS 8 sc__law_laid.nd (pd_methD cl_Plane me_Plane_lay mC_Plane (O_Plane_lay.mono (by decide)) hr b1_Plane_lay zT (zA 0) (zB (zA 7) (zB (zA 5) zE))))) (zJ (pd_if (pd_wt (pd_and (zY (op_eqX hr) od_eq (zA 6) (pd_tup (zB zF (zB zF zE))) (zZ _)) (pd_and1 (zY (op_eqX hr) od_eq (pd_op op_modN od_mod (zA 2) zF) zF (zZ _))))) (zJ (zS 8 sc__law_laid.nd (pd_meth cl_Plane me_Plane_lay mC_Plane (O_Plane_lay.mono (by decide)) hr b_Plane_lay zT (zA 0) (zB (zA 7) (zB (zA 5) (zB pd_non zE)))))) (zJ (zS 8 sc__law_laid.nd (pd_meth cl_Plane me_Plane_lay mC_Plane (O_Plane_lay.mono (by decide)) hr b_Plane_lay zT (zA 0) (zB (zA 7) (zB (zA 5) (zB (zA 6) zE))))))))) (zD (pd_if (zY (op_neX hr) od_ne (zA 7) (zA 4) (zZ _)) (zJ (zP pd_bl)) pds_nil) (zD (pd_asg (pd_lst (zB (pd_tup (zB zF (zB zF zE))) zE)) (pdg_whole (zA 7))) (zD (pd_expr (pd_append (pd_ix ix_X zU (zA 1) zF (fun _ _ => rfl)) (pd_tup (zB (pd_ix ix_X zU (zA 1) zF (fun _ _ => rfl)) (zB (zA 4) (zB (zA 5) (zB (zA 6) zE))))))) (zD (pd_asg (pd_op op_addX od_add (pd_ix ix_X zU (zA 1) zF (fun _ _ => rfl)) zF) (pdg_sub (zA 1) zF)) (zJ (zP (pd_fn (O__law_alike.mono (by decide)) hr rfl m__law_alike k__law_alike b__law_alike zT (zB (zA 8) (zB (pd_op op_sub od_sub (pd_ix ix_X zU (zA 1) zF (fun _ _ => rfl)) zF) zE)))))))))))))
theorem ok__law_taken (ht : P.given.tree = none) {f : Addr} {fd : FuncData} (fF : FunG K "_law_taken" "_law_taken" s__law_taken f fd) {f_Plane_take : Addr} {d_Plane_take : FuncData} (O_Plane_take : FnOk P w K mg base CX0 3 f_Plane_take d_Plane_take ["self", "number"] (spF ⟨K, mg⟩ F.Plane_take)) (b_Plane_take : zV K d_Plane_take ["self", "number"] []) (m_len : mg "len" = none) {C_Plane : Addr} (mC_Plane : mg "Plane" = some (.ref C_Plane)) (cl_Plane : Cls K C_Plane) (me_Plane_take : Meth K C_Plane "take" f_Plane_take) :
  FnOk P w K mg base CX0 4 f fd ["_law_plane", "_law_state", "_law_number"] (spF ⟨K, mg⟩ F.k52_taken) :=
 fn_N 4 3 Den.k52_taken rfl fF sc__law_taken rfl rfl fun cdv A outer s H hr =>
  (zD (zS 3 sc__law_taken.nd (pd_op op_modN od_mod (zA 2) (yA call_lenX cd_len rfl m_len (by decide +kernel) (zB (pd_ix ix_X zU (zA 1) zF (fun _ _ => rfl)) zE)))) (zD (pd_expr (pd_meth cl_Plane me_Plane_take mC_Plane (O_Plane_take.mono (by decide)) hr b_Plane_take zT (zA 0) (zB (pd_ix ix_X zU (pd_ix ix_X zU (pd_ix ix_X zU (zA 1) zF (fun _ _ => rfl)) (zA 3) (fun _ _ => rfl)) zF (fun _ _ => rfl)) zE))) (zJ (pd_expr (pd_popAt (pd_ix ix_X zU (zA 1) zF (fun _ _ => rfl)) (zA 3))))))
theorem ok_law (ht : P.given.tree = none) {f : Addr} {fd : FuncData} (fF : FunG K "law" "law" s_law f fd) {f__law_cell : Addr} {d__law_cell : FuncData} (O__law_cell : FnOk P w K mg base CX0 1 f__law_cell d__law_cell ["_law_script", "_law_k"] (spF ⟨K, mg⟩ F.k11_cell_at)) (b__law_cell : zV K d__law_cell ["_law_script", "_law_k"] []) (k__law_cell : PySem.W.keepIn K (.ref f__law_cell) = true) (m__law_cell : mg "_law_cell" = some (.ref f__law_cell)) {f_Plane___init__ : Addr} {d_Plane___init__ : FuncData} (O_Plane___init__ : FnOk P w K mg base CX0 3 f_Plane___init__ d_Plane___init__ ["self", "wide"] (spF ⟨K, mg⟩ F.Plane___init__)) (b_Plane___init__ : zV K d_Plane___init__ ["self", "wide"] []) {f__law_fresh : Addr} {d__law_fresh : FuncData} (O__law_fresh : FnOk P w K mg base CX0 1 f__law_fresh d__law_fresh ["_law_wide"] (spF ⟨K, mg⟩ F.k52_fresh)) (b__law_fresh : zV K d__law_fresh ["_law_wide"] []) (k__law_fresh : PySem.W.keepIn K (.ref f__law_fresh) = true) (m__law_fresh : mg "_law_fresh" = some (.ref f__law_fresh)) {f__law_mixed : Addr} {d__law_mixed : FuncData} (O__law_mixed : FnOk P w K mg base CX0 1 f__law_mixed d__law_mixed ["_law_cell_here", "_law_k"] (spF ⟨K, mg⟩ F.k52_mixed)) (b__law_mixed : zV K d__law_mixed ["_law_cell_here", "_law_k"] []) (k__law_mixed : PySem.W.keepIn K (.ref f__law_mixed) = true) (m__law_mixed : mg "_law_mixed" = some (.ref f__law_mixed)) {f__law_taken : Addr} {d__law_taken : FuncData} (O__law_taken : FnOk P w K mg base CX0 4 f__law_taken d__law_taken ["_law_plane", "_law_state", "_law_number"] (spF ⟨K, mg⟩ F.k52_taken)) (b__law_taken : zV K d__law_taken ["_law_plane", "_law_state", "_law_number"] []) (k__law_taken : PySem.W.keepIn K (.ref f__law_taken) = true) (m__law_taken : mg "_law_taken" = some (.ref f__law_taken)) {f__law_laid : Addr} {d__law_laid : FuncData} (O__law_laid : FnOk P w K mg base CX0 9 f__law_laid d__law_laid ["_law_plane", "_law_state", "_law_number", "_law_lean"] (spF ⟨K, mg⟩ F.k51_laid)) (b__law_laid : zV K d__law_laid ["_law_plane", "_law_state", "_law_number", "_law_lean"] []) (k__law_laid : PySem.W.keepIn K (.ref f__law_laid) = true) (m__law_laid : mg "_law_laid" = some (.ref f__law_laid)) {f_Plane_points : Addr} {d_Plane_points : FuncData} (O_Plane_points : FnOk P w K mg base CX0 2 f_Plane_points d_Plane_points ["self"] (spF ⟨K, mg⟩ F.Plane_points)) (b_Plane_points : zV K d_Plane_points ["self"] []) {f__law_alike : Addr} {d__law_alike : FuncData} (O__law_alike : FnOk P w K mg base CX0 8 f__law_alike d__law_alike ["_law_found", "_law_due"] (spF ⟨K, mg⟩ (F.k52_alike 7))) (b__law_alike : zV K d__law_alike ["_law_found", "_law_due"] []) (k__law_alike : PySem.W.keepIn K (.ref f__law_alike) = true) (m__law_alike : mg "_law_alike" = some (.ref f__law_alike)) {f__law_stands : Addr} {d__law_stands : FuncData} (O__law_stands : FnOk P w K mg base CX0 9 f__law_stands d__law_stands ["_law_plane", "_law_state"] (spF ⟨K, mg⟩ F.k52_stands)) (b__law_stands : zV K d__law_stands ["_law_plane", "_law_state"] []) (k__law_stands : PySem.W.keepIn K (.ref f__law_stands) = true) (m__law_stands : mg "_law_stands" = some (.ref f__law_stands)) (m_divmod : mg "divmod" = none) (m_len : mg "len" = none) (m_min : mg "min" = none) (m_range : mg "range" = none) {C_Plane : Addr} (mC_Plane : mg "Plane" = some (.ref C_Plane)) (cl_Plane : Cls K C_Plane) (me_Plane_points : Meth K C_Plane "points" f_Plane_points) (mk_Plane : Mk K C_Plane f_Plane___init__) :
  FnOk P w K mg base CX0 10 f fd ["_law_script"] (spF ⟨K, mg⟩ F.k51_law) :=
 fn_N 9 1 Den.k51_law rfl fF sc_law rfl rfl fun cdv A outer s H hr =>
  (zD (zS 1 sc_law.nd (pd_op op_modN od_mod (pd_fn (O__law_cell.mono (by decide)) hr rfl m__law_cell k__law_cell b__law_cell zT (zB (zA 0) (zB zF zE))) zF)) (zD (zS 2 sc_law.nd (pd_make mk_Plane mC_Plane (O_Plane___init__.mono (by decide)) hr rfl b_Plane___init__ zT (zB (zA 1) zE))) (zD (zS 3 sc_law.nd (pd_fn (O__law_fresh.mono (by decide)) hr rfl m__law_fresh k__law_fresh b__law_fresh zT (zB (zA 1) zE))) (zD (pd_for PassesOwn.never rfl (pdi_range2 rfl m_range zF (yA (call_min2 rfl) cd_min rfl m_min (by decide +kernel) (zB zF (zB (yA call_lenX cd_len rfl m_len (by decide +kernel) (zB (zA 0) zE)) zE)))) (zL 4 sc_law.nd) (zD (pd_asg (yA (call_divmodX hr ht rfl sc_law.gen sc_law.co) cd_dvm rfl m_divmod (by decide +kernel) (zB (pd_fn (O__law_mixed.mono (by decide)) hr rfl m__law_mixed k__law_mixed b__law_mixed zT (zB (pd_ix ix_X zU (zA 0) (zA 4) (fun _ _ => rfl)) (zB (zA 4) zE))) (zB zF zE))) (pdg_tup rfl (zX (zL 5 sc_law.nd) (zX (zL 6 sc_law.nd) pdgs_nil)))) (zD (pd_if (pd_wt (pd_or (pd_wt (pd_and (zY (op_eqX hr) od_eq (zA 6) zF (zZ _)) (pd_and1 (zY op_gt od_gt (yA call_lenX cd_len rfl m_len (by decide +kernel) (zB (pd_ix ix_X zU (zA 3) zF (fun _ _ => rfl)) zE)) zF (zZ _))))) (pd_or1 (zY (op_eqX hr) od_eq (yA call_lenX cd_len rfl m_len (by decide +kernel) (zB (pd_ix ix_X zU (zA 3) zF (fun _ _ => rfl)) zE)) zF (zZ _))))) (zJ (pd_expr (pd_fn (O__law_taken.mono (by decide)) hr rfl m__law_taken k__law_taken b__law_taken zT (zB (zA 2) (zB (zA 3) (zB (zA 5) zE)))))) (zJ (pd_if (pd_not (pt_valD (pd_fn (O__law_laid.mono (by decide)) hr rfl m__law_laid k__law_laid b__law_laid zT (zB (zA 2) (zB (zA 3) (zB (zA 5) (zB (pd_cmp (op_eqX hr) od_eq (zA 6) zF (zZ _)) zE))))))) (zJ (zP pd_bl)) pds_nil))) (zD (zS 7 sc_law.nd (pd_meth0 cl_Plane me_Plane_points mC_Plane (O_Plane_points.mono (by decide)) hr b_Plane_points zT (zA 2))) (zD (pd_if (pd_not (pt_valD (pd_fn (O__law_alike.mono (by decide)) hr rfl m__law_alike k__law_alike b__law_alike zT (zB (zA 7) (zB (pd_ix ix_X zU (zA 3) zF (fun _ _ => rfl)) zE))))) (zJ (zP pd_bl)) pds_nil) (zD (pd_for PassesOwn.never rfl (pdi_list (zA 7)) (zL 8 sc_law.nd) (zJ (pd_expr (pd_append (pd_ix ix_X zU (zA 8) zF (fun _ _ => rfl)) (pd_tup (zB zF (zB zF zE))))))) (zJ (pd_expr (pd_clear (zA 7)))))))))) (zJ (zP (pd_fn (O__law_stands.mono (by decide)) hr rfl m__law_stands k__law_stands b__law_stands zT (zB (zA 2) (zB (zA 3) zE)))))))))
end
end Tm
end
section
namespace Tm
open PySem PySem.Spec PyProof.Rows L2 Np
def spLaw (K : PySem.W.Frag) : Sp := fun vs H Q _ => ∃ (a : Addr) (ns : List Int), vs = [.ref a] ∧ Only H ∧ SqL K H a (ns.map V.int) ∧ ns.length ≤ 63 ∧ (∀ z ∈ ns, z.natAbs.log2 < 1048577) ∧ ∀ H', Q (.bl true) H'
theorem repL_ints {G : Gx} {H : Hp} {W : Wd} : ∀ ns : List Int, RepL G H W (ns.map D.int) (ns.map V.int)
 | [] => rfl
 | n :: ns => ⟨.int n, _, rfl, rfl, repL_ints ns⟩
theorem sc_of {K : PySem.W.Frag} {H : Hp} {a : Addr} {xs : List V} (hO : Only H) (h : SqL K H a xs) : Sc K H a xs := by
 rcases h with (h | ⟨o, h⟩) | h
 ·rcases hO a with q | ⟨o, ys, q⟩ <;> rw [q] at h <;> cases h
 ·exact .inl ⟨o, h⟩
 ·exact .inr (.inr h)
theorem law_sp {K : PySem.W.Frag} {mg : Str → Option Value} (vs : List V) (H : Hp) (Q : VK) (E : XK) (h : spLaw K vs H Q E) : spF ⟨K, mg⟩ F.k51_law vs H Q E := by
 obtain ⟨a, ns, rfl, hO, hS, hl, hz, q⟩ := h
 obtain ⟨d, S', e, rfl⟩ := (Nm.k51_holds ns ⟨hl, hz⟩).out
 refine ⟨⟨fun _ => 0, []⟩, [.scr (ns.map D.int)], .ok (.bl true) S', ⟨fun i j hi => by simp at hi, fun i o hi => by simp at hi⟩, ⟨.ref a, [], rfl, ⟨a, _, rfl, sc_of hO hS, repL_ints ns⟩, rfl⟩, e, fun H' W' _ _ v rv => ?_⟩
 have rv : v = .bl true := rv
 subst rv
 exact q H'
theorem cst_pair {K : PySem.W.Frag} {mg : Str → Option Value} {x : Str} {c : Addr} {dd : Option Addr} {t0 t1 : Tok} {n : Nat} {sl : Array (Option Value)} {i j : Int} (hm : mg x = some (.ref c)) (l : K.lookup c = some ⟨.type "tuple", dd, .seq #[.int i t0, .int j t1] n, sl⟩) : CstAt K mg x (.tup [.int i, .int j]) :=
 ⟨_, .ref c, hm, rfl, fun H W => ⟨c, [.int i, .int j], rfl, .inr ⟨_, _, _, l, rfl, rfl, by show 2 ≤ sizeLine; decide, .cons ⟨_, rfl⟩ (.cons ⟨_, rfl⟩ .nil)⟩, ⟨_, _, rfl, rfl, ⟨_, _, rfl, rfl, rfl⟩⟩⟩⟩
theorem all_mk {P : Program} {w : World} {K : PySem.W.Frag} {h : Heap} {mg : Str → Option Value} {fa : Addr} (ht : P.given.tree = none) (X : K.In h) (G : h.Ns mainGlobals mg) (hfa : mg "law" = some (.ref fa))
  {C_Plane : Addr}
  {C_State : Addr}
  {f0 : Addr} {od0 an0 : Option Addr} {sl0 : Array (Option Value)} {oc0 kV0 dc0 pm0 cd0 ct0 : Value}
  {f1 : Addr} {od1 an1 : Option Addr} {sl1 : Array (Option Value)} {oc1 kV1 dc1 pm1 cd1 ct1 : Value}
  {f2 : Addr} {od2 an2 : Option Addr} {sl2 : Array (Option Value)} {oc2 kV2 dc2 pm2 cd2 ct2 : Value}
  {f3 : Addr} {od3 an3 : Option Addr} {sl3 : Array (Option Value)} {oc3 kV3 dc3 pm3 cd3 ct3 : Value}
  {f4 : Addr} {od4 an4 : Option Addr} {sl4 : Array (Option Value)} {oc4 kV4 dc4 pm4 cd4 ct4 : Value}
  {f5 : Addr} {od5 an5 : Option Addr} {sl5 : Array (Option Value)} {oc5 kV5 dc5 pm5 cd5 ct5 : Value}
  {f6 : Addr} {od6 an6 : Option Addr} {sl6 : Array (Option Value)} {oc6 kV6 dc6 pm6 cd6 ct6 : Value}
  {f7 : Addr} {od7 an7 : Option Addr} {sl7 : Array (Option Value)} {oc7 kV7 dc7 pm7 cd7 ct7 : Value}
  {f8 : Addr} {od8 an8 : Option Addr} {sl8 : Array (Option Value)} {oc8 kV8 dc8 pm8 cd8 ct8 : Value}
  {f9 : Addr} {od9 an9 : Option Addr} {sl9 : Array (Option Value)} {oc9 kV9 dc9 pm9 cd9 ct9 : Value}
  {T10 : Addr} {nT10 : Nat}
  {f10 : Addr} {od10 an10 : Option Addr} {sl10 : Array (Option Value)} {oc10 kV10 dc10 pm10 cd10 ct10 : Value} {dT10 : Option Addr} {sT10 : Array (Option Value)}
  {f11 : Addr} {od11 an11 : Option Addr} {sl11 : Array (Option Value)} {oc11 kV11 dc11 pm11 cd11 ct11 : Value}
  {f12 : Addr} {od12 an12 : Option Addr} {sl12 : Array (Option Value)} {oc12 kV12 dc12 pm12 cd12 ct12 : Value}
  {f13 : Addr} {od13 an13 : Option Addr} {sl13 : Array (Option Value)} {oc13 kV13 dc13 pm13 cd13 ct13 : Value}
  {f14 : Addr} {od14 an14 : Option Addr} {sl14 : Array (Option Value)} {oc14 kV14 dc14 pm14 cd14 ct14 : Value}
  {f15 : Addr} {od15 an15 : Option Addr} {sl15 : Array (Option Value)} {oc15 kV15 dc15 pm15 cd15 ct15 : Value}
  {f16 : Addr} {od16 an16 : Option Addr} {sl16 : Array (Option Value)} {oc16 kV16 dc16 pm16 cd16 ct16 : Value}
  {f17 : Addr} {od17 an17 : Option Addr} {sl17 : Array (Option Value)} {oc17 kV17 dc17 pm17 cd17 ct17 : Value}
  {f18 : Addr} {od18 an18 : Option Addr} {sl18 : Array (Option Value)} {oc18 kV18 dc18 pm18 cd18 ct18 : Value}
  {f19 : Addr} {od19 an19 : Option Addr} {sl19 : Array (Option Value)} {oc19 kV19 dc19 pm19 cd19 ct19 : Value}
  {f20 : Addr} {od20 an20 : Option Addr} {sl20 : Array (Option Value)} {oc20 kV20 dc20 pm20 cd20 ct20 : Value}
  {f21 : Addr} {od21 an21 : Option Addr} {sl21 : Array (Option Value)} {oc21 kV21 dc21 pm21 cd21 ct21 : Value}
  {f22 : Addr} {od22 an22 : Option Addr} {sl22 : Array (Option Value)} {oc22 kV22 dc22 pm22 cd22 ct22 : Value}
  {f23 : Addr} {od23 an23 : Option Addr} {sl23 : Array (Option Value)} {oc23 kV23 dc23 pm23 cd23 ct23 : Value}
  {f24 : Addr} {od24 an24 : Option Addr} {sl24 : Array (Option Value)} {oc24 kV24 dc24 pm24 cd24 ct24 : Value}
  {f25 : Addr} {od25 an25 : Option Addr} {sl25 : Array (Option Value)} {oc25 kV25 dc25 pm25 cd25 ct25 : Value}
  {f26 : Addr} {od26 an26 : Option Addr} {sl26 : Array (Option Value)} {oc26 kV26 dc26 pm26 cd26 ct26 : Value}
  {f27 : Addr} {od27 an27 : Option Addr} {sl27 : Array (Option Value)} {oc27 kV27 dc27 pm27 cd27 ct27 : Value}
  {tCMOST_COLUMNS : Tok}
  {fCNOUGHT : Addr} {dCNOUGHT : Option Addr} {tCNOUGHT uCNOUGHT : Tok} {nCNOUGHT : Nat} {sCNOUGHT : Array (Option Value)}
  {fCONE : Addr} {dCONE : Option Addr} {tCONE uCONE : Tok} {nCONE : Nat} {sCONE : Array (Option Value)}
  (aX_Plane : PySem.W.nsIn K mainGlobals "Plane" = some (some (.ref C_Plane)))
  (aX_State : PySem.W.nsIn K mainGlobals "State" = some (some (.ref C_State)))
  (a0 : PySem.W.nsIn K mainGlobals "is_whole" = some (some (.ref f0))) (l0 : K.lookup f0 = some ⟨oc0, od0, .func (PySem.W.fnOf "is_whole" "is_whole" (zI s_is_whole) (zG s_is_whole) (zC s_is_whole) .none kV0 dc0 pm0 an0 cd0 ct0), sl0⟩) (c0 : PySem.W.codeIn K cd0 "is_whole" = true) (k0 : PySem.W.keepIn K (.ref f0) = true)
  (a1 : PySem.W.nsIn K mainGlobals "greatest_common" = some (some (.ref f1))) (l1 : K.lookup f1 = some ⟨oc1, od1, .func (PySem.W.fnOf "greatest_common" "greatest_common" (zI s_greatest_common) (zG s_greatest_common) (zC s_greatest_common) .none kV1 dc1 pm1 an1 cd1 ct1), sl1⟩) (c1 : PySem.W.codeIn K cd1 "greatest_common" = true) (k1 : PySem.W.keepIn K (.ref f1) = true)
  (a2 : PySem.W.nsIn K mainGlobals "is_ratio" = some (some (.ref f2))) (l2 : K.lookup f2 = some ⟨oc2, od2, .func (PySem.W.fnOf "is_ratio" "is_ratio" (zI s_is_ratio) (zG s_is_ratio) (zC s_is_ratio) .none kV2 dc2 pm2 an2 cd2 ct2), sl2⟩) (c2 : PySem.W.codeIn K cd2 "is_ratio" = true) (k2 : PySem.W.keepIn K (.ref f2) = true)
  (a3 : PySem.W.nsIn K mainGlobals "less" = some (some (.ref f3))) (l3 : K.lookup f3 = some ⟨oc3, od3, .func (PySem.W.fnOf "less" "less" (zI s_less) (zG s_less) (zC s_less) .none kV3 dc3 pm3 an3 cd3 ct3), sl3⟩) (c3 : PySem.W.codeIn K cd3 "less" = true) (k3 : PySem.W.keepIn K (.ref f3) = true)
  (a4 : PySem.W.nsIn K mainGlobals "is_row" = some (some (.ref f4))) (l4 : K.lookup f4 = some ⟨oc4, od4, .func (PySem.W.fnOf "is_row" "is_row" (zI s_is_row) (zG s_is_row) (zC s_is_row) .none kV4 dc4 pm4 an4 cd4 ct4), sl4⟩) (c4 : PySem.W.codeIn K cd4 "is_row" = true) (k4 : PySem.W.keepIn K (.ref f4) = true)
  (a5 : PySem.W.nsIn K mainGlobals "is_wide" = some (some (.ref f5))) (l5 : K.lookup f5 = some ⟨oc5, od5, .func (PySem.W.fnOf "is_wide" "is_wide" (zI s_is_wide) (zG s_is_wide) (zC s_is_wide) .none kV5 dc5 pm5 an5 cd5 ct5), sl5⟩) (c5 : PySem.W.codeIn K cd5 "is_wide" = true) (k5 : PySem.W.keepIn K (.ref f5) = true)
  (a6 : PySem.W.nsIn K mainGlobals "is_weight" = some (some (.ref f6))) (l6 : K.lookup f6 = some ⟨oc6, od6, .func (PySem.W.fnOf "is_weight" "is_weight" (zI s_is_weight) (zG s_is_weight) (zC s_is_weight) .none kV6 dc6 pm6 an6 cd6 ct6), sl6⟩) (c6 : PySem.W.codeIn K cd6 "is_weight" = true) (k6 : PySem.W.keepIn K (.ref f6) = true)
  (a7 : PySem.W.nsIn K mainGlobals "is_point" = some (some (.ref f7))) (l7 : K.lookup f7 = some ⟨oc7, od7, .func (PySem.W.fnOf "is_point" "is_point" (zI s_is_point) (zG s_is_point) (zC s_is_point) .none kV7 dc7 pm7 an7 cd7 ct7), sl7⟩) (c7 : PySem.W.codeIn K cd7 "is_point" = true) (k7 : PySem.W.keepIn K (.ref f7) = true)
  (a8 : PySem.W.findIn K (.ref C_State) "__init__" = some (some (.ref f8))) (l8 : K.lookup f8 = some ⟨oc8, od8, .func (PySem.W.fnOf "__init__" "State.__init__" (zI s_State___init__) (zG s_State___init__) (zC s_State___init__) .none kV8 dc8 pm8 an8 cd8 ct8), sl8⟩) (c8 : PySem.W.codeIn K cd8 "State.__init__" = true) (k8 : PySem.W.keepIn K (.ref f8) = true)
  (x_fn8 : PySem.W.isFn K (.ref f8) = true)
  (a9 : PySem.W.findIn K (.ref C_Plane) "__init__" = some (some (.ref f9))) (l9 : K.lookup f9 = some ⟨oc9, od9, .func (PySem.W.fnOf "__init__" "Plane.__init__" (zI s_Plane___init__) (zG s_Plane___init__) (zC s_Plane___init__) .none kV9 dc9 pm9 an9 cd9 ct9), sl9⟩) (c9 : PySem.W.codeIn K cd9 "Plane.__init__" = true) (k9 : PySem.W.keepIn K (.ref f9) = true)
  (x_fn9 : PySem.W.isFn K (.ref f9) = true)
  (a10 : PySem.W.findIn K (.ref C_Plane) "lay" = some (some (.ref f10))) (l10 : K.lookup f10 = some ⟨oc10, od10, .func (PySem.W.fnOf "lay" "Plane.lay" (zI s_Plane_lay) (zG s_Plane_lay) (zC s_Plane_lay) (.ref T10) kV10 dc10 pm10 an10 cd10 ct10), sl10⟩) (c10 : PySem.W.codeIn K cd10 "Plane.lay" = true) (k10 : PySem.W.keepIn K (.ref f10) = true)
  (x_fn10 : PySem.W.isFn K (.ref f10) = true)
  (lT10 : K.lookup T10 = some ⟨.type "tuple", dT10, .seq #[.none] nT10, sT10⟩)
  (a11 : PySem.W.findIn K (.ref C_Plane) "take" = some (some (.ref f11))) (l11 : K.lookup f11 = some ⟨oc11, od11, .func (PySem.W.fnOf "take" "Plane.take" (zI s_Plane_take) (zG s_Plane_take) (zC s_Plane_take) .none kV11 dc11 pm11 an11 cd11 ct11), sl11⟩) (c11 : PySem.W.codeIn K cd11 "Plane.take" = true) (k11 : PySem.W.keepIn K (.ref f11) = true)
  (x_fn11 : PySem.W.isFn K (.ref f11) = true)
  (a12 : PySem.W.nsIn K mainGlobals "with_row" = some (some (.ref f12))) (l12 : K.lookup f12 = some ⟨oc12, od12, .func (PySem.W.fnOf "with_row" "with_row" (zI s_with_row) (zG s_with_row) (zC s_with_row) .none kV12 dc12 pm12 an12 cd12 ct12), sl12⟩) (c12 : PySem.W.codeIn K cd12 "with_row" = true) (k12 : PySem.W.keepIn K (.ref f12) = true)
  (a13 : PySem.W.findIn K (.ref C_Plane) "points" = some (some (.ref f13))) (l13 : K.lookup f13 = some ⟨oc13, od13, .func (PySem.W.fnOf "points" "Plane.points" (zI s_Plane_points) (zG s_Plane_points) (zC s_Plane_points) .none kV13 dc13 pm13 an13 cd13 ct13), sl13⟩) (c13 : PySem.W.codeIn K cd13 "Plane.points" = true) (k13 : PySem.W.keepIn K (.ref f13) = true)
  (x_fn13 : PySem.W.isFn K (.ref f13) = true)
  (a14 : PySem.W.findIn K (.ref C_Plane) "width" = some (some (.ref f14))) (l14 : K.lookup f14 = some ⟨oc14, od14, .func (PySem.W.fnOf "width" "Plane.width" (zI s_Plane_width) (zG s_Plane_width) (zC s_Plane_width) .none kV14 dc14 pm14 an14 cd14 ct14), sl14⟩) (c14 : PySem.W.codeIn K cd14 "Plane.width" = true) (k14 : PySem.W.keepIn K (.ref f14) = true)
  (x_fn14 : PySem.W.isFn K (.ref f14) = true)
  (a15 : PySem.W.nsIn K mainGlobals "_law_cell" = some (some (.ref f15))) (l15 : K.lookup f15 = some ⟨oc15, od15, .func (PySem.W.fnOf "_law_cell" "_law_cell" (zI s__law_cell) (zG s__law_cell) (zC s__law_cell) .none kV15 dc15 pm15 an15 cd15 ct15), sl15⟩) (c15 : PySem.W.codeIn K cd15 "_law_cell" = true) (k15 : PySem.W.keepIn K (.ref f15) = true)
  (a16 : PySem.W.nsIn K mainGlobals "_law_mixed" = some (some (.ref f16))) (l16 : K.lookup f16 = some ⟨oc16, od16, .func (PySem.W.fnOf "_law_mixed" "_law_mixed" (zI s__law_mixed) (zG s__law_mixed) (zC s__law_mixed) .none kV16 dc16 pm16 an16 cd16 ct16), sl16⟩) (c16 : PySem.W.codeIn K cd16 "_law_mixed" = true) (k16 : PySem.W.keepIn K (.ref f16) = true)
  (a17 : PySem.W.nsIn K mainGlobals "_law_lowest" = some (some (.ref f17))) (l17 : K.lookup f17 = some ⟨oc17, od17, .func (PySem.W.fnOf "_law_lowest" "_law_lowest" (zI s__law_lowest) (zG s__law_lowest) (zC s__law_lowest) .none kV17 dc17 pm17 an17 cd17 ct17), sl17⟩) (c17 : PySem.W.codeIn K cd17 "_law_lowest" = true) (k17 : PySem.W.keepIn K (.ref f17) = true)
  (a18 : PySem.W.nsIn K mainGlobals "_law_plus" = some (some (.ref f18))) (l18 : K.lookup f18 = some ⟨oc18, od18, .func (PySem.W.fnOf "_law_plus" "_law_plus" (zI s__law_plus) (zG s__law_plus) (zC s__law_plus) .none kV18 dc18 pm18 an18 cd18 ct18), sl18⟩) (c18 : PySem.W.codeIn K cd18 "_law_plus" = true) (k18 : PySem.W.keepIn K (.ref f18) = true)
  (a19 : PySem.W.nsIn K mainGlobals "_law_ratio" = some (some (.ref f19))) (l19 : K.lookup f19 = some ⟨oc19, od19, .func (PySem.W.fnOf "_law_ratio" "_law_ratio" (zI s__law_ratio) (zG s__law_ratio) (zC s__law_ratio) .none kV19 dc19 pm19 an19 cd19 ct19), sl19⟩) (c19 : PySem.W.codeIn K cd19 "_law_ratio" = true) (k19 : PySem.W.keepIn K (.ref f19) = true)
  (a20 : PySem.W.nsIn K mainGlobals "_law_row" = some (some (.ref f20))) (l20 : K.lookup f20 = some ⟨oc20, od20, .func (PySem.W.fnOf "_law_row" "_law_row" (zI s__law_row) (zG s__law_row) (zC s__law_row) .none kV20 dc20 pm20 an20 cd20 ct20), sl20⟩) (c20 : PySem.W.codeIn K cd20 "_law_row" = true) (k20 : PySem.W.keepIn K (.ref f20) = true)
  (a21 : PySem.W.nsIn K mainGlobals "_law_point" = some (some (.ref f21))) (l21 : K.lookup f21 = some ⟨oc21, od21, .func (PySem.W.fnOf "_law_point" "_law_point" (zI s__law_point) (zG s__law_point) (zC s__law_point) .none kV21 dc21 pm21 an21 cd21 ct21), sl21⟩) (c21 : PySem.W.codeIn K cd21 "_law_point" = true) (k21 : PySem.W.keepIn K (.ref f21) = true)
  (a22 : PySem.W.nsIn K mainGlobals "_law_fresh" = some (some (.ref f22))) (l22 : K.lookup f22 = some ⟨oc22, od22, .func (PySem.W.fnOf "_law_fresh" "_law_fresh" (zI s__law_fresh) (zG s__law_fresh) (zC s__law_fresh) .none kV22 dc22 pm22 an22 cd22 ct22), sl22⟩) (c22 : PySem.W.codeIn K cd22 "_law_fresh" = true) (k22 : PySem.W.keepIn K (.ref f22) = true)
  (a23 : PySem.W.nsIn K mainGlobals "_law_alike" = some (some (.ref f23))) (l23 : K.lookup f23 = some ⟨oc23, od23, .func (PySem.W.fnOf "_law_alike" "_law_alike" (zI s__law_alike) (zG s__law_alike) (zC s__law_alike) .none kV23 dc23 pm23 an23 cd23 ct23), sl23⟩) (c23 : PySem.W.codeIn K cd23 "_law_alike" = true) (k23 : PySem.W.keepIn K (.ref f23) = true)
  (a24 : PySem.W.nsIn K mainGlobals "_law_stands" = some (some (.ref f24))) (l24 : K.lookup f24 = some ⟨oc24, od24, .func (PySem.W.fnOf "_law_stands" "_law_stands" (zI s__law_stands) (zG s__law_stands) (zC s__law_stands) .none kV24 dc24 pm24 an24 cd24 ct24), sl24⟩) (c24 : PySem.W.codeIn K cd24 "_law_stands" = true) (k24 : PySem.W.keepIn K (.ref f24) = true)
  (a25 : PySem.W.nsIn K mainGlobals "_law_laid" = some (some (.ref f25))) (l25 : K.lookup f25 = some ⟨oc25, od25, .func (PySem.W.fnOf "_law_laid" "_law_laid" (zI s__law_laid) (zG s__law_laid) (zC s__law_laid) .none kV25 dc25 pm25 an25 cd25 ct25), sl25⟩) (c25 : PySem.W.codeIn K cd25 "_law_laid" = true) (k25 : PySem.W.keepIn K (.ref f25) = true)
  (a26 : PySem.W.nsIn K mainGlobals "_law_taken" = some (some (.ref f26))) (l26 : K.lookup f26 = some ⟨oc26, od26, .func (PySem.W.fnOf "_law_taken" "_law_taken" (zI s__law_taken) (zG s__law_taken) (zC s__law_taken) .none kV26 dc26 pm26 an26 cd26 ct26), sl26⟩) (c26 : PySem.W.codeIn K cd26 "_law_taken" = true) (k26 : PySem.W.keepIn K (.ref f26) = true)
  (a27 : PySem.W.nsIn K mainGlobals "law" = some (some (.ref f27))) (l27 : K.lookup f27 = some ⟨oc27, od27, .func (PySem.W.fnOf "law" "law" (zI s_law) (zG s_law) (zC s_law) .none kV27 dc27 pm27 an27 cd27 ct27), sl27⟩) (c27 : PySem.W.codeIn K cd27 "law" = true) (k27 : PySem.W.keepIn K (.ref f27) = true)
  (aCMOST_COLUMNS : PySem.W.nsIn K mainGlobals "MOST_COLUMNS" = some (some (.int 12 tCMOST_COLUMNS)))
  (aCNOUGHT : PySem.W.nsIn K mainGlobals "NOUGHT" = some (some (.ref fCNOUGHT))) (lCNOUGHT : K.lookup fCNOUGHT = some ⟨.type "tuple", dCNOUGHT, .seq #[.int 0 tCNOUGHT, .int 1 uCNOUGHT] nCNOUGHT, sCNOUGHT⟩)
  (aCONE : PySem.W.nsIn K mainGlobals "ONE" = some (some (.ref fCONE))) (lCONE : K.lookup fCONE = some ⟨.type "tuple", dCONE, .seq #[.int 1 tCONE, .int 1 uCONE] nCONE, sCONE⟩)
  (z_abs : PySem.W.nsIn K mainGlobals "abs" = some none)
  (z_all : PySem.W.nsIn K mainGlobals "all" = some none)
  (z_bool : PySem.W.nsIn K mainGlobals "bool" = some none)
  (z_divmod : PySem.W.nsIn K mainGlobals "divmod" = some none)
  (z_int : PySem.W.nsIn K mainGlobals "int" = some none)
  (z_isinstance : PySem.W.nsIn K mainGlobals "isinstance" = some none)
  (z_len : PySem.W.nsIn K mainGlobals "len" = some none)
  (z_list : PySem.W.nsIn K mainGlobals "list" = some none)
  (z_min : PySem.W.nsIn K mainGlobals "min" = some none)
  (z_range : PySem.W.nsIn K mainGlobals "range" = some none)
  (z_tuple : PySem.W.nsIn K mainGlobals "tuple" = some none)
  (z_zip : PySem.W.nsIn K mainGlobals "zip" = some none)
  (x_pg_Plane : PySem.W.plainGet K C_Plane Str.empty = true) (x_hd_Plane : PySem.W.hasDictIn K C_Plane = true) (x_po_Plane : PySem.W.plainOver K C_Plane = true) (x_sa_Plane : PySem.W.findIn K (.ref C_Plane) "__setattr__" = some (some (.builtin "object.__setattr__")))
  (x_pg_State : PySem.W.plainGet K C_State Str.empty = true) (x_hd_State : PySem.W.hasDictIn K C_State = true) (x_po_State : PySem.W.plainOver K C_State = true) (x_sa_State : PySem.W.findIn K (.ref C_State) "__setattr__" = some (some (.builtin "object.__setattr__")))
  (x_na_Plane_states : PySem.W.findIn K (.ref C_Plane) "states" = some none)
  (x_na_State_kept : PySem.W.findIn K (.ref C_State) "kept" = some none)
  (x_na_State_laid : PySem.W.findIn K (.ref C_State) "laid" = some none)
  (x_na_State_wide : PySem.W.findIn K (.ref C_State) "wide" = some none)
  (x_mk_Plane : PySem.W.makesIn K C_Plane = true) (x_kp_Plane : PySem.W.keepIn K (.ref C_Plane) = true)
  (x_mk_State : PySem.W.makesIn K C_State = true) (x_kp_State : PySem.W.keepIn K (.ref C_State) = true) :
  ∃ fd : FuncData, (∀ (s : Shared) (v : Value), BindsTo s fd ⟨[v], []⟩ [("_law_script", v)]) ∧ ∀ base : Heap, K.In base → base.Ns mainGlobals mg → FnOk P w K mg base CX0 10 fa fd ["_law_script"] (spLaw K) := by
 have e := hfa.symm.trans (PySem.W.mg_of X G a27)
 cases e
 have m0 := PySem.W.mg_of X G a0
 have F0 := yC (st := s_is_whole) l0 c0 k0
 have b0 := F0.binds (ps := ["thing"]) fun _ _ _ _ _ _ us hl => match us, hl with | [_], _ => rfl
 have m1 := PySem.W.mg_of X G a1
 have F1 := yC (st := s_greatest_common) l1 c1 k1
 have b1 := F1.binds (ps := ["one", "other"]) fun _ _ _ _ _ _ us hl => match us, hl with | [_, _], _ => rfl
 have m2 := PySem.W.mg_of X G a2
 have F2 := yC (st := s_is_ratio) l2 c2 k2
 have b2 := F2.binds (ps := ["thing"]) fun _ _ _ _ _ _ us hl => match us, hl with | [_], _ => rfl
 have m3 := PySem.W.mg_of X G a3
 have F3 := yC (st := s_less) l3 c3 k3
 have b3 := F3.binds (ps := ["one", "other"]) fun _ _ _ _ _ _ us hl => match us, hl with | [_, _], _ => rfl
 have m4 := PySem.W.mg_of X G a4
 have F4 := yC (st := s_is_row) l4 c4 k4
 have b4 := F4.binds (ps := ["thing", "long"]) fun _ _ _ _ _ _ us hl => match us, hl with | [_, _], _ => rfl
 have m5 := PySem.W.mg_of X G a5
 have F5 := yC (st := s_is_wide) l5 c5 k5
 have b5 := F5.binds (ps := ["thing"]) fun _ _ _ _ _ _ us hl => match us, hl with | [_], _ => rfl
 have m6 := PySem.W.mg_of X G a6
 have F6 := yC (st := s_is_weight) l6 c6 k6
 have b6 := F6.binds (ps := ["thing"]) fun _ _ _ _ _ _ us hl => match us, hl with | [_], _ => rfl
 have m7 := PySem.W.mg_of X G a7
 have F7 := yC (st := s_is_point) l7 c7 k7
 have b7 := F7.binds (ps := ["thing", "wide"]) fun _ _ _ _ _ _ us hl => match us, hl with | [_, _], _ => rfl
 have F8 := yC (st := s_State___init__) l8 c8 k8
 have b8 := F8.binds (ps := ["self", "wide", "laid", "kept"]) fun _ _ _ _ _ _ us hl => match us, hl with | [_, _, _, _], _ => rfl
 have F9 := yC (st := s_Plane___init__) l9 c9 k9
 have b9 := F9.binds (ps := ["self", "wide"]) fun _ _ _ _ _ _ us hl => match us, hl with | [_, _], _ => rfl
 have F10 := funD_mk (st := s_Plane_lay) l10 c10 lT10 rfl
 have b10 : zV K _ ["self", "row", "want", "weight"] [] := fun s us KX hl => match us, (show us.length = 4 by simpa using hl) with | [_, _, _, _], _ => F10.bindsTo KX fun _ _ _ _ _ _ => ⟨_, rfl, rfl⟩
 have e10 : zV K _ ["self", "row", "want", "weight"] [.none] := fun s us KX hl => match us, (show us.length = 3 by simpa using hl) with | [_, _, _], _ => F10.bindsTo KX fun _ _ _ _ _ _ => ⟨_, rfl, rfl⟩
 have F11 := yC (st := s_Plane_take) l11 c11 k11
 have b11 := F11.binds (ps := ["self", "number"]) fun _ _ _ _ _ _ us hl => match us, hl with | [_, _], _ => rfl
 have m12 := PySem.W.mg_of X G a12
 have F12 := yC (st := s_with_row) l12 c12 k12
 have b12 := F12.binds (ps := ["point", "row"]) fun _ _ _ _ _ _ us hl => match us, hl with | [_, _], _ => rfl
 have F13 := yC (st := s_Plane_points) l13 c13 k13
 have b13 := F13.binds (ps := ["self"]) fun _ _ _ _ _ _ us hl => match us, hl with | [_], _ => rfl
 have F14 := yC (st := s_Plane_width) l14 c14 k14
 have b14 := F14.binds (ps := ["self"]) fun _ _ _ _ _ _ us hl => match us, hl with | [_], _ => rfl
 have m15 := PySem.W.mg_of X G a15
 have F15 := yC (st := s__law_cell) l15 c15 k15
 have b15 := F15.binds (ps := ["_law_script", "_law_k"]) fun _ _ _ _ _ _ us hl => match us, hl with | [_, _], _ => rfl
 have m16 := PySem.W.mg_of X G a16
 have F16 := yC (st := s__law_mixed) l16 c16 k16
 have b16 := F16.binds (ps := ["_law_cell_here", "_law_k"]) fun _ _ _ _ _ _ us hl => match us, hl with | [_, _], _ => rfl
 have m17 := PySem.W.mg_of X G a17
 have F17 := yC (st := s__law_lowest) l17 c17 k17
 have b17 := F17.binds (ps := ["_law_top", "_law_bottom"]) fun _ _ _ _ _ _ us hl => match us, hl with | [_, _], _ => rfl
 have m18 := PySem.W.mg_of X G a18
 have F18 := yC (st := s__law_plus) l18 c18 k18
 have b18 := F18.binds (ps := ["_law_one", "_law_other"]) fun _ _ _ _ _ _ us hl => match us, hl with | [_, _], _ => rfl
 have m19 := PySem.W.mg_of X G a19
 have F19 := yC (st := s__law_ratio) l19 c19 k19
 have b19 := F19.binds (ps := ["_law_number"]) fun _ _ _ _ _ _ us hl => match us, hl with | [_], _ => rfl
 have m20 := PySem.W.mg_of X G a20
 have F20 := yC (st := s__law_row) l20 c20 k20
 have b20 := F20.binds (ps := ["_law_number", "_law_wide"]) fun _ _ _ _ _ _ us hl => match us, hl with | [_, _], _ => rfl
 have m21 := PySem.W.mg_of X G a21
 have F21 := yC (st := s__law_point) l21 c21 k21
 have b21 := F21.binds (ps := ["_law_number", "_law_wide", "_law_lean"]) fun _ _ _ _ _ _ us hl => match us, hl with | [_, _, _], _ => rfl
 have m22 := PySem.W.mg_of X G a22
 have F22 := yC (st := s__law_fresh) l22 c22 k22
 have b22 := F22.binds (ps := ["_law_wide"]) fun _ _ _ _ _ _ us hl => match us, hl with | [_], _ => rfl
 have m23 := PySem.W.mg_of X G a23
 have F23 := yC (st := s__law_alike) l23 c23 k23
 have b23 := F23.binds (ps := ["_law_found", "_law_due"]) fun _ _ _ _ _ _ us hl => match us, hl with | [_, _], _ => rfl
 have m24 := PySem.W.mg_of X G a24
 have F24 := yC (st := s__law_stands) l24 c24 k24
 have b24 := F24.binds (ps := ["_law_plane", "_law_state"]) fun _ _ _ _ _ _ us hl => match us, hl with | [_, _], _ => rfl
 have m25 := PySem.W.mg_of X G a25
 have F25 := yC (st := s__law_laid) l25 c25 k25
 have b25 := F25.binds (ps := ["_law_plane", "_law_state", "_law_number", "_law_lean"]) fun _ _ _ _ _ _ us hl => match us, hl with | [_, _, _, _], _ => rfl
 have m26 := PySem.W.mg_of X G a26
 have F26 := yC (st := s__law_taken) l26 c26 k26
 have b26 := F26.binds (ps := ["_law_plane", "_law_state", "_law_number"]) fun _ _ _ _ _ _ us hl => match us, hl with | [_, _, _], _ => rfl
 have m27 := PySem.W.mg_of X G a27
 have F27 := yC (st := s_law) l27 c27 k27
 have m_abs := PySem.W.mg_none_of X G z_abs
 have m_all := PySem.W.mg_none_of X G z_all
 have m_bool := PySem.W.mg_none_of X G z_bool
 have m_divmod := PySem.W.mg_none_of X G z_divmod
 have m_int := PySem.W.mg_none_of X G z_int
 have m_isinstance := PySem.W.mg_none_of X G z_isinstance
 have m_len := PySem.W.mg_none_of X G z_len
 have m_list := PySem.W.mg_none_of X G z_list
 have m_min := PySem.W.mg_none_of X G z_min
 have m_range := PySem.W.mg_none_of X G z_range
 have m_tuple := PySem.W.mg_none_of X G z_tuple
 have m_zip := PySem.W.mg_none_of X G z_zip
 have hC_MOST_COLUMNS : CstAt K mg "MOST_COLUMNS" (.int 12) := ⟨_, (.int 12), PySem.W.mg_of X G aCMOST_COLUMNS, ⟨tCMOST_COLUMNS, rfl⟩, fun H W => rfl⟩
 have hC_NOUGHT := cst_pair (PySem.W.mg_of X G aCNOUGHT) lCNOUGHT
 have hC_ONE := cst_pair (PySem.W.mg_of X G aCONE) lCONE
 have mC_Plane := PySem.W.mg_of X G aX_Plane
 have mC_State := PySem.W.mg_of X G aX_State
 refine ⟨PySem.W.fnOf "law" "law" (zI s_law) (zG s_law) (zC s_law) .none kV27 dc27 pm27 an27 cd27 ct27, fun s v => .of_eq rfl, fun base _ _ => ?_⟩
 have O0 := ok_is_whole (P := P) (w := w) (mg := mg) (base := base) ht F0.g m_bool m_int m_isinstance
 have O1 := ok_greatest_common (P := P) (w := w) (mg := mg) (base := base) ht F1.g
 have O2 := ok_is_ratio (P := P) (w := w) (mg := mg) (base := base) ht F2.g O0 b0 k0 m0 O1 b1 k1 m1 m_abs m_isinstance m_len m_tuple
 have O3 := ok_less (P := P) (w := w) (mg := mg) (base := base) ht F3.g
 have O4 := ok_is_row (P := P) (w := w) (mg := mg) (base := base) ht F4.g O2 b2 k2 m2 m_all m_isinstance m_len m_list
 have O5 := ok_is_wide (P := P) (w := w) (mg := mg) (base := base) ht F5.g O0 b0 k0 m0 hC_MOST_COLUMNS
 have O6 := ok_is_weight (P := P) (w := w) (mg := mg) (base := base) ht F6.g O2 b2 k2 m2 O3 b3 k3 m3 hC_NOUGHT
 have O7 := ok_is_point (P := P) (w := w) (mg := mg) (base := base) ht F7.g O4 b4 k4 m4 O2 b2 k2 m2 O6 b6 k6 m6 m_isinstance m_len m_tuple
 have O8 := ok_State___init__ (P := P) (w := w) (mg := mg) (base := base) ht F8.g mC_State ⟨x_pg_State, x_hd_State, x_po_State, x_sa_State⟩ x_na_State_kept x_na_State_laid x_na_State_wide
 have O9 := ok_Plane___init__ (P := P) (w := w) (mg := mg) (base := base) ht F9.g O5 b5 k5 m5 O8 b8 mC_Plane mC_State ⟨x_pg_Plane, x_hd_Plane, x_po_Plane, x_sa_Plane⟩ ⟨x_pg_State, x_hd_State, x_po_State, x_sa_State⟩ x_na_Plane_states ⟨x_mk_State, a8, x_fn8, x_kp_State⟩
 have O10 := ok_Plane_lay (P := P) (w := w) (mg := mg) (base := base) ht F10.g O7 b7 k7 m7 O8 b8 m_list hC_ONE mC_Plane mC_State ⟨x_pg_Plane, x_hd_Plane, x_po_Plane, x_sa_Plane⟩ ⟨x_pg_State, x_hd_State, x_po_State, x_sa_State⟩ x_na_Plane_states x_na_State_kept x_na_State_laid x_na_State_wide ⟨x_mk_State, a8, x_fn8, x_kp_State⟩
 have O11 := ok_Plane_take (P := P) (w := w) (mg := mg) (base := base) ht F11.g O0 b0 k0 m0 O8 b8 mC_Plane mC_State ⟨x_pg_Plane, x_hd_Plane, x_po_Plane, x_sa_Plane⟩ ⟨x_pg_State, x_hd_State, x_po_State, x_sa_State⟩ x_na_Plane_states x_na_State_kept x_na_State_laid x_na_State_wide ⟨x_mk_State, a8, x_fn8, x_kp_State⟩
 have O12 := ok_with_row (P := P) (w := w) (mg := mg) (base := base) ht F12.g
 have O13 := ok_Plane_points (P := P) (w := w) (mg := mg) (base := base) ht F13.g O12 b12 k12 m12 m_list mC_Plane mC_State ⟨x_pg_Plane, x_hd_Plane, x_po_Plane, x_sa_Plane⟩ ⟨x_pg_State, x_hd_State, x_po_State, x_sa_State⟩ x_na_Plane_states x_na_State_kept
 have O14 := ok_Plane_width (P := P) (w := w) (mg := mg) (base := base) ht F14.g mC_Plane mC_State ⟨x_pg_Plane, x_hd_Plane, x_po_Plane, x_sa_Plane⟩ ⟨x_pg_State, x_hd_State, x_po_State, x_sa_State⟩ x_na_Plane_states x_na_State_wide
 have O15 := ok__law_cell (P := P) (w := w) (mg := mg) (base := base) ht F15.g m_len
 have O16 := ok__law_mixed (P := P) (w := w) (mg := mg) (base := base) ht F16.g m_range
 have O17 := ok__law_lowest (P := P) (w := w) (mg := mg) (base := base) ht F17.g m_abs
 have O18 := ok__law_plus (P := P) (w := w) (mg := mg) (base := base) ht F18.g O17 b17 k17 m17
 have O19 := ok__law_ratio (P := P) (w := w) (mg := mg) (base := base) ht F19.g O17 b17 k17 m17 m_divmod
 have O20 := ok__law_row (P := P) (w := w) (mg := mg) (base := base) ht F20.g O19 b19 k19 m19 O16 b16 k16 m16 m_range
 have O21 := ok__law_point (P := P) (w := w) (mg := mg) (base := base) ht F21.g O20 b20 k20 m20 O18 b18 k18 m18 O19 b19 k19 m19 m_divmod
 have O22 := ok__law_fresh (P := P) (w := w) (mg := mg) (base := base) ht F22.g
 have O23 := ok__law_alike (P := P) (w := w) (mg := mg) (base := base) ht F23.g m_all m_bool m_int m_isinstance m_len m_list m_tuple m_zip b23 k23 m23 7
 have O24 := ok__law_stands (P := P) (w := w) (mg := mg) (base := base) ht F24.g O23 b23 k23 m23 O14 b14 O13 b13 mC_Plane ⟨x_pg_Plane, x_hd_Plane, x_po_Plane, x_sa_Plane⟩ ⟨a14, x_fn14, k14⟩ ⟨a13, x_fn13, k13⟩
 have O25 := ok__law_laid (P := P) (w := w) (mg := mg) (base := base) ht F25.g O21 b21 k21 m21 O10 b10 e10 O23 b23 k23 m23 m_len m_list mC_Plane ⟨x_pg_Plane, x_hd_Plane, x_po_Plane, x_sa_Plane⟩ ⟨a10, x_fn10, k10⟩
 have O26 := ok__law_taken (P := P) (w := w) (mg := mg) (base := base) ht F26.g O11 b11 m_len mC_Plane ⟨x_pg_Plane, x_hd_Plane, x_po_Plane, x_sa_Plane⟩ ⟨a11, x_fn11, k11⟩
 have O27 := ok_law (P := P) (w := w) (mg := mg) (base := base) ht F27.g O15 b15 k15 m15 O9 b9 O22 b22 k22 m22 O16 b16 k16 m16 O26 b26 k26 m26 O25 b25 k25 m25 O13 b13 O23 b23 k23 m23 O24 b24 k24 m24 m_divmod m_len m_min m_range mC_Plane ⟨x_pg_Plane, x_hd_Plane, x_po_Plane, x_sa_Plane⟩ ⟨a13, x_fn13, k13⟩ ⟨x_mk_Plane, a9, x_fn9, x_kp_Plane⟩
 exact O27.imp law_sp
theorem walk {l : PySem.W.OpenLaw} {q : Program} {loose : List Str} {XP : (Str → Option Value) → Heap → Prop} {YP : World → Heap → Prop} {d : DefRec} {K : Params → PySem.W.Frag} (hn : l.most = some 63) (hdf : d.params.defaults = [])
  (hY : ∀ (w : World) (h : Heap), YP w h → (K w.params).In h)
  (F : ∀ (w : World) (mg : Str → Option Value) (fa : Addr) (h : Heap), (K w.params).In h → h.Ns mainGlobals mg → mg d.name = some (.ref fa) →
   ∃ fd : FuncData, (∀ (s : Shared) (u : Value), BindsTo s fd ⟨[u], []⟩ [("_law_script", u)]) ∧ ∀ base : Heap, (K w.params).In base → base.Ns mainGlobals mg → FnOk l.prog w (K w.params) mg base CX0 10 fa fd ["_law_script"] (spLaw (K w.params)))
  (hq : PyProof.Rows.importsNone q = true) :
  PySem.W.WalkO q loose XP YP l.row.toRowW d [] (fun f vs => PySem.call f vs) :=
 L2.walk_of (n := 63) (k := 10) (x := "_law_script") (CX := fun _ => CX0) (sp := fun w => spLaw (K w.params)) hn (by decide) hdf ⟨rfl, by decide, by decide⟩ hY F hq (fun _ _ a ns hl hz hO hS => ⟨a, ns, rfl, hO, hS, hl, hz, fun _ => rfl⟩) fun _ _ _ _ _ z => z
end Tm
namespace Tm
open PySem PySem.Spec PyProof.Rows L2 Np
noncomputable def KK : PySem.Params → PySem.W.Frag := fun P =>
 (nat_lit 3, ⟨(.type "dict"), none, (.dict [⟨PySem.PyData.keyHash P "__name__", (.str "__name__" 165), (.str "law_nearplane_k51_laid_and_taken" 498)⟩, ⟨PySem.PyData.keyHash P "__doc__", (.str "__doc__" 166), .none⟩, ⟨PySem.PyData.keyHash P "__package__", (.str "__package__" 167), .none⟩, ⟨PySem.PyData.keyHash P "__loader__", (.str "__loader__" 168), (.builtin "__main__.__loader__#opaque")⟩, ⟨PySem.PyData.keyHash P "__spec__", (.str "__spec__" 169), .none⟩, ⟨PySem.PyData.keyHash P "__annotations__", (.str "__annotations__" 170), (.ref 6)⟩, ⟨PySem.PyData.keyHash P "__builtins__", (.str "__builtins__" 171), (.ref 4)⟩, ⟨PySem.PyData.keyHash P "__file__", (.str "__file__" 173), (.str "/claim/cut.py" 172)⟩, ⟨PySem.PyData.keyHash P "__cached__", (.str "__cached__" 174), .none⟩, ⟨PySem.PyData.keyHash P "_wall", (.str "_wall" 193), (.ref 21)⟩, ⟨PySem.PyData.keyHash P "PlaneError", (.str "PlaneError" 213), (.ref 31)⟩, ⟨PySem.PyData.keyHash P "NoPoint", (.str "NoPoint" 229), (.ref 44)⟩, ⟨PySem.PyData.keyHash P "NoColumn", (.str "NoColumn" 245), (.ref 56)⟩, ⟨PySem.PyData.keyHash P "NOUGHT", (.str "NOUGHT" 250), (.ref 59)⟩, ⟨PySem.PyData.keyHash P "ONE", (.str "ONE" 253), (.ref 60)⟩, ⟨PySem.PyData.keyHash P "is_whole", (.str "is_whole" 260), (.ref 67)⟩, ⟨PySem.PyData.keyHash P "is_ratio", (.str "is_ratio" 267), (.ref 74)⟩, ⟨PySem.PyData.keyHash P "greatest_common", (.str "greatest_common" 278), (.ref 81)⟩, ⟨PySem.PyData.keyHash P "less", (.str "less" 286), (.ref 88)⟩, ⟨PySem.PyData.keyHash P "is_row", (.str "is_row" 294), (.ref 93)⟩, ⟨PySem.PyData.keyHash P "MOST_COLUMNS", (.str "MOST_COLUMNS" 298), (.int (12) 297)⟩, ⟨PySem.PyData.keyHash P "is_wide", (.str "is_wide" 305), (.ref 100)⟩, ⟨PySem.PyData.keyHash P "is_point", (.str "is_point" 313), (.ref 107)⟩, ⟨PySem.PyData.keyHash P "is_weight", (.str "is_weight" 320), (.ref 114)⟩, ⟨PySem.PyData.keyHash P "State", (.str "State" 355), (.ref 131)⟩, ⟨PySem.PyData.keyHash P "Plane", (.str "Plane" 489), (.ref 247)⟩, ⟨PySem.PyData.keyHash P "with_row", (.str "with_row" 497), (.ref 258)⟩, ⟨PySem.PyData.keyHash P "_law_cell", (.str "_law_cell" 507), (.ref 265)⟩, ⟨PySem.PyData.keyHash P "_law_mixed", (.str "_law_mixed" 518), (.ref 272)⟩, ⟨PySem.PyData.keyHash P "_law_lowest", (.str "_law_lowest" 528), (.ref 279)⟩, ⟨PySem.PyData.keyHash P "_law_plus", (.str "_law_plus" 536), (.ref 286)⟩, ⟨PySem.PyData.keyHash P "_law_ratio", (.str "_law_ratio" 545), (.ref 293)⟩, ⟨PySem.PyData.keyHash P "_law_row", (.str "_law_row" 555), (.ref 300)⟩, ⟨PySem.PyData.keyHash P "_law_point", (.str "_law_point" 567), (.ref 307)⟩, ⟨PySem.PyData.keyHash P "_law_fresh", (.str "_law_fresh" 574), (.ref 314)⟩, ⟨PySem.PyData.keyHash P "_law_alike", (.str "_law_alike" 580), (.ref 319)⟩, ⟨PySem.PyData.keyHash P "_law_stands", (.str "_law_stands" 588), (.ref 326)⟩, ⟨PySem.PyData.keyHash P "_law_laid", (.str "_law_laid" 603), (.ref 333)⟩, ⟨PySem.PyData.keyHash P "_law_taken", (.str "_law_taken" 613), (.ref 340)⟩, ⟨PySem.PyData.keyHash P "law", (.str "law" 628), (.ref 347)⟩].toArray 40), [].toArray⟩) ::
 (nat_lit 59, ⟨(.type "tuple"), none, (.seq [(.int (0) 248), (.int (1) 249)].toArray 0), [].toArray⟩) ::
 (nat_lit 60, ⟨(.type "tuple"), none, (.seq [(.int (1) 251), (.int (1) 252)].toArray 0), [].toArray⟩) ::
 (nat_lit 66, ⟨(.type "code"), none, (.fields [(.str "is_whole" 254), (.str "is_whole" 255), (.str "/claim/cut.py" 256), (.int (14) 0), (.int (1) 0), (.int (0) 0), (.int (0) 0), (.int (3) 0), (.ref 61), (.bool true), (.int (181) 0), (.ref 62), .none, (.ref 63), (.ref 64), (.ref 65), (.int (258) 0), (.int (14) 0), (.str "/claim/cut.py" 259)].toArray), [].toArray⟩) ::
 (nat_lit 67, ⟨(.type "function"), none, (.func (PySem.W.fnOf "is_whole" "is_whole" (zI s_is_whole) (zG s_is_whole) (zC s_is_whole) .none .none .none (.str "nearplane.ratios" 246) none (.ref 66) .none)), [].toArray⟩) ::
 (nat_lit 73, ⟨(.type "code"), none, (.fields [(.str "is_ratio" 261), (.str "is_ratio" 262), (.str "/claim/cut.py" 263), (.int (16) 0), (.int (1) 0), (.int (0) 0), (.int (0) 0), (.int (3) 0), (.ref 68), (.bool true), (.int (181) 0), (.ref 69), .none, (.ref 70), (.ref 71), (.ref 72), (.int (265) 0), (.int (16) 0), (.str "/claim/cut.py" 266)].toArray), [].toArray⟩) ::
 (nat_lit 74, ⟨(.type "function"), none, (.func (PySem.W.fnOf "is_ratio" "is_ratio" (zI s_is_ratio) (zG s_is_ratio) (zC s_is_ratio) .none .none .none (.str "nearplane.ratios" 246) none (.ref 73) .none)), [].toArray⟩) ::
 (nat_lit 80, ⟨(.type "code"), none, (.fields [(.str "greatest_common" 268), (.str "greatest_common" 269), (.str "/claim/cut.py" 270), (.int (22) 0), (.int (2) 0), (.int (0) 0), (.int (0) 0), (.int (3) 0), (.ref 75), (.bool true), (.int (181) 0), (.ref 76), .none, (.ref 77), (.ref 78), (.ref 79), (.int (276) 0), (.int (22) 0), (.str "/claim/cut.py" 277)].toArray), [].toArray⟩) ::
 (nat_lit 81, ⟨(.type "function"), none, (.func (PySem.W.fnOf "greatest_common" "greatest_common" (zI s_greatest_common) (zG s_greatest_common) (zC s_greatest_common) .none .none .none (.str "nearplane.ratios" 246) none (.ref 80) .none)), [].toArray⟩) ::
 (nat_lit 87, ⟨(.type "code"), none, (.fields [(.str "less" 279), (.str "less" 280), (.str "/claim/cut.py" 281), (.int (30) 0), (.int (2) 0), (.int (0) 0), (.int (0) 0), (.int (3) 0), (.ref 82), (.bool true), (.int (181) 0), (.ref 83), .none, (.ref 84), (.ref 85), (.ref 86), (.int (284) 0), (.int (30) 0), (.str "/claim/cut.py" 285)].toArray), [].toArray⟩) ::
 (nat_lit 88, ⟨(.type "function"), none, (.func (PySem.W.fnOf "less" "less" (zI s_less) (zG s_less) (zC s_less) .none .none .none (.str "nearplane.ratios" 246) none (.ref 87) .none)), [].toArray⟩) ::
 (nat_lit 92, ⟨(.type "code"), none, (.fields [(.str "is_row" 289), (.str "is_row" 290), (.str "/claim/cut.py" 291), (.int (33) 0), (.int (2) 0), (.int (0) 0), (.int (0) 0), (.int (3) 0), (.ref 89), (.bool true), (.int (181) 0), (.ref 90), .none, .none, .none, (.ref 91), (.int (292) 0), (.int (33) 0), (.str "/claim/cut.py" 293)].toArray), [].toArray⟩) ::
 (nat_lit 93, ⟨(.type "function"), none, (.func (PySem.W.fnOf "is_row" "is_row" (zI s_is_row) (zG s_is_row) (zC s_is_row) .none .none .none (.str "nearplane.rows" 287) none (.ref 92) .none)), [].toArray⟩) ::
 (nat_lit 99, ⟨(.type "code"), none, (.fields [(.str "is_wide" 299), (.str "is_wide" 300), (.str "/claim/cut.py" 301), (.int (39) 0), (.int (1) 0), (.int (0) 0), (.int (0) 0), (.int (3) 0), (.ref 94), (.bool true), (.int (181) 0), (.ref 95), .none, (.ref 96), (.ref 97), (.ref 98), (.int (303) 0), (.int (39) 0), (.str "/claim/cut.py" 304)].toArray), [].toArray⟩) ::
 (nat_lit 100, ⟨(.type "function"), none, (.func (PySem.W.fnOf "is_wide" "is_wide" (zI s_is_wide) (zG s_is_wide) (zC s_is_wide) .none .none .none (.str "nearplane.fits" 295) none (.ref 99) .none)), [].toArray⟩) ::
 (nat_lit 106, ⟨(.type "code"), none, (.fields [(.str "is_point" 306), (.str "is_point" 307), (.str "/claim/cut.py" 308), (.int (41) 0), (.int (2) 0), (.int (0) 0), (.int (0) 0), (.int (3) 0), (.ref 101), (.bool true), (.int (181) 0), (.ref 102), .none, (.ref 103), (.ref 104), (.ref 105), (.int (311) 0), (.int (41) 0), (.str "/claim/cut.py" 312)].toArray), [].toArray⟩) ::
 (nat_lit 107, ⟨(.type "function"), none, (.func (PySem.W.fnOf "is_point" "is_point" (zI s_is_point) (zG s_is_point) (zC s_is_point) .none .none .none (.str "nearplane.fits" 295) none (.ref 106) .none)), [].toArray⟩) ::
 (nat_lit 113, ⟨(.type "code"), none, (.fields [(.str "is_weight" 314), (.str "is_weight" 315), (.str "/claim/cut.py" 316), (.int (45) 0), (.int (1) 0), (.int (0) 0), (.int (0) 0), (.int (3) 0), (.ref 108), (.bool true), (.int (181) 0), (.ref 109), .none, (.ref 110), (.ref 111), (.ref 112), (.int (318) 0), (.int (45) 0), (.str "/claim/cut.py" 319)].toArray), [].toArray⟩) ::
 (nat_lit 114, ⟨(.type "function"), none, (.func (PySem.W.fnOf "is_weight" "is_weight" (zI s_is_weight) (zG s_is_weight) (zC s_is_weight) .none .none .none (.str "nearplane.fits" 295) none (.ref 113) .none)), [].toArray⟩) ::
 (nat_lit 127, ⟨(.type "code"), none, (.fields [(.str "__init__" 335), (.str "State.__init__" 336), (.str "/claim/cut.py" 337), (.int (50) 0), (.int (4) 0), (.int (0) 0), (.int (0) 0), (.int (3) 0), (.ref 122), (.bool true), (.int (181) 0), (.ref 123), .none, (.ref 124), (.ref 125), (.ref 126), (.int (342) 0), (.int (50) 0), (.str "/claim/cut.py" 343)].toArray), [].toArray⟩) ::
 (nat_lit 128, ⟨(.type "function"), none, (.func (PySem.W.fnOf "__init__" "State.__init__" (zI s_State___init__) (zG s_State___init__) (zC s_State___init__) .none .none .none (.str "nearplane.planes" 321) none (.ref 127) .none)), [].toArray⟩) ::
 (nat_lit 129, ⟨(.type "tuple"), none, (.seq [(.str "kept" 345), (.str "laid" 346), (.str "wide" 347)].toArray 0), [].toArray⟩) ::
 (nat_lit 130, ⟨(.type "dict"), none, (.dict [⟨PySem.PyData.keyHash P "__module__", (.str "__module__" 330), (.str "nearplane.planes" 321)⟩, ⟨PySem.PyData.keyHash P "__firstlineno__", (.str "__firstlineno__" 334), (.int (48) 333)⟩, ⟨PySem.PyData.keyHash P "__init__", (.str "__init__" 344), (.ref 128)⟩, ⟨PySem.PyData.keyHash P "__static_attributes__", (.str "__static_attributes__" 348), (.ref 129)⟩, ⟨PySem.PyData.keyHash P "__dict__", (.str "__dict__" 350), (.ref 132)⟩, ⟨PySem.PyData.keyHash P "__weakref__", (.str "__weakref__" 352), (.ref 133)⟩, ⟨PySem.PyData.keyHash P "__doc__", (.str "__doc__" 353), .none⟩].toArray 4), [].toArray⟩) ::
 (nat_lit 131, ⟨(.type "type"), none, (.cls ⟨"State", [(.type "object")], [(.ref 131), (.type "object")], 130, "State", true, [], [], false, none, false⟩), [none, none, (some (.str "State" 323)), (some (.str "State" 331)), (some (.builtin "object.__new__")), (some (.bool true))].toArray⟩) ::
 (nat_lit 132, ⟨(.type "getset_descriptor"), none, (.fields [(.str "__dict__" 349), (.ref 131), (.builtin "function.__dict__"), (.builtin "function.__dict__#set")].toArray), [].toArray⟩) ::
 (nat_lit 133, ⟨(.type "getset_descriptor"), none, (.fields [(.str "__weakref__" 351), (.ref 131), (.builtin "ExceptionGroup.__weakref__"), .none].toArray), [].toArray⟩) ::
 (nat_lit 148, ⟨(.type "code"), none, (.fields [(.str "__init__" 368), (.str "Plane.__init__" 369), (.str "/claim/cut.py" 370), (.int (56) 0), (.int (2) 0), (.int (0) 0), (.int (0) 0), (.int (3) 0), (.ref 143), (.bool true), (.int (181) 0), (.ref 144), .none, (.ref 145), (.ref 146), (.ref 147), (.int (373) 0), (.int (56) 0), (.str "/claim/cut.py" 374)].toArray), [].toArray⟩) ::
 (nat_lit 149, ⟨(.type "function"), none, (.func (PySem.W.fnOf "__init__" "Plane.__init__" (zI s_Plane___init__) (zG s_Plane___init__) (zC s_Plane___init__) .none .none .none (.str "nearplane.planes" 321) none (.ref 148) .none)), [].toArray⟩) ::
 (nat_lit 150, ⟨(.type "tuple"), none, (.seq [.none].toArray 0), [].toArray⟩) ::
 (nat_lit 156, ⟨(.type "code"), none, (.fields [(.str "lay" 376), (.str "Plane.lay" 377), (.str "/claim/cut.py" 378), (.int (61) 0), (.int (4) 0), (.int (0) 0), (.int (0) 0), (.int (3) 0), (.ref 151), (.bool true), (.int (181) 0), (.ref 152), .none, (.ref 153), (.ref 154), (.ref 155), (.int (387) 0), (.int (61) 0), (.str "/claim/cut.py" 388)].toArray), [].toArray⟩) ::
 (nat_lit 157, ⟨(.type "function"), none, (.func (PySem.W.fnOf "lay" "Plane.lay" (zI s_Plane_lay) (zG s_Plane_lay) (zC s_Plane_lay) (.ref 150) .none .none (.str "nearplane.planes" 321) none (.ref 156) .none)), [].toArray⟩) ::
 (nat_lit 161, ⟨(.type "code"), none, (.fields [(.str "take" 390), (.str "Plane.take" 391), (.str "/claim/cut.py" 392), (.int (71) 0), (.int (2) 0), (.int (0) 0), (.int (0) 0), (.int (3) 0), (.ref 158), (.bool true), (.int (181) 0), (.ref 159), .none, .none, .none, (.ref 160), (.int (393) 0), (.int (71) 0), (.str "/claim/cut.py" 394)].toArray), [].toArray⟩) ::
 (nat_lit 162, ⟨(.type "function"), none, (.func (PySem.W.fnOf "take" "Plane.take" (zI s_Plane_take) (zG s_Plane_take) (zC s_Plane_take) .none .none .none (.str "nearplane.planes" 321) none (.ref 161) .none)), [].toArray⟩) ::
 (nat_lit 180, ⟨(.type "code"), none, (.fields [(.str "points" 411), (.str "Plane.points" 412), (.str "/claim/cut.py" 413), (.int (84) 0), (.int (1) 0), (.int (0) 0), (.int (0) 0), (.int (3) 0), (.ref 177), (.bool true), (.int (181) 0), (.ref 178), .none, .none, .none, (.ref 179), (.int (414) 0), (.int (84) 0), (.str "/claim/cut.py" 415)].toArray), [].toArray⟩) ::
 (nat_lit 181, ⟨(.type "function"), none, (.func (PySem.W.fnOf "points" "Plane.points" (zI s_Plane_points) (zG s_Plane_points) (zC s_Plane_points) .none .none .none (.str "nearplane.planes" 321) none (.ref 180) .none)), [].toArray⟩) ::
 (nat_lit 187, ⟨(.type "code"), none, (.fields [(.str "width" 417), (.str "Plane.width" 418), (.str "/claim/cut.py" 419), (.int (87) 0), (.int (1) 0), (.int (0) 0), (.int (0) 0), (.int (3) 0), (.ref 182), (.bool true), (.int (181) 0), (.ref 183), .none, (.ref 184), (.ref 185), (.ref 186), (.int (421) 0), (.int (87) 0), (.str "/claim/cut.py" 422)].toArray), [].toArray⟩) ::
 (nat_lit 188, ⟨(.type "function"), none, (.func (PySem.W.fnOf "width" "Plane.width" (zI s_Plane_width) (zG s_Plane_width) (zC s_Plane_width) .none .none .none (.str "nearplane.planes" 321) none (.ref 187) .none)), [].toArray⟩) ::
 (nat_lit 245, ⟨(.type "tuple"), none, (.seq [(.str "states" 481)].toArray 0), [].toArray⟩) ::
 (nat_lit 246, ⟨(.type "dict"), none, (.dict [⟨PySem.PyData.keyHash P "__module__", (.str "__module__" 363), (.str "nearplane.planes" 321)⟩, ⟨PySem.PyData.keyHash P "__firstlineno__", (.str "__firstlineno__" 367), (.int (54) 366)⟩, ⟨PySem.PyData.keyHash P "__init__", (.str "__init__" 375), (.ref 149)⟩, ⟨PySem.PyData.keyHash P "lay", (.str "lay" 389), (.ref 157)⟩, ⟨PySem.PyData.keyHash P "take", (.str "take" 395), (.ref 162)⟩, ⟨PySem.PyData.keyHash P "widen", (.str "widen" 403), (.ref 169)⟩, ⟨PySem.PyData.keyHash P "narrow", (.str "narrow" 410), (.ref 176)⟩, ⟨PySem.PyData.keyHash P "points", (.str "points" 416), (.ref 181)⟩, ⟨PySem.PyData.keyHash P "width", (.str "width" 423), (.ref 188)⟩, ⟨PySem.PyData.keyHash P "fit", (.str "fit" 430), (.ref 195)⟩, ⟨PySem.PyData.keyHash P "sums", (.str "sums" 437), (.ref 202)⟩, ⟨PySem.PyData.keyHash P "told", (.str "told" 444), (.ref 209)⟩, ⟨PySem.PyData.keyHash P "free", (.str "free" 451), (.ref 216)⟩, ⟨PySem.PyData.keyHash P "ways", (.str "ways" 458), (.ref 223)⟩, ⟨PySem.PyData.keyHash P "squares", (.str "squares" 465), (.ref 230)⟩, ⟨PySem.PyData.keyHash P "mark", (.str "mark" 472), (.ref 237)⟩, ⟨PySem.PyData.keyHash P "back", (.str "back" 480), (.ref 244)⟩, ⟨PySem.PyData.keyHash P "__static_attributes__", (.str "__static_attributes__" 482), (.ref 245)⟩, ⟨PySem.PyData.keyHash P "__dict__", (.str "__dict__" 484), (.ref 248)⟩, ⟨PySem.PyData.keyHash P "__weakref__", (.str "__weakref__" 486), (.ref 249)⟩, ⟨PySem.PyData.keyHash P "__doc__", (.str "__doc__" 487), .none⟩].toArray 4), [].toArray⟩) ::
 (nat_lit 247, ⟨(.type "type"), none, (.cls ⟨"Plane", [(.type "object")], [(.ref 247), (.type "object")], 246, "Plane", true, [], [], false, none, false⟩), [none, none, (some (.str "Plane" 356)), (some (.str "Plane" 364)), (some (.builtin "object.__new__")), (some (.bool true))].toArray⟩) ::
 (nat_lit 248, ⟨(.type "getset_descriptor"), none, (.fields [(.str "__dict__" 483), (.ref 247), (.builtin "function.__dict__"), (.builtin "function.__dict__#set")].toArray), [].toArray⟩) ::
 (nat_lit 249, ⟨(.type "getset_descriptor"), none, (.fields [(.str "__weakref__" 485), (.ref 247), (.builtin "ExceptionGroup.__weakref__"), .none].toArray), [].toArray⟩) ::
 (nat_lit 257, ⟨(.type "code"), none, (.fields [(.str "with_row" 490), (.str "with_row" 491), (.str "/claim/cut.py" 492), (.int (113) 0), (.int (2) 0), (.int (0) 0), (.int (0) 0), (.int (3) 0), (.ref 252), (.bool true), (.int (181) 0), (.ref 253), .none, (.ref 254), (.ref 255), (.ref 256), (.int (495) 0), (.int (113) 0), (.str "/claim/cut.py" 496)].toArray), [].toArray⟩) ::
 (nat_lit 258, ⟨(.type "function"), none, (.func (PySem.W.fnOf "with_row" "with_row" (zI s_with_row) (zG s_with_row) (zC s_with_row) .none .none .none (.str "nearplane.planes" 321) none (.ref 257) .none)), [].toArray⟩) ::
 (nat_lit 264, ⟨(.type "code"), none, (.fields [(.str "_law_cell" 500), (.str "_law_cell" 501), (.str "/claim/cut.py" 502), (.int (116) 0), (.int (2) 0), (.int (0) 0), (.int (0) 0), (.int (3) 0), (.ref 259), (.bool true), (.int (181) 0), (.ref 260), .none, (.ref 261), (.ref 262), (.ref 263), (.int (505) 0), (.int (116) 0), (.str "/claim/cut.py" 506)].toArray), [].toArray⟩) ::
 (nat_lit 265, ⟨(.type "function"), none, (.func (PySem.W.fnOf "_law_cell" "_law_cell" (zI s__law_cell) (zG s__law_cell) (zC s__law_cell) .none .none .none (.str "law_nearplane_k51_laid_and_taken" 498) none (.ref 264) .none)), [].toArray⟩) ::
 (nat_lit 271, ⟨(.type "code"), none, (.fields [(.str "_law_mixed" 508), (.str "_law_mixed" 509), (.str "/claim/cut.py" 510), (.int (120) 0), (.int (2) 0), (.int (0) 0), (.int (0) 0), (.int (3) 0), (.ref 266), (.bool true), (.int (181) 0), (.ref 267), .none, (.ref 268), (.ref 269), (.ref 270), (.int (516) 0), (.int (120) 0), (.str "/claim/cut.py" 517)].toArray), [].toArray⟩) ::
 (nat_lit 272, ⟨(.type "function"), none, (.func (PySem.W.fnOf "_law_mixed" "_law_mixed" (zI s__law_mixed) (zG s__law_mixed) (zC s__law_mixed) .none .none .none (.str "law_nearplane_k51_laid_and_taken" 498) none (.ref 271) .none)), [].toArray⟩) ::
 (nat_lit 278, ⟨(.type "code"), none, (.fields [(.str "_law_lowest" 519), (.str "_law_lowest" 520), (.str "/claim/cut.py" 521), (.int (127) 0), (.int (2) 0), (.int (0) 0), (.int (0) 0), (.int (3) 0), (.ref 273), (.bool true), (.int (181) 0), (.ref 274), .none, (.ref 275), (.ref 276), (.ref 277), (.int (526) 0), (.int (127) 0), (.str "/claim/cut.py" 527)].toArray), [].toArray⟩) ::
 (nat_lit 279, ⟨(.type "function"), none, (.func (PySem.W.fnOf "_law_lowest" "_law_lowest" (zI s__law_lowest) (zG s__law_lowest) (zC s__law_lowest) .none .none .none (.str "law_nearplane_k51_laid_and_taken" 498) none (.ref 278) .none)), [].toArray⟩) ::
 (nat_lit 285, ⟨(.type "code"), none, (.fields [(.str "_law_plus" 529), (.str "_law_plus" 530), (.str "/claim/cut.py" 531), (.int (133) 0), (.int (2) 0), (.int (0) 0), (.int (0) 0), (.int (3) 0), (.ref 280), (.bool true), (.int (181) 0), (.ref 281), .none, (.ref 282), (.ref 283), (.ref 284), (.int (534) 0), (.int (133) 0), (.str "/claim/cut.py" 535)].toArray), [].toArray⟩) ::
 (nat_lit 286, ⟨(.type "function"), none, (.func (PySem.W.fnOf "_law_plus" "_law_plus" (zI s__law_plus) (zG s__law_plus) (zC s__law_plus) .none .none .none (.str "law_nearplane_k51_laid_and_taken" 498) none (.ref 285) .none)), [].toArray⟩) ::
 (nat_lit 292, ⟨(.type "code"), none, (.fields [(.str "_law_ratio" 537), (.str "_law_ratio" 538), (.str "/claim/cut.py" 539), (.int (135) 0), (.int (1) 0), (.int (0) 0), (.int (0) 0), (.int (3) 0), (.ref 287), (.bool true), (.int (181) 0), (.ref 288), .none, (.ref 289), (.ref 290), (.ref 291), (.int (543) 0), (.int (135) 0), (.str "/claim/cut.py" 544)].toArray), [].toArray⟩) ::
 (nat_lit 293, ⟨(.type "function"), none, (.func (PySem.W.fnOf "_law_ratio" "_law_ratio" (zI s__law_ratio) (zG s__law_ratio) (zC s__law_ratio) .none .none .none (.str "law_nearplane_k51_laid_and_taken" 498) none (.ref 292) .none)), [].toArray⟩) ::
 (nat_lit 299, ⟨(.type "code"), none, (.fields [(.str "_law_row" 546), (.str "_law_row" 547), (.str "/claim/cut.py" 548), (.int (141) 0), (.int (2) 0), (.int (0) 0), (.int (0) 0), (.int (3) 0), (.ref 294), (.bool true), (.int (181) 0), (.ref 295), .none, (.ref 296), (.ref 297), (.ref 298), (.int (553) 0), (.int (141) 0), (.str "/claim/cut.py" 554)].toArray), [].toArray⟩) ::
 (nat_lit 300, ⟨(.type "function"), none, (.func (PySem.W.fnOf "_law_row" "_law_row" (zI s__law_row) (zG s__law_row) (zC s__law_row) .none .none .none (.str "law_nearplane_k51_laid_and_taken" 498) none (.ref 299) .none)), [].toArray⟩) ::
 (nat_lit 306, ⟨(.type "code"), none, (.fields [(.str "_law_point" 556), (.str "_law_point" 557), (.str "/claim/cut.py" 558), (.int (146) 0), (.int (3) 0), (.int (0) 0), (.int (0) 0), (.int (3) 0), (.ref 301), (.bool true), (.int (181) 0), (.ref 302), .none, (.ref 303), (.ref 304), (.ref 305), (.int (565) 0), (.int (146) 0), (.str "/claim/cut.py" 566)].toArray), [].toArray⟩) ::
 (nat_lit 307, ⟨(.type "function"), none, (.func (PySem.W.fnOf "_law_point" "_law_point" (zI s__law_point) (zG s__law_point) (zC s__law_point) .none .none .none (.str "law_nearplane_k51_laid_and_taken" 498) none (.ref 306) .none)), [].toArray⟩) ::
 (nat_lit 313, ⟨(.type "code"), none, (.fields [(.str "_law_fresh" 568), (.str "_law_fresh" 569), (.str "/claim/cut.py" 570), (.int (153) 0), (.int (1) 0), (.int (0) 0), (.int (0) 0), (.int (3) 0), (.ref 308), (.bool true), (.int (181) 0), (.ref 309), .none, (.ref 310), (.ref 311), (.ref 312), (.int (572) 0), (.int (153) 0), (.str "/claim/cut.py" 573)].toArray), [].toArray⟩) ::
 (nat_lit 314, ⟨(.type "function"), none, (.func (PySem.W.fnOf "_law_fresh" "_law_fresh" (zI s__law_fresh) (zG s__law_fresh) (zC s__law_fresh) .none .none .none (.str "law_nearplane_k51_laid_and_taken" 498) none (.ref 313) .none)), [].toArray⟩) ::
 (nat_lit 318, ⟨(.type "code"), none, (.fields [(.str "_law_alike" 575), (.str "_law_alike" 576), (.str "/claim/cut.py" 577), (.int (155) 0), (.int (2) 0), (.int (0) 0), (.int (0) 0), (.int (3) 0), (.ref 315), (.bool true), (.int (181) 0), (.ref 316), .none, .none, .none, (.ref 317), (.int (578) 0), (.int (155) 0), (.str "/claim/cut.py" 579)].toArray), [].toArray⟩) ::
 (nat_lit 319, ⟨(.type "function"), none, (.func (PySem.W.fnOf "_law_alike" "_law_alike" (zI s__law_alike) (zG s__law_alike) (zC s__law_alike) .none .none .none (.str "law_nearplane_k51_laid_and_taken" 498) none (.ref 318) .none)), [].toArray⟩) ::
 (nat_lit 325, ⟨(.type "code"), none, (.fields [(.str "_law_stands" 581), (.str "_law_stands" 582), (.str "/claim/cut.py" 583), (.int (161) 0), (.int (2) 0), (.int (0) 0), (.int (0) 0), (.int (3) 0), (.ref 320), (.bool true), (.int (181) 0), (.ref 321), .none, (.ref 322), (.ref 323), (.ref 324), (.int (586) 0), (.int (161) 0), (.str "/claim/cut.py" 587)].toArray), [].toArray⟩) ::
 (nat_lit 326, ⟨(.type "function"), none, (.func (PySem.W.fnOf "_law_stands" "_law_stands" (zI s__law_stands) (zG s__law_stands) (zC s__law_stands) .none .none .none (.str "law_nearplane_k51_laid_and_taken" 498) none (.ref 325) .none)), [].toArray⟩) ::
 (nat_lit 332, ⟨(.type "code"), none, (.fields [(.str "_law_laid" 589), (.str "_law_laid" 590), (.str "/claim/cut.py" 591), (.int (165) 0), (.int (4) 0), (.int (0) 0), (.int (0) 0), (.int (3) 0), (.ref 327), (.bool true), (.int (181) 0), (.ref 328), .none, (.ref 329), (.ref 330), (.ref 331), (.int (601) 0), (.int (165) 0), (.str "/claim/cut.py" 602)].toArray), [].toArray⟩) ::
 (nat_lit 333, ⟨(.type "function"), none, (.func (PySem.W.fnOf "_law_laid" "_law_laid" (zI s__law_laid) (zG s__law_laid) (zC s__law_laid) .none .none .none (.str "law_nearplane_k51_laid_and_taken" 498) none (.ref 332) .none)), [].toArray⟩) ::
 (nat_lit 339, ⟨(.type "code"), none, (.fields [(.str "_law_taken" 604), (.str "_law_taken" 605), (.str "/claim/cut.py" 606), (.int (182) 0), (.int (3) 0), (.int (0) 0), (.int (0) 0), (.int (3) 0), (.ref 334), (.bool true), (.int (181) 0), (.ref 335), .none, (.ref 336), (.ref 337), (.ref 338), (.int (611) 0), (.int (182) 0), (.str "/claim/cut.py" 612)].toArray), [].toArray⟩) ::
 (nat_lit 340, ⟨(.type "function"), none, (.func (PySem.W.fnOf "_law_taken" "_law_taken" (zI s__law_taken) (zG s__law_taken) (zC s__law_taken) .none .none .none (.str "law_nearplane_k51_laid_and_taken" 498) none (.ref 339) .none)), [].toArray⟩) ::
 (nat_lit 346, ⟨(.type "code"), none, (.fields [(.str "law" 614), (.str "law" 615), (.str "/claim/cut.py" 616), (.int (186) 0), (.int (1) 0), (.int (0) 0), (.int (0) 0), (.int (3) 0), (.ref 341), (.bool true), (.int (181) 0), (.ref 342), .none, (.ref 343), (.ref 344), (.ref 345), (.int (626) 0), (.int (186) 0), (.str "/claim/cut.py" 627)].toArray), [].toArray⟩) ::
 (nat_lit 347, ⟨(.type "function"), none, (.func (PySem.W.fnOf "law" "law" (zI s_law) (zG s_law) (zC s_law) .none .none .none (.str "law_nearplane_k51_laid_and_taken" 498) none (.ref 346) .none)), [].toArray⟩) :: []
def KA : List Addr := nat_lit 3 :: nat_lit 59 :: nat_lit 60 :: nat_lit 66 :: nat_lit 67 :: nat_lit 73 :: nat_lit 74 :: nat_lit 80 :: nat_lit 81 :: nat_lit 87 :: nat_lit 88 :: nat_lit 92 :: nat_lit 93 :: nat_lit 99 :: nat_lit 100 :: nat_lit 106 :: nat_lit 107 :: nat_lit 113 :: nat_lit 114 :: nat_lit 127 :: nat_lit 128 :: nat_lit 129 :: nat_lit 130 :: nat_lit 131 :: nat_lit 132 :: nat_lit 133 :: nat_lit 148 :: nat_lit 149 :: nat_lit 150 :: nat_lit 156 :: nat_lit 157 :: nat_lit 161 :: nat_lit 162 :: nat_lit 180 :: nat_lit 181 :: nat_lit 187 :: nat_lit 188 :: nat_lit 245 :: nat_lit 246 :: nat_lit 247 :: nat_lit 248 :: nat_lit 249 :: nat_lit 257 :: nat_lit 258 :: nat_lit 264 :: nat_lit 265 :: nat_lit 271 :: nat_lit 272 :: nat_lit 278 :: nat_lit 279 :: nat_lit 285 :: nat_lit 286 :: nat_lit 292 :: nat_lit 293 :: nat_lit 299 :: nat_lit 300 :: nat_lit 306 :: nat_lit 307 :: nat_lit 313 :: nat_lit 314 :: nat_lit 318 :: nat_lit 319 :: nat_lit 325 :: nat_lit 326 :: nat_lit 332 :: nat_lit 333 :: nat_lit 339 :: nat_lit 340 :: nat_lit 346 :: nat_lit 347 :: []
end Tm
open PySem PySem.W PyProof.Rows
def PySem.W.Fast.tw6291506870420726400 : Unit := ()
def PySem.W.Fast.tw9309925392760879361 : Unit := ()
def PySem.W.Fast.tw1812079059914107717 : Unit := ()
def PySem.W.Fast.tw17768789424265958055 : Unit := ()
def PySem.W.Fast.tw5407853954225298569 : Unit := ()
def PySem.W.Fast.tw12931348873699700973 : Unit := ()
def PySem.W.Fast.tw5040571967661664273 : Unit := ()
def PySem.W.Fast.tw11651599734006218844 : Unit := ()
def PySem.W.Fast.tw16358778658725742460 : Unit := ()
def PySem.W.Fast.tw5753064396827700415 : Unit := ()
def PySem.W.Fast.tw2041427179842221695 : Unit := ()
set_option maxRecDepth 100000 in
set_option maxHeartbeats 0 in
theorem PySem.Challenge.cw_nearplane_k51_laid_and_taken_holds : PySem.Challenge.rw_nearplane_k51_laid_and_taken.Holds := by
 w_on; o_law; o_head (PySem.W.kHook Tm.KK Tm.KA (fun _ => by kernel_rfl)); (case hw => w_witness2)
 k_fill
 refine Tm.walk (l := PySem.Challenge.rw_nearplane_k51_laid_and_taken) rfl rfl (fun w h Y => PySem.W.kIn_of Y) ?F ?hq
 case hq => first | rfl | decide +kernel
 case F =>
  intro w mg fa h KX G hmg
  refine' Tm.all_mk rfl KX G hmg ?aX_Plane ?aX_State ?a0 ?l0 ?c0 ?k0 ?a1 ?l1 ?c1 ?k1 ?a2 ?l2 ?c2 ?k2 ?a3 ?l3 ?c3 ?k3 ?a4 ?l4 ?c4 ?k4 ?a5 ?l5 ?c5 ?k5 ?a6 ?l6 ?c6 ?k6 ?a7 ?l7 ?c7 ?k7 ?a8 ?l8 ?c8 ?k8 ?x_fn8 ?a9 ?l9 ?c9 ?k9 ?x_fn9 ?a10 ?l10 ?c10 ?k10 ?x_fn10 ?lT10 ?a11 ?l11 ?c11 ?k11 ?x_fn11 ?a12 ?l12 ?c12 ?k12 ?a13 ?l13 ?c13 ?k13 ?x_fn13 ?a14 ?l14 ?c14 ?k14 ?x_fn14 ?a15 ?l15 ?c15 ?k15 ?a16 ?l16 ?c16 ?k16 ?a17 ?l17 ?c17 ?k17 ?a18 ?l18 ?c18 ?k18 ?a19 ?l19 ?c19 ?k19 ?a20 ?l20 ?c20 ?k20 ?a21 ?l21 ?c21 ?k21 ?a22 ?l22 ?c22 ?k22 ?a23 ?l23 ?c23 ?k23 ?a24 ?l24 ?c24 ?k24 ?a25 ?l25 ?c25 ?k25 ?a26 ?l26 ?c26 ?k26 ?a27 ?l27 ?c27 ?k27 ?aCMOST_COLUMNS ?aCNOUGHT ?lCNOUGHT ?aCONE ?lCONE ?z_abs ?z_all ?z_bool ?z_divmod ?z_int ?z_isinstance ?z_len ?z_list ?z_min ?z_range ?z_tuple ?z_zip ?x_pg_Plane ?x_hd_Plane ?x_po_Plane ?x_sa_Plane ?x_pg_State ?x_hd_State ?x_po_State ?x_sa_State ?x_na_Plane_states ?x_na_State_kept ?x_na_State_laid ?x_na_State_wide ?x_mk_Plane ?x_kp_Plane ?x_mk_State ?x_kp_State
  (case aX_Plane => k_is)
  (case aX_State => k_is)
  (case a0 => k_is)
  (case l0 => k_is)
  (case c0 => k_is)
  (case k0 => k_is)
  (case a1 => k_is)
  (case l1 => k_is)
  (case c1 => k_is)
  (case k1 => k_is)
  (case a2 => k_is)
  (case l2 => k_is)
  (case c2 => k_is)
  (case k2 => k_is)
  (case a3 => k_is)
  (case l3 => k_is)
  (case c3 => k_is)
  (case k3 => k_is)
  (case a4 => k_is)
  (case l4 => k_is)
  (case c4 => k_is)
  (case k4 => k_is)
  (case a5 => k_is)
  (case l5 => k_is)
  (case c5 => k_is)
  (case k5 => k_is)
  (case a6 => k_is)
  (case l6 => k_is)
  (case c6 => k_is)
  (case k6 => k_is)
  (case a7 => k_is)
  (case l7 => k_is)
  (case c7 => k_is)
  (case k7 => k_is)
  (case a8 => k_is)
  (case l8 => k_is)
  (case c8 => k_is)
  (case k8 => k_is)
  (case x_fn8 => first | kernel_rfl | decide +kernel)
  (case a9 => k_is)
  (case l9 => k_is)
  (case c9 => k_is)
  (case k9 => k_is)
  (case x_fn9 => first | kernel_rfl | decide +kernel)
  (case a10 => k_is)
  (case l10 => k_is)
  (case c10 => k_is)
  (case k10 => k_is)
  (case x_fn10 => first | kernel_rfl | decide +kernel)
  (case lT10 => k_is)
  (case a11 => k_is)
  (case l11 => k_is)
  (case c11 => k_is)
  (case k11 => k_is)
  (case x_fn11 => first | kernel_rfl | decide +kernel)
  (case a12 => k_is)
  (case l12 => k_is)
  (case c12 => k_is)
  (case k12 => k_is)
  (case a13 => k_is)
  (case l13 => k_is)
  (case c13 => k_is)
  (case k13 => k_is)
  (case x_fn13 => first | kernel_rfl | decide +kernel)
  (case a14 => k_is)
  (case l14 => k_is)
  (case c14 => k_is)
  (case k14 => k_is)
  (case x_fn14 => first | kernel_rfl | decide +kernel)
  (case a15 => k_is)
  (case l15 => k_is)
  (case c15 => k_is)
  (case k15 => k_is)
  (case a16 => k_is)
  (case l16 => k_is)
  (case c16 => k_is)
  (case k16 => k_is)
  (case a17 => k_is)
  (case l17 => k_is)
  (case c17 => k_is)
  (case k17 => k_is)
  (case a18 => k_is)
  (case l18 => k_is)
  (case c18 => k_is)
  (case k18 => k_is)
  (case a19 => k_is)
  (case l19 => k_is)
  (case c19 => k_is)
  (case k19 => k_is)
  (case a20 => k_is)
  (case l20 => k_is)
  (case c20 => k_is)
  (case k20 => k_is)
  (case a21 => k_is)
  (case l21 => k_is)
  (case c21 => k_is)
  (case k21 => k_is)
  (case a22 => k_is)
  (case l22 => k_is)
  (case c22 => k_is)
  (case k22 => k_is)
  (case a23 => k_is)
  (case l23 => k_is)
  (case c23 => k_is)
  (case k23 => k_is)
  (case a24 => k_is)
  (case l24 => k_is)
  (case c24 => k_is)
  (case k24 => k_is)
  (case a25 => k_is)
  (case l25 => k_is)
  (case c25 => k_is)
  (case k25 => k_is)
  (case a26 => k_is)
  (case l26 => k_is)
  (case c26 => k_is)
  (case k26 => k_is)
  (case a27 => k_is)
  (case l27 => k_is)
  (case c27 => k_is)
  (case k27 => k_is)
  (case aCMOST_COLUMNS => k_is)
  (case aCNOUGHT => k_is)
  (case lCNOUGHT => k_is)
  (case aCONE => k_is)
  (case lCONE => k_is)
  (case z_abs => k_is)
  (case z_all => k_is)
  (case z_bool => k_is)
  (case z_divmod => k_is)
  (case z_int => k_is)
  (case z_isinstance => k_is)
  (case z_len => k_is)
  (case z_list => k_is)
  (case z_min => k_is)
  (case z_range => k_is)
  (case z_tuple => k_is)
  (case z_zip => k_is)
  (case x_pg_Plane => first | kernel_rfl | decide +kernel)
  (case x_hd_Plane => first | kernel_rfl | decide +kernel)
  (case x_po_Plane => first | kernel_rfl | decide +kernel)
  (case x_sa_Plane => first | kernel_rfl | decide +kernel)
  (case x_pg_State => first | kernel_rfl | decide +kernel)
  (case x_hd_State => first | kernel_rfl | decide +kernel)
  (case x_po_State => first | kernel_rfl | decide +kernel)
  (case x_sa_State => first | kernel_rfl | decide +kernel)
  (case x_na_Plane_states => first | kernel_rfl | decide +kernel)
  (case x_na_State_kept => first | kernel_rfl | decide +kernel)
  (case x_na_State_laid => first | kernel_rfl | decide +kernel)
  (case x_na_State_wide => first | kernel_rfl | decide +kernel)
  (case x_mk_Plane => first | kernel_rfl | decide +kernel)
  (case x_kp_Plane => first | kernel_rfl | decide +kernel)
  (case x_mk_State => first | kernel_rfl | decide +kernel)
  (case x_kp_State => first | kernel_rfl | decide +kernel)
end
