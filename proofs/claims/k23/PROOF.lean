import PyProof.Rows.All
import Wide.All
import OpenK.AllK
import Wide.FinOn
import Lean
import PyProof.EqAt
import PyProof.EqKinds
import PyProof.TupleCall
import PySem.Str
import KE.KListMore
import KE.LcSums
import KE.KRevIter
import PyProof.EnumStmt
import PyProof.EnumMake
import PyProof.IsiTupleOf
import PyProof.P3In
import PyProof.CollectIter
import PyProof.ListRange
import OpenK.KOwn
import KE.KTryMore
import PyProof.NsDelKeeps
import KE.KIsAll
import PyProof.ExcAttrAll.ValueError
import PySem.Challenge.RW_nearplane_k23_no_deeds
set_option Elab.async false
set_option linter.all false
set_option maxRecDepth 100000
set_option maxHeartbeats 4000000
section
namespace L2
open PySem PySem.Spec PyProof.Rows
abbrev Key := Sum Int Str
def keyIs : Key → Value → Bool
 | .inl k, v => Value.isInt k v
 | .inr x, v => Value.isStrOf x v
def keyH (w : World) : Key → Int
 | .inl k => hashInt k
 | .inr x => hashStr w x
theorem keyIs_shape : ∀ {k : Key} {v : Value}, keyIs k v = true → (∃ i t, k = Sum.inl i ∧ v = Value.int i t) ∨ (∃ x t, k = Sum.inr x ∧ v = Value.str x t)
 | .inl i, v, h => by
  obtain ⟨t, e⟩ := Value.isInt_shape (k := i) (v := v) h
  exact .inl ⟨i, t, rfl, e⟩
 | .inr x, v, h => by
  obtain ⟨t, e⟩ := Value.isStrOf_shape (x := x) (v := v) h
  exact .inr ⟨x, t, rfl, e⟩
theorem key_ll (a b : Int) : decide ((Sum.inl a : Key) = Sum.inl b) = (a == b) := by
 by_cases e : a = b
 ·subst e; simp
 ·have h : ¬ (Sum.inl a : Key) = Sum.inl b := fun q => e (Sum.inl.inj q)
  rw [decide_eq_false h]
  exact (beq_eq_false_iff_ne.mpr e).symm
theorem key_rr (a b : Str) : decide ((Sum.inr a : Key) = Sum.inr b) = decide (a = b) := by
 by_cases e : a = b
 ·subst e; simp
 ·have h : ¬ (Sum.inr a : Key) = Sum.inr b := fun q => e (Sum.inr.inj q)
  rw [decide_eq_false h, decide_eq_false e]
theorem key_lr (a : Int) (b : Str) : decide ((Sum.inl a : Key) = Sum.inr b) = false := decide_eq_false (fun q => nomatch q)
theorem key_rl (a : Str) (b : Int) : decide ((Sum.inr a : Key) = Sum.inl b) = false := decide_eq_false (fun q => nomatch q)
def mixKind (prog : Program) (w : World) : PySem.KeyKind prog w Key where
 is := keyIs
 hash := keyH w
 inj := fun v a b ha hb => by
  rcases keyIs_shape ha with ⟨i, t, rfl, rfl⟩ | ⟨x, t, rfl, rfl⟩
  ·rcases keyIs_shape hb with ⟨j, u, rfl, e⟩ | ⟨y, u, rfl, e⟩
   ·injection e with e1 _; rw [e1]
   ·exact nomatch e
  ·rcases keyIs_shape hb with ⟨j, u, rfl, e⟩ | ⟨y, u, rfl, e⟩
   ·exact nomatch e
   ·injection e with e1 _; rw [e1]
 byValue := fun k v h => by
  rcases keyIs_shape h with ⟨i, t, rfl, rfl⟩ | ⟨x, t, rfl, rfl⟩ <;> rfl
 pyHash := fun hv h => by
  rcases keyIs_shape hv with ⟨i, t, rfl, rfl⟩ | ⟨x, t, rfl, rfl⟩
  ·exact wpAny_pyHash_int h
  ·exact wpAny_pyHash_str h
 eqBool := fun hu hv h => by
  rcases keyIs_shape hu with ⟨i, t, rfl, rfl⟩ | ⟨x, t, rfl, rfl⟩
  ·rcases keyIs_shape hv with ⟨j, u, rfl, rfl⟩ | ⟨y, u, rfl, rfl⟩
   ·rw [key_ll] at h; exact wpAny_eqBool_int h
   ·rw [key_lr] at h; exact SeqAt.EqAt.int_str i t y u _ _ _ _ h
  ·rcases keyIs_shape hv with ⟨j, u, rfl, rfl⟩ | ⟨y, u, rfl, rfl⟩
   ·rw [key_rl] at h; exact SeqAt.EqAt.str_int x t j u _ _ _ _ h
   ·rw [key_rr] at h; exact wpAny_eqBool_str h
 «strs» := fun k x t v h => by
  rcases keyIs_shape h with ⟨i, u, rfl, e⟩ | ⟨y, u, rfl, e⟩
  ·exact nomatch e
  ·injection e with e1 _
   subst e1
   cases v <;> rfl
end L2
namespace L2
open PySem PySem.Spec PyProof.Rows
inductive V where
 | non | bl (b : Bool) | int (i : Int) | str (x : Str) | byt (b : Array UInt8) | flt (b : UInt64) | ref (a : Addr) | ty (n : String)
 deriving DecidableEq
def RelV : V → Value → Prop
 | .non, u => u = Value.none
 | .bl b, u => u = Value.bool b
 | .int i, u => ∃ t, u = Value.int i t
 | .str x, u => ∃ t, u = Value.str x t
 | .byt b, u => ∃ t, u = Value.bytes b t
 | .flt b, u => ∃ t, u = Value.float b t
 | .ref a, u => u = Value.ref a
 | .ty n, u => u = Value.type n
abbrev Vals : List V → List Value → Prop := Paired RelV
theorem Vals.length {xs : List V} {us : List Value} (r : Vals xs us) : xs.length = us.length := Paired.length r
theorem Vals.get : ∀ {xs : List V} {us : List Value} {i : Nat} {x : V}, Vals xs us → xs[i]? = some x → ∃ u, us[i]? = some u ∧ RelV x u
 | _, _, _, _, .nil, e => by simp at e
 | _, _, 0, _, .cons r _, e => by simp at e; subst e; exact ⟨_, rfl, r⟩
 | _, _, i + 1, x, .cons _ t, e => by
  obtain ⟨u, h1, h2⟩ := Vals.get (i := i) (x := x) t (by simpa using e)
  exact ⟨u, by simpa using h1, h2⟩
theorem Vals.set {x : V} {u : Value} (r : RelV x u) : ∀ {xs : List V} {us : List Value} (i : Nat), Vals xs us → Vals (xs.set i x) (us.set i u)
 | _, _, _, .nil => .nil
 | _, _, 0, .cons _ t => .cons r t
 | _, _, i + 1, .cons q t => .cons q (Vals.set r i t)
theorem Vals.append : ∀ {xs ys : List V} {us ws : List Value}, Vals xs us → Vals ys ws → Vals (xs ++ ys) (us ++ ws)
 | _, _, _, _, .nil, s => s
 | _, _, _, _, .cons r t, s => .cons r (Vals.append t s)
theorem Vals.take : ∀ {xs : List V} {us : List Value} (n : Nat), Vals xs us → Vals (xs.take n) (us.take n)
 | _, _, 0, _ => .nil
 | _, _, _ + 1, .nil => .nil
 | _, _, n + 1, .cons r t => .cons r (Vals.take n t)
theorem Vals.drop : ∀ {xs : List V} {us : List Value} (n : Nat), Vals xs us → Vals (xs.drop n) (us.drop n)
 | _, _, 0, r => r
 | _, _, _ + 1, .nil => .nil
 | _, _, n + 1, .cons _ t => Vals.drop n t
def RelO : Option V → Option Value → Prop
 | some v, some u => RelV v u
 | none, none => True
 | _, _ => False
def KV {κ : Type} : List (κ × V) → List (κ × Value) → Prop := Paired fun (p : κ × V) (q : κ × Value) => p.1 = q.1 ∧ RelV p.2 q.2
def kV : Key → V
 | .inl i => .int i
 | .inr x => .str x
inductive HO where
  | lst (xs : List V)
  | tup (xs : List V)
  | dK (kvs : List (Key × V)) | dT (kvs : List (List Key × V))
  | set (S : Int → Bool) (n : Nat)
  | ins (C dx : Addr) (fs : List (Str × V))
  | own (x : Addr)
  | xd (fs : List (Str × V))
  | met (f x : Addr)
  | rng (lo hi : Int)
  | frz (o : Obj) (u : HO)
  | tbl (ps : Array Value)
  | ext (φ : Heap → Prop)
abbrev Hp := Addr → Option HO
def upd (H : Hp) (a : Addr) (o : HO) : Hp := fun b => if b = a then some o else H b
theorem zW {H : Hp} {a : Addr} {o : HO} : upd H a o a = some o := by unfold upd; rw [if_pos rfl]
theorem zO {H : Hp} {a b : Addr} {o : HO} (h : b ≠ a) : upd H a o b = H b := by unfold upd; rw [if_neg h]
theorem ne_of_none {H : Hp} {a b : Addr} {o : HO} (h : H a = some o) (h' : H b = none) : a ≠ b := by
 intro e; subst e; rw [h] at h'; cases h'
section
variable (P : Program) (w : World)
def ObjOk (H : Hp) (h : Heap) (a : Addr) : HO → Prop
 | .lst xs => xs.length ≤ sizeLine ∧ ∃ (its : List Value) (n : Nat), Vals xs its ∧ h.get? a = some { cls := .type "list", data := .seq its.toArray n }
 | .tup xs => xs.length ≤ sizeLine ∧ ∃ its : List Value, Vals xs its ∧ IsTup h a its.toArray
 | .dK kvs => kvs.length ≤ sizeLine ∧ (a == sysModules) = false ∧ ∃ vs, KV kvs vs ∧ h.DictOf (mixKind P w) a vs
 | .dT kvs => kvs.length ≤ sizeLine ∧ (a == sysModules) = false ∧ ∃ xs : List (List Key × Addr × Value),
   Paired (fun (p : List Key × V) (q : List Key × Addr × Value) => p.1 = q.1 ∧ H q.2.1 = some (.tup (p.1.map kV)) ∧ RelV p.2 q.2.2) kvs xs ∧
   ∃ o es ep, h.get? a = some o ∧ o.ExactDict ∧ o.data = .dict es ep ∧ es.toList = xs.map (entryOfKey (tupleKind (mixKind P w))) ∧ (xs.map (·.1)).Nodup
 | .set S n => h.SetOf (intKind P w) a S n
 | .ins C dx fs => H dx = some (.own a) ∧ fs.length ≤ 1000 ∧ dx ≠ a ∧ h.get? a = some (PySem.W.instObj C dx) ∧
   ∃ mA, h.Ns1 dx mA ∧ (∀ f, RelO (fs.lookup f) (mA f)) ∧ PySem.Within mA (fs.map (·.1))
 | .own _ => ∃ o, h.get? a = some o
 | .xd fs => ∃ mA, h.Ns1 a mA ∧ ∀ f, RelO (fs.lookup f) (mA f)
 | .rng lo hi => ∃ t u v, h.get? a = some { cls := .type "range", data := .fields #[.int lo t, .int hi u, .int 1 v] }
 | .frz o u => h.get? a = some o ∧ ObjOk H h a u
 | .tbl ps => h.get? a = some { cls := .none, data := .fields ps }
 | .met f x => h.get? a = some (PySem.W.methodObj (.ref f) (.ref x))
 | .ext φ => φ h ∧ (∃ o, h.get? a = some o) ∧ ∀ h1 h2 : Heap, φ h1 → (∀ o, h1.get? a = some o → h2.get? a = some o) → φ h2
def HOk (H : Hp) (h : Heap) : Prop := ∀ a o, H a = some o → ObjOk P w H h a o
end
section
variable {P : Program} {w : World} {H H' : Hp} {h h' : Heap} {a : Addr} {o : HO}
theorem ObjOk.lt (x : ObjOk P w H h a o) : a < h.objs.size := by
 cases o with
 | lst xs => obtain ⟨_, _, _, _, e⟩ := x; exact Heap.lt_size e
 | tup xs => obtain ⟨_, _, _, p⟩ := x; exact p.lt
 | dK kvs => obtain ⟨_, _, _, _, o, _, _, e, _⟩ := x; exact Heap.lt_size e
 | dT kvs => obtain ⟨_, _, _, _, o, _, _, e, _⟩ := x; exact Heap.lt_size e
 | set S n => obtain ⟨o, _, _, _, e, _⟩ := x; exact Heap.lt_size e
 | ins C dx fs => obtain ⟨_, _, _, e, _⟩ := x; exact Heap.lt_size e
 | own y => obtain ⟨_, e⟩ := x; exact Heap.lt_size e
 | xd fs => obtain ⟨_, ⟨_, _, _, e, _⟩, _⟩ := x; exact Heap.lt_size e
 | rng lo hi => obtain ⟨_, _, _, e⟩ := x; exact Heap.lt_size e
 | frz ob u => obtain ⟨e, _⟩ := x; exact Heap.lt_size e
 | tbl ps => exact Heap.lt_size (show h.get? a = some _ from x)
 | met f y => exact Heap.lt_size (show h.get? a = some _ from x)
 | ext φ => obtain ⟨_, ⟨_, e⟩, _⟩ := x; exact Heap.lt_size e
theorem Paired.mapP {α β : Type} {F G : α → β → Prop} : ∀ {l₁ : List α} {l₂ : List β}, Paired F l₁ l₂ → (∀ a b, F a b → G a b) → Paired G l₁ l₂
 | _, _, .nil, _ => .nil
 | _, _, .cons r t, f => .cons (f _ _ r) (Paired.mapP t f)
theorem ObjOk.stay (x : ObjOk P w H h a o) (k : ∀ b u, (b = a ∨ H b = some (.own a)) → h.get? b = some u → h'.get? b = some u)
  (ho : ∀ b, H b = some (.own a) → H' b = some (.own a)) (ht : ∀ b xs, H b = some (.tup xs) → H' b = some (.tup xs)) : ObjOk P w H' h' a o := by
 induction o with
 | lst xs => obtain ⟨z, its, n, r, e⟩ := x; exact ⟨z, its, n, r, k _ _ (.inl rfl) e⟩
 | tup xs => obtain ⟨z, its, r, ob, e, c⟩ := x; exact ⟨z, its, r, ob, k _ _ (.inl rfl) e, c⟩
 | dK kvs => obtain ⟨z, y, vs, r, ob, es, ep, e, c⟩ := x; exact ⟨z, y, vs, r, ob, es, ep, k _ _ (.inl rfl) e, c⟩
 | dT kvs =>
  obtain ⟨z, y, xs, r, ob, es, ep, e, c⟩ := x
  exact ⟨z, y, xs, Paired.mapP r fun p q z => ⟨z.1, ht _ _ z.2.1, z.2.2⟩, ob, es, ep, k _ _ (.inl rfl) e, c⟩
 | set S n => obtain ⟨ob, es, ep, t, e, c⟩ := x; exact ⟨ob, es, ep, t, k _ _ (.inl rfl) e, c⟩
 | ins C dx fs =>
  obtain ⟨d, z, ne, e, mA, ⟨od, es, ep, e2, c⟩, r⟩ := x
  exact ⟨ho _ d, z, ne, k _ _ (.inl rfl) e, mA, ⟨od, es, ep, k _ _ (.inr d) e2, c⟩, r⟩
 | own y => obtain ⟨ob, e⟩ := x; exact ⟨ob, k _ _ (.inl rfl) e⟩
 | xd fs => obtain ⟨mA, ⟨od, es, ep, e, c⟩, r⟩ := x; exact ⟨mA, ⟨od, es, ep, k _ _ (.inl rfl) e, c⟩, r⟩
 | rng lo hi => obtain ⟨t, u, v, e⟩ := x; exact ⟨t, u, v, k _ _ (.inl rfl) e⟩
 | frz ob u ih => obtain ⟨e, q⟩ := x; exact ⟨k _ _ (.inl rfl) e, ih q⟩
 | tbl ps =>
  have e : h.get? a = some { cls := .none, data := .fields ps } := x
  show h'.get? a = some { cls := .none, data := .fields ps }
  exact k a _ (.inl rfl) e
 | met f y =>
  have e : h.get? a = some (PySem.W.methodObj (.ref f) (.ref y)) := x
  show h'.get? a = some (PySem.W.methodObj (.ref f) (.ref y))
  exact k a _ (.inl rfl) e
 | ext φ => obtain ⟨p, ⟨o, e⟩, st⟩ := x; exact ⟨st _ _ p fun o q => k _ _ (.inl rfl) q, ⟨o, k _ _ (.inl rfl) e⟩, st⟩
theorem HOk.lt (x : HOk P w H h) (e : H a = some o) : a < h.objs.size := (x a o e).lt
theorem HOk.fresh (x : HOk P w H h) (e : h.objs.size ≤ a) : H a = none := by
 cases q : H a with
 | none => rfl
 | some u => exact absurd (Nat.lt_of_lt_of_le (x.lt q) e) (Nat.lt_irrefl _)
theorem HOk.kept (x : HOk P w H h) (k : ∀ b u, h.get? b = some u → h'.get? b = some u) : HOk P w H h' := fun a o e =>
 (x a o e).stay (fun b u _ q => k b u q) (fun _ q => q) fun _ _ q => q
theorem HOk.laid (x : HOk P w H h) (k : ∀ b u, h.get? b = some u → h'.get? b = some u) (hp : h.objs.size ≤ a) (new : ObjOk P w (upd H a o) h' a o) : HOk P w (upd H a o) h' := fun b u e => by
 have hn := x.fresh hp
 by_cases hb : b = a
 ·subst hb; rw [zW] at e; cases e; exact new
 ·rw [zO hb] at e
  exact (x b u e).stay (fun c v _ q => k c v q) (fun c q => by rw [zO (ne_of_none q hn)]; exact q) fun c xs q => by rw [zO (ne_of_none q hn)]; exact q
end
def Rd (H : Hp) (a : Addr) (u : HO) : Prop := H a = some u ∨ ∃ o, H a = some (.frz o u)
theorem Rd.ok {P : Program} {w : World} {H : Hp} {h : Heap} {a : Addr} {u : HO} (r : Rd H a u) (x : HOk P w H h) : ObjOk P w H h a u := by
 rcases r with r | ⟨o, r⟩
 ·exact x a u r
 ·obtain ⟨_, q⟩ := x a _ r
  exact q
def Mut : Option HO → Prop
 | some (.lst _) => True
 | some (.dK _) => True
 | some (.dT _) => True
 | some (.set _ _) => True
 | some (.ins _ _ _) => True
 | some (.ext _) => True
 | _ => False
section
variable {P : Program} {w : World} {H : Hp} {h h' : Heap} {x e : Addr} {o' : HO}
theorem HOk.write (ok : HOk P w H h) (mu : Mut (H x)) (he : e = x ∨ H e = some (.own x)) (k : ∀ b u, b ≠ e → h.get? b = some u → h'.get? b = some u) (heo : ∃ u, h'.get? e = some u)
  (new : ObjOk P w (upd H x o') h' x o') : HOk P w (upd H x o') h' := fun b u q => by
 have nown : ∀ c y, H c = some (.own y) → c ≠ x := fun c y r z => by subst z; rw [r] at mu; exact mu
 have ntup : ∀ c xs, H c = some (.tup xs) → c ≠ x := fun c xs r z => by subst z; rw [r] at mu; exact mu
 by_cases hb : b = x
 ·subst hb; rw [zW] at q; cases q; exact new
 ·rw [zO hb] at q
  by_cases hbe : b = e
  ·have q' : H b = some (.own x) := by
    rcases he with z | z
    ·exact absurd (hbe.trans z) hb
    ·rw [hbe]; exact z
   rw [q] at q'; cases q'
   obtain ⟨v, hv⟩ := heo
   exact ⟨v, by rw [hbe]; exact hv⟩
  ·refine (ok b u q).stay (fun c v hc r => k c v ?_ r) (fun c r => by rw [zO (nown c b r)]; exact r) fun c xs r => by rw [zO (ntup c xs r)]; exact r
   rcases hc with rfl | hc
   ·exact hbe
   ·rintro rfl
    rcases he with z | z
    ·exact nown c b hc z
    ·rw [hc] at z; cases z; exact hb rfl
end
structure Un (fs ex : List Addr) (H H' : Hp) (h h' : Heap) : Prop where
 keep : ∀ b o, h.get? b = some o → H b = none → b ∉ fs → b ∉ ex → h'.get? b = some o
 slot : ∀ b o, h.get? b = some o → H b = none → b ∈ fs → b ∉ ex → ∃ sl, h'.get? b = some { o with slots := sl }
 free : ∀ b o, h.get? b = some o → H b = none → b ∉ ex → H' b = none
 there : ∀ b o, h.get? b = some o → b ∉ ex → ∃ o', h'.get? b = some o'
 tups : ∀ b xs, H b = some (.tup xs) → H' b = some (.tup xs)
 frzs : ∀ b o u, H b = some (.frz o u) → H' b = some (.frz o u)
 tbls : ∀ b ps, H b = some (.tbl ps) → ∃ more, H' b = some (.tbl (ps ++ more))
section
variable {fs fs' ex ex' : List Addr} {H H1 H2 : Hp} {h h1 h2 h' : Heap} {a x e : Addr} {o : HO}
theorem Un.any (u : Un fs ex H H1 h h1) {b : Addr} {ob : Obj} (q : h.get? b = some ob) (n : H b = none) (hx : b ∉ ex) : ∃ sl, h1.get? b = some { ob with slots := sl } := by
 by_cases hb : b ∈ fs
 ·exact u.slot b ob q n hb hx
 ·exact ⟨ob.slots, u.keep b ob q n hb hx⟩
theorem Un.trans (a : Un fs ex H H1 h h1) (b : Un fs ex H1 H2 h1 h2) : Un fs ex H H2 h h2 where
 keep := fun c ob q n hc hx => b.keep c ob (a.keep c ob q n hc hx) (a.free c ob q n hx) hc hx
 slot := fun c ob q n hc hx => by
  obtain ⟨sl, e1⟩ := a.slot c ob q n hc hx
  obtain ⟨sl', e2⟩ := b.slot c _ e1 (a.free c ob q n hx) hc hx
  exact ⟨sl', e2⟩
 free := fun c ob q n hx => by
  obtain ⟨o', e1⟩ := a.there c ob q hx
  exact b.free c o' e1 (a.free c ob q n hx) hx
 there := fun c ob q hx => by
  obtain ⟨o', e1⟩ := a.there c ob q hx
  exact b.there c o' e1 hx
 tups := fun c xs q => b.tups c xs (a.tups c xs q)
 frzs := fun c ob xs q => b.frzs c ob xs (a.frzs c ob xs q)
 tbls := fun c ps q => by
  obtain ⟨m1, e1⟩ := a.tbls c ps q
  obtain ⟨m2, e2⟩ := b.tbls c _ e1
  exact ⟨m1 ++ m2, by rw [e2, Array.append_assoc]⟩
theorem Un.kept (k : ∀ b u, h.get? b = some u → h'.get? b = some u) : Un fs ex H H h h' :=
 ⟨fun b ob q _ _ _ => k b ob q, fun b ob q _ _ _ => ⟨ob.slots, k b ob q⟩, fun _ _ _ n _ => n, fun b ob q _ => ⟨ob, k b ob q⟩, fun _ _ q => q, fun _ _ _ q => q, fun _ ps q => ⟨#[], by rw [q]; simp⟩⟩
theorem Un.refl : Un fs ex H H h h := Un.kept fun _ _ q => q
theorem Un.laid (k : ∀ b u, h.get? b = some u → h'.get? b = some u) (hp : h.objs.size ≤ a) (hn : H a = none) : Un fs ex H (upd H a o) h h' where
 keep := fun b u q _ _ _ => k b u q
 slot := fun b u q _ _ _ => ⟨u.slots, k b u q⟩
 free := fun b u q n _ => by rw [zO (Nat.ne_of_lt (Nat.lt_of_lt_of_le (Heap.lt_size q) hp))]; exact n
 there := fun b u q _ => ⟨u, k b u q⟩
 tups := fun b xs q => by rw [zO (ne_of_none q hn)]; exact q
 frzs := fun b u xs q => by rw [zO (ne_of_none q hn)]; exact q
 tbls := fun b ps q => ⟨#[], by rw [zO (ne_of_none q hn), q]; simp⟩
theorem Un.write (mu : Mut (H x)) (he : e = x ∨ H e = some (.own x)) (k : ∀ b u, b ≠ e → h.get? b = some u → h'.get? b = some u) (heo : ∃ u, h'.get? e = some u) : Un fs ex H (upd H x o) h h' := by
 have hx : ∀ b, H b = none → b ≠ x := fun b n z => by subst z; rw [n] at mu; exact mu
 have hb : ∀ b, H b = none → b ≠ e := fun b n z => by
  subst z
  rcases he with r | r
  ·exact hx b n r
  ·rw [n] at r; cases r
 have hm : ∀ b u, H b = some u → ¬ Mut (some u) → b ≠ x := fun b u q nm z => by subst z; rw [q] at mu; exact nm mu
 refine ⟨fun b u q n _ _ => k b u (hb b n) q, fun b u q n _ _ => ⟨u.slots, k b u (hb b n) q⟩, fun b u q n _ => by rw [zO (hx b n)]; exact n, fun b u q _ => ?_,
  fun b xs q => by rw [zO (hm b _ q fun z => z)]; exact q, fun b u xs q => by rw [zO (hm b _ q fun z => z)]; exact q, fun b ps q => ⟨#[], by rw [zO (hm b _ q fun z => z), q]; simp⟩⟩
 by_cases hbe : b = e
 ·subst hbe; exact heo
 ·exact ⟨u, k b u hbe q⟩
theorem Un.mono (u : Un fs ex H H1 h h1) (hs : ∀ b ∈ fs, b ∈ fs') (hx : ∀ b ∈ ex, b ∈ ex') : Un fs' ex' H H1 h h1 :=
 ⟨fun b ob q n hb he => u.keep b ob q n (fun z => hb (hs b z)) fun z => he (hx b z), fun _ _ q n _ he => u.any q n fun z => he (hx _ z), fun b ob q n he => u.free b ob q n fun z => he (hx b z), fun b ob q he => u.there b ob q fun z => he (hx b z), u.tups, u.frzs, u.tbls⟩
end
def trk (h : Heap) (H : Hp) : List Addr := (List.range h.objs.size).filter fun a => (H a).isSome
def hidT (h : Heap) (H : Hp) : Heap := PySem.W.hideAll h (trk h H)
theorem hidT_size (h : Heap) (H : Hp) : (hidT h H).objs.size = h.objs.size := PySem.W.hideAll_size _ _
theorem hidT_get {h : Heap} {H : Hp} {b : Addr} {o : Obj} (e : h.get? b = some o) (n : H b = none) : (hidT h H).get? b = some o :=
 PySem.W.hideAll_get _ e fun hm => by
  have q : (H b).isSome = true := (List.mem_filter.mp hm).2
  rw [n] at q; simp at q
theorem of_hidT {h : Heap} {H : Hp} {b : Addr} {o : Obj} (e : (hidT h H).get? b = some o) : h.get? b = some o ∧ H b = none := by
 have e' : h.get? b = some o := PySem.W.of_hideAll (trk h H) e
 refine ⟨e', ?_⟩
 cases q : H b with
 | none => rfl
 | some x =>
  have hm : b ∈ trk h H := List.mem_filter.mpr ⟨List.mem_range.mpr (Heap.lt_size e'), by simp [q]⟩
  have z : (hidT h H).get? b = none := PySem.W.hideAll_none (trk h H) hm
  rw [z] at e; cases e
def allNews (g h : Heap) (L : Addr) : List (Addr × Obj) := (List.range h.objs.size).filterMap fun a => if a = L ∨ (g.get? a).isSome = true then none else (h.get? a).map fun o => (a, o)
def rest (g h : Heap) (L d : Addr) : List (Addr × Obj) := (allNews g h L).filter fun p => decide (p.1 ≠ d)
end L2
namespace L2
open PySem PySem.Spec PyProof.Rows
structure Mod (K : PySem.W.Frag) (mg : Str → Option Value) (base : Heap) : Prop where
 kin : K.In base
 glob : base.Ns mainGlobals mg
 blt : ∃ mb, base.Ns builtinsNs mb ∧ ∀ x : Str, x ≠ "__name__" → mb x = bootBuiltins x
 nolimit : base.NoLimit
 seer : base.NoSeer
structure Cx where
 prog : Program
 w : World
 K : PySem.W.Frag
 mg : Str → Option Value
 base : Heap
 A : Around
 N : List Str
 s₀ : Shared
 H₀ : Hp
 env : Env
 outer : List Env
 stack : List Env
 ex : List Addr
 fn : Str → Bool
 calm : Bool
 pn : List (Addr × Obj)
 xe : Value → Shared → Prop
def frs (l : List Env) : List Addr := l.filterMap (·.frame)
abbrev Cx.fs (X : Cx) : List Addr := frs X.outer
def Vis (sc : Scope) (x : Str) : Prop := sc.names.lookup x = some .local ∨ sc.names.lookup x = some .cell ∨ sc.names.lookup x = some .free
def Loc (sc : Scope) (x : Str) : Prop := sc.names.lookup x = some .local ∨ sc.names.lookup x = some .cell
def Look (env : Env) (h : Heap) (m : Str → Option Value) (x : Str) (u : Value) : Prop :=
 (env.kindOf x = some .local ∧ m x = some u) ∨ ((env.kindOf x = some .cell ∨ env.kindOf x = some .free) ∧ ∃ c, env.cells.lookup x = some c ∧ h.IsCell c (some u))
structure Cx.Ok (X : Cx) : Prop where
 mod : Mod X.K X.mg X.base
 kind : X.env.scope.kind = .function
 glob : X.env.globals = mainGlobals
 blt : X.env.builtins = builtinsNs
 above : X.s₀.heap.objs.size ≤ X.env.locals
 inj : ∀ x y c, X.env.cells.lookup x = some c → X.env.cells.lookup y = some c → x = y
 has : ∀ x, (X.env.kindOf x = some .cell ∨ X.env.kindOf x = some .free) → ∃ c, X.env.cells.lookup x = some c
 cab : ∀ x c, X.fn x = true → X.env.cells.lookup x = some c → X.s₀.heap.objs.size ≤ c
 hd : X.calm = true → X.A.handled = none
 frames : X.A.frames = some X.stack
 stk : X.stack = X.outer ∨ (X.stack = X.env :: X.outer ∧ X.env.frame = some X.env.locals)
 exf : ∀ b ∈ X.ex, b ≠ X.env.locals ∧ ∀ x c, X.env.cells.lookup x = some c → c ≠ b
 bs : ∀ b o, X.base.get? b = some o → X.s₀.heap.get? b = some o ∧ X.H₀ b = none
 bsz : X.base.objs.size ≤ X.s₀.heap.objs.size
 noex : ∀ b o, X.base.get? b = some o → b ∉ X.ex
 exfs : ∀ b ∈ X.ex, b ∉ X.fs
 funs : X.s₀.heap.FunFrames X.base X.outer
 frf : ∀ b ∈ X.fs, X.H₀ b = none
structure Inv (X : Cx) (pins : List (Addr × Obj)) (σ : List (Option V)) (H : Hp) (s : Shared) : Prop where
 ok : X.Ok
 os : s.os = X.s₀.os
 bare : AllBare s.gens
 base : Un X.fs X.ex X.H₀ H X.s₀.heap s.heap
 loc : ∃ m, s.heap.Ns X.env.locals m ∧ ∀ (i : Nat) (x : Str) (v : V), X.N[i]? = some x → σ[i]? = some (some v) → Vis X.env.scope x → ∃ u, RelV v u ∧ Look X.env s.heap m x u
 cell : ∀ x c, X.env.cells.lookup x = some c → ∃ v, s.heap.IsCell c v
 free : H X.env.locals = none
 freeC : ∀ x c, X.env.cells.lookup x = some c → H c = none
 pin : ∀ p ∈ X.pn ++ pins, s.heap.get? p.1 = some p.2 ∧ H p.1 = none ∧ p.1 ≠ X.env.locals ∧ p.1 ∉ X.fs ∧ ∀ v, p.2.data ≠ .cell v
 hok : HOk X.prog X.w H s.heap
 len : σ.length = X.N.length
section
variable {X : Cx} {pins : List (Addr × Obj)} {σ : List (Option V)} {H H' : Hp} {s : Shared} {h' : Heap}
theorem Cx.Ok.nofr (ok : X.Ok) {b : Addr} {o : Obj} (e : X.base.get? b = some o) : b ∉ X.fs := fun hb => by
 have := (ok.funs.mem hb).1
 rw [e] at this; cases this
theorem Inv.bs (I : Inv X pins σ H s) : ∀ b o, X.base.get? b = some o → s.heap.get? b = some o ∧ H b = none := fun b o e =>
 ⟨I.base.keep b o (I.ok.bs b o e).1 (I.ok.bs b o e).2 (I.ok.nofr e) (I.ok.noex b o e), I.base.free b o (I.ok.bs b o e).1 (I.ok.bs b o e).2 (I.ok.noex b o e)⟩
theorem Inv.bk (I : Inv X pins σ H s) : ∀ b o, X.base.get? b = some o → s.heap.get? b = some o := fun b o e => (I.bs b o e).1
theorem Inv.mod (I : Inv X pins σ H s) : Mod X.K X.mg X.base := I.ok.mod
theorem Inv.kIn (I : Inv X pins σ H s) : X.K.In s.heap := I.ok.mod.kin.keeps I.bk
theorem Inv.lt (I : Inv X pins σ H s) : X.env.locals < s.heap.objs.size := let ⟨_, hn, _⟩ := I.loc; hn.lt
theorem Inv.sz (I : Inv X pins σ H s) : X.s₀.heap.objs.size ≤ s.heap.objs.size := Nat.le_trans I.ok.above (Nat.le_of_lt I.lt)
theorem Inv.nofs (I : Inv X pins σ H s) {a : Addr} (h : s.heap.objs.size ≤ a) : a ∉ X.fs := fun hb => by
 obtain ⟨_, o, ho, _⟩ := I.ok.funs.mem hb
 exact absurd (Nat.lt_of_lt_of_le (Heap.lt_size ho) (Nat.le_trans I.sz h)) (Nat.lt_irrefl _)
theorem Inv.cne (I : Inv X pins σ H s) : ∀ x c, X.env.cells.lookup x = some c → c ≠ X.env.locals := fun x c e z => by
 obtain ⟨v, o, ho, hd⟩ := I.cell x c e
 obtain ⟨m, ⟨o', es, ep, ho', hd', _⟩, _⟩ := I.loc
 rw [z, ho'] at ho; cases ho; rw [hd'] at hd; cases hd
theorem Inv.funs (I : Inv X pins σ H s) : s.heap.FunFrames X.base X.outer := by
 have all : ∀ (l : List Env), (∀ b ∈ frs l, b ∈ X.fs) → X.s₀.heap.FunFrames X.base l → s.heap.FunFrames X.base l := by
  intro l
  induction l with
  | nil => intro _ _; trivial
  | cons env r ih =>
   intro hs hl
   obtain ⟨hk, ⟨L, o, hf, hn, ho, hd⟩, hr⟩ := hl
   have hL : L ∈ X.fs := hs L (by unfold frs; rw [List.filterMap_cons, hf]; exact List.mem_cons_self)
   obtain ⟨sl, e⟩ := I.base.slot L o ho (I.ok.frf L hL) hL fun z => I.ok.exfs L z hL
   exact ⟨hk, ⟨L, _, hf, hn, e, hd⟩, ih (fun b hb => hs b (by unfold frs; rw [List.filterMap_cons, hf]; exact List.mem_cons_of_mem _ hb)) hr⟩
 exact all X.outer (fun _ hb => hb) I.ok.funs
theorem Inv.stack (I : Inv X pins σ H s) : s.heap.FunFrames X.base X.stack := by
 rcases I.ok.stk with e | ⟨e, hf⟩
 ·rw [e]; exact I.funs
 ·rw [e]
  obtain ⟨m, hn, _⟩ := I.loc
  refine .cons (by rw [I.ok.kind]; decide) hf hn ?_ I.funs
  exact Heap.get?_none_of_le (Nat.le_trans I.ok.bsz I.ok.above)
theorem Inv.stkSub (I : Inv X pins σ H s) : ∀ b ∈ frs X.stack, b ∈ X.env.locals :: X.fs := fun b hb => by
 rcases I.ok.stk with e | ⟨e, hf⟩
 ·rw [e] at hb; exact List.mem_cons_of_mem _ hb
 ·rw [e] at hb
  unfold frs at hb
  rw [List.filterMap_cons, hf] at hb
  exact hb
theorem Inv.stkFree (I : Inv X pins σ H s) : ∀ b ∈ frs X.stack, H b = none := fun b hb => by
 rcases List.mem_cons.mp (I.stkSub b hb) with e | hb
 ·rw [e]; exact I.free
 ·obtain ⟨_, o, ho, _⟩ := I.ok.funs.mem hb
  exact I.base.free b o ho (I.ok.frf b hb) fun z => I.ok.exfs b z hb
theorem Inv.step {g' : Array GenState} {t' : Nat} {d' : Drawn} {ch : List Addr} (I : Inv X pins σ H s)
  (hch : ∀ b ∈ ch, (b ∈ X.ex ∨ X.s₀.heap.objs.size ≤ b) ∧ b ≠ X.env.locals ∧ (∀ x c, X.env.cells.lookup x = some c → c ≠ b) ∧ ∀ p ∈ X.pn ++ pins, p.1 ≠ b)
  (keep : ∀ b o, b ≠ X.env.locals → b ∉ X.fs → b ∉ ch → s.heap.get? b = some o → H b = none → h'.get? b = some o)
  (slot : ∀ b o, b ≠ X.env.locals → b ∈ X.fs → b ∉ ch → s.heap.get? b = some o → H b = none → ∃ sl, h'.get? b = some { o with slots := sl }) (free : ∀ b o, b ∉ ch → s.heap.get? b = some o → H b = none → H' b = none)
  (there : ∀ b o, b ∉ ch → s.heap.get? b = some o → ∃ o', h'.get? b = some o')
  (tups : ∀ b xs, H b = some (.tup xs) → H' b = some (.tup xs)) (frzs : ∀ b o u, H b = some (.frz o u) → H' b = some (.frz o u)) (tbls : ∀ b ps, H b = some (.tbl ps) → ∃ more, H' b = some (.tbl (ps ++ more)))
  (ns : ∀ m, s.heap.Ns X.env.locals m → h'.Ns X.env.locals m) (hok : HOk X.prog X.w H' h') (hg : AllBare g') :
  Inv X pins σ H' { s with heap := h', gens := g', drawn := d', toks := t' } := by
 have neL : ∀ b o, X.s₀.heap.get? b = some o → b ≠ X.env.locals := fun b o e => Nat.ne_of_lt (Nat.lt_of_lt_of_le (Heap.lt_size e) I.ok.above)
 have neC : ∀ b o, X.s₀.heap.get? b = some o → b ∉ X.ex → b ∉ ch := fun b o e hx hb => by
  rcases (hch b hb).1 with z | z
  ·exact hx z
  ·exact absurd (Nat.lt_of_lt_of_le (Heap.lt_size e) z) (Nat.lt_irrefl _)
 have cellK : ∀ x c, X.env.cells.lookup x = some c → ∀ v, s.heap.IsCell c v → h'.IsCell c v := fun x c e v ⟨o, ho, hd⟩ => by
  have nch : c ∉ ch := fun z => (hch c z).2.2.1 x c e rfl
  by_cases hc : c ∈ X.fs
  ·obtain ⟨sl, q⟩ := slot c o (I.cne x c e) hc nch ho (I.freeC x c e)
   exact ⟨_, q, hd⟩
  ·exact ⟨o, keep c o (I.cne x c e) hc nch ho (I.freeC x c e), hd⟩
 refine ⟨I.ok, I.os, hg, ⟨fun b o e n hb hx => ?_, fun b o e n hb hx => ?_, fun b o e n hx => ?_, fun b o e hx => ?_, fun b xs e => tups b xs (I.base.tups b xs e), fun b o xs e => frzs b o xs (I.base.frzs b o xs e), fun b ps e => ?_⟩, ?_, fun x c e => ?_, ?_, fun x c e => ?_, fun p hp => ?_, hok, I.len⟩
 ·exact keep b o (neL b o e) hb (neC b o e hx) (I.base.keep b o e n hb hx) (I.base.free b o e n hx)
 ·obtain ⟨sl, e1⟩ := I.base.slot b o e n hb hx
  obtain ⟨sl', e2⟩ := slot b _ (neL b o e) hb (neC b o e hx) e1 (I.base.free b o e n hx)
  exact ⟨sl', e2⟩
 ·obtain ⟨o', e1⟩ := I.base.there b o e hx
  exact free b o' (neC b o e hx) e1 (I.base.free b o e n hx)
 ·obtain ⟨o', e1⟩ := I.base.there b o e hx
  exact there b o' (neC b o e hx) e1
 ·obtain ⟨m1, e1⟩ := I.base.tbls b ps e
  obtain ⟨m2, e2⟩ := tbls b _ e1
  exact ⟨m1 ++ m2, by rw [e2, Array.append_assoc]⟩
 ·obtain ⟨m, hn, hl⟩ := I.loc
  refine ⟨m, ns m hn, fun i x v e1 e2 e3 => ?_⟩
  obtain ⟨u, r, l⟩ := hl i x v e1 e2 e3
  refine ⟨u, r, ?_⟩
  rcases l with l | ⟨k, c, e, z⟩
  ·exact .inl l
  ·exact .inr ⟨k, c, e, cellK x c e _ z⟩
 ·obtain ⟨v, z⟩ := I.cell x c e
  exact ⟨v, cellK x c e v z⟩
 ·obtain ⟨m, ⟨o, _, _, ho, _⟩, _⟩ := I.loc
  exact free _ o (fun z => (hch _ z).2.1 rfl) ho I.free
 ·obtain ⟨v, o, ho, hd⟩ := I.cell x c e
  exact free c o (fun z => (hch c z).2.2.1 x c e rfl) ho (I.freeC x c e)
 ·obtain ⟨e, n, ne, nf, d⟩ := I.pin p hp
  have nch : p.1 ∉ ch := fun z => (hch p.1 z).2.2.2 p hp rfl
  exact ⟨keep p.1 p.2 ne nf nch e n, free p.1 p.2 nch e n, ne, nf, d⟩
theorem Inv.un {t' : Nat} (I : Inv X pins σ H s) (u : Un X.fs [] H H' s.heap h') (hok : HOk X.prog X.w H' h') : Inv X pins σ H' { s with heap := h', toks := t' } := by
 obtain ⟨m, ⟨o, es, ep, ho, r⟩, _⟩ := id I.loc
 obtain ⟨sl, hL⟩ := u.any ho I.free (by simp)
 exact I.step (g' := s.gens) (d' := s.drawn) (ch := []) (fun _ z => nomatch z) (fun b o _ hb _ e n => u.keep b o e n hb (by simp)) (fun b o _ hb _ e n => u.slot b o e n hb (by simp)) (fun b o _ e n => u.free b o e n (by simp)) (fun b o _ e => u.there b o e (by simp)) u.tups u.frzs u.tbls (fun m' hm => by
  obtain ⟨o', es', ep', ho', r'⟩ := hm
  rw [ho] at ho'; cases ho'
  exact ⟨_, es', ep', hL, r'⟩) hok I.bare
theorem Inv.call {g' : Array GenState} {t' : Nat} {d' : Drawn} {ch : List Addr} (I : Inv X pins σ H s) (u : Un (frs X.stack) ch H H' s.heap h') (hok : HOk X.prog X.w H' h') (hg : AllBare g')
  (hch : ∀ b ∈ ch, (b ∈ X.ex ∨ X.s₀.heap.objs.size ≤ b) ∧ b ≠ X.env.locals ∧ (∀ x c, X.env.cells.lookup x = some c → c ≠ b) ∧ ∀ p ∈ X.pn ++ pins, p.1 ≠ b) :
  Inv X pins σ H' { s with heap := h', gens := g', drawn := d', toks := t' } := by
 obtain ⟨m, ⟨o, es, ep, ho, r⟩, _⟩ := id I.loc
 obtain ⟨sl, hL⟩ := u.any ho I.free fun z => (hch _ z).2.1 rfl
 exact I.step (ch := ch) hch (fun b o hL hb hc e n => u.keep b o e n (fun z => (List.mem_cons.mp (I.stkSub b z)).elim hL hb) hc) (fun b o _ _ hc e n => u.any e n hc) (fun b o hc e n => u.free b o e n hc) (fun b o hc e => u.there b o e hc) u.tups u.frzs u.tbls (fun m' hm => by
  obtain ⟨o', es', ep', ho', r'⟩ := hm
  rw [ho] at ho'; cases ho'
  exact ⟨_, es', ep', hL, r'⟩) hok hg
theorem Inv.turned {t' : Nat} {it : Addr} (I : Inv X pins σ H s) (k : ∀ b o, b ≠ it → s.heap.get? b = some o → h'.get? b = some o) (hn : H it = none) (hL : it ≠ X.env.locals)
  (h1 : it ∈ X.ex ∨ X.s₀.heap.objs.size ≤ it) (h2 : ∀ x c, X.env.cells.lookup x = some c → c ≠ it) (h3 : ∀ p ∈ X.pn ++ pins, p.1 ≠ it) : Inv X pins σ H { s with heap := h', toks := t' } := by
 have nit : ∀ b u, H b = some u → b ≠ it := fun b u e z => by rw [z, hn] at e; cases e
 refine I.step (g' := s.gens) (d' := s.drawn) (ch := [it]) (fun b hb => ?_) (fun b o _ _ hc e _ => k b o (fun z => hc (by simp [z])) e) (fun b o _ _ hc e _ => ⟨o.slots, k b o (fun z => hc (by simp [z])) e⟩) (fun _ _ _ _ n => n)
  (fun b o hc e => ⟨o, k b o (fun z => hc (by simp [z])) e⟩) (fun _ _ e => e) (fun _ _ _ e => e) (fun b ps e => ⟨#[], by rw [e]; simp⟩) (fun m hm => ?_) (fun b u e => ?_) I.bare
 ·have e : b = it := by simpa using hb
  subst e
  exact ⟨h1, hL, h2, h3⟩
 ·obtain ⟨o, es, ep, ho, r⟩ := hm
  exact ⟨o, es, ep, k _ o (Ne.symm hL) ho, r⟩
 ·refine (I.hok b u e).stay (fun c v hc q => k c v ?_ q) (fun _ q => q) fun _ _ q => q
  rcases hc with z | z
  ·rw [z]; exact nit b u e
  ·exact nit c _ z
theorem Inv.tok (I : Inv X pins σ H s) (t : Nat) : Inv X pins σ H { s with toks := t } := I.un (h' := s.heap) (t' := t) Un.refl I.hok
theorem Inv.kept {t' : Nat} (I : Inv X pins σ H s) (k : ∀ b u, s.heap.get? b = some u → h'.get? b = some u) : Inv X pins σ H { s with heap := h', toks := t' } := I.un (Un.kept k) (I.hok.kept k)
theorem Inv.laid {a : Addr} {o : HO} {t' : Nat} (I : Inv X pins σ H s) (k : ∀ b u, s.heap.get? b = some u → h'.get? b = some u) (hp : s.heap.objs.size ≤ a) (new : ObjOk X.prog X.w (upd H a o) h' a o) :
  Inv X pins σ (upd H a o) { s with heap := h', toks := t' } := I.un (Un.laid k hp (I.hok.fresh hp)) (I.hok.laid k hp new)
theorem Inv.write {x e : Addr} {o : HO} {t' : Nat} (I : Inv X pins σ H s) (mu : Mut (H x)) (he : e = x ∨ H e = some (.own x)) (k : ∀ b u, b ≠ e → s.heap.get? b = some u → h'.get? b = some u) (heo : ∃ u, h'.get? e = some u)
  (new : ObjOk X.prog X.w (upd H x o) h' x o) : Inv X pins σ (upd H x o) { s with heap := h', toks := t' } := I.un (Un.write mu he k heo) (I.hok.write mu he k heo new)
theorem Inv.pins_of {pins' : List (Addr × Obj)} (I : Inv X pins σ H s) (h : ∀ p ∈ pins', s.heap.get? p.1 = some p.2 ∧ H p.1 = none ∧ p.1 ≠ X.env.locals ∧ p.1 ∉ X.fs ∧ ∀ v, p.2.data ≠ .cell v) : Inv X pins' σ H s :=
 ⟨I.ok, I.os, I.bare, I.base, I.loc, I.cell, I.free, I.freeC, fun p hp => (List.mem_append.mp hp).elim (fun z => I.pin p (List.mem_append_left _ z)) (h p), I.hok, I.len⟩
theorem nodup_ix {N : List Str} (hN : N.Nodup) {i j : Nat} {x : Str} (a : N[i]? = some x) (b : N[j]? = some x) : i = j := by
 obtain ⟨h1, e1⟩ := List.getElem?_eq_some_iff.mp a
 obtain ⟨h2, e2⟩ := List.getElem?_eq_some_iff.mp b
 exact (List.getElem_inj hN).mp (e1.trans e2.symm)
theorem store_ok2 {M : Model} {A : Around} {E : Value → Shared → Prop} {i : Nat} {x : Str} {v : V} {u : Value} {Q : Unit → Shared → Prop} (I : Inv X pins σ H s) (hN : X.N.Nodup) (hi : X.N[i]? = some x) (hx : Loc X.env.scope x) (r : RelV v u)
  (h : ∀ s', Inv X pins (σ.set i (some v)) H s' → (∃ a, Heap.SameBut a s.heap s'.heap ∧ (a = X.env.locals ∨ X.env.cells.lookup x = some a)) → Q () s') (hf : X.fn x = true ∨ X.env.scope.names.lookup x = some .local := by first | exact .inl rfl | exact .inr rfl | assumption) : wpAny M A (storeName X.env x u) Q E s := by
 obtain ⟨m, hn, hl⟩ := id I.loc
 have hcls : (X.env.scope.kind == .class || (X.env.scope.kind == .module && X.env.locals != X.env.globals)) = false := by rw [I.ok.kind]; rfl
 have hiσ : i < σ.length := by rw [I.len]; exact (List.getElem?_eq_some_iff.mp hi).1
 have cne := I.cne
 have tracked : ∀ {a : Addr} {h' : Heap}, (∃ o, s.heap.get? a = some o ∧ H a = none) → Heap.SameBut a s.heap h' → HOk X.prog X.w H h' := fun {a h'} ha hs b ob e => by
  obtain ⟨_, _, hfree⟩ := ha
  refine (I.hok b ob e).stay (fun c w' hc q => (hs.2 c ?_).trans q) (fun _ q => q) fun _ _ q => q
  rintro rfl
  rcases hc with rfl | hc
  ·rw [hfree] at e; cases e
  ·rw [hfree] at hc; cases hc
 rcases hx with hk | hk
 ·refine wpAny_storeName_local hk hn (fun h' hn' hs => ?_) hcls
  obtain ⟨oL, _, _, hoL, _⟩ := id hn
  refine h _ ⟨I.ok, I.os, I.bare, ⟨fun b o e n hb hx => ?_, fun b o e n hb hx => ?_, I.base.free, fun b o e hx => ?_, I.base.tups, I.base.frzs, I.base.tbls⟩, ⟨_, hn', fun j y v' e1 e2 e3 => ?_⟩, fun y c e => ?_, I.free, I.freeC, fun p hp => ?_, tracked ⟨oL, hoL, I.free⟩ hs, by simpa using I.len⟩ ⟨_, hs, .inl rfl⟩
  ·exact (hs.2 b (Nat.ne_of_lt (Nat.lt_of_lt_of_le (Heap.lt_size e) I.ok.above))).trans (I.base.keep b o e n hb hx)
  ·obtain ⟨sl, e1⟩ := I.base.slot b o e n hb hx
   exact ⟨sl, (hs.2 b (Nat.ne_of_lt (Nat.lt_of_lt_of_le (Heap.lt_size e) I.ok.above))).trans e1⟩
  ·obtain ⟨o', e1⟩ := I.base.there b o e hx
   exact ⟨o', (hs.2 b (Nat.ne_of_lt (Nat.lt_of_lt_of_le (Heap.lt_size e) I.ok.above))).trans e1⟩
  ·by_cases hj : j = i
   ·subst hj
    rw [hi] at e1; cases e1
    rw [List.getElem?_set_self hiσ] at e2
    cases e2
    exact ⟨u, r, .inl ⟨hk, by simp⟩⟩
   ·rw [List.getElem?_set_ne (Ne.symm hj)] at e2
    obtain ⟨u', r', q⟩ := hl j y v' e1 e2 e3
    refine ⟨u', r', ?_⟩
    rcases q with ⟨k, e⟩ | ⟨k, c, e, z⟩
    ·refine .inl ⟨k, ?_⟩
     have : y ≠ x := fun e => hj (nodup_ix hN e1 (e ▸ hi))
     simp [this, e]
    ·exact .inr ⟨k, c, e, z.sameBut hs (cne y c e)⟩
  ·obtain ⟨w', z⟩ := I.cell y c e
   exact ⟨w', z.sameBut hs (cne y c e)⟩
  ·obtain ⟨e, n, ne, nf, d⟩ := I.pin p hp
   exact ⟨(hs.2 p.1 ne).trans e, n, ne, nf, d⟩
 ·have hfn : X.fn x = true := by
   rcases hf with z | z
   ·exact z
   ·rw [z] at hk; cases hk
  obtain ⟨c, hc⟩ := I.ok.has x (.inl hk)
  obtain ⟨w', z⟩ := I.cell x c hc
  refine wpAny_storeName_cell I.ok.kind hk hc z (fun h' hc' hs => ?_)
  obtain ⟨oc, hoc, hocd⟩ := id z
  refine h { s with heap := h' } ⟨I.ok, I.os, I.bare, ⟨fun b o e n hb hx => ?_, fun b o e n hb hx => ?_, I.base.free, fun b o e hx => ?_, I.base.tups, I.base.frzs, I.base.tbls⟩, ⟨m, hn.sameBut hs (Ne.symm (cne x c hc)), fun j y v' e1 e2 e3 => ?_⟩, fun y c' e => ?_, I.free, I.freeC, fun p hp => ?_, tracked ⟨oc, hoc, I.freeC x c hc⟩ hs, by simpa using I.len⟩ ⟨c, hs, .inr hc⟩
  ·exact (hs.2 b (Nat.ne_of_lt (Nat.lt_of_lt_of_le (Heap.lt_size e) (I.ok.cab x c hfn hc)))).trans (I.base.keep b o e n hb hx)
  ·obtain ⟨sl, e1⟩ := I.base.slot b o e n hb hx
   exact ⟨sl, (hs.2 b (Nat.ne_of_lt (Nat.lt_of_lt_of_le (Heap.lt_size e) (I.ok.cab x c hfn hc)))).trans e1⟩
  ·obtain ⟨o', e1⟩ := I.base.there b o e hx
   exact ⟨o', (hs.2 b (Nat.ne_of_lt (Nat.lt_of_lt_of_le (Heap.lt_size e) (I.ok.cab x c hfn hc)))).trans e1⟩
  ·by_cases hj : j = i
   ·subst hj
    rw [hi] at e1; cases e1
    rw [List.getElem?_set_self hiσ] at e2
    cases e2
    exact ⟨u, r, .inr ⟨.inl hk, c, hc, hc'⟩⟩
   ·rw [List.getElem?_set_ne (Ne.symm hj)] at e2
    obtain ⟨u', r', q⟩ := hl j y v' e1 e2 e3
    refine ⟨u', r', ?_⟩
    rcases q with q | ⟨k, c', e, z'⟩
    ·exact .inl q
    ·refine .inr ⟨k, c', e, z'.sameBut hs ?_⟩
     rintro rfl
     exact hj (nodup_ix hN e1 (I.ok.inj _ _ _ e hc ▸ hi))
  ·by_cases hcc : c' = c
   ·subst hcc; exact ⟨_, hc'⟩
   ·obtain ⟨w2, z2⟩ := I.cell y c' e
    exact ⟨w2, z2.sameBut hs hcc⟩
  ·obtain ⟨e, n, ne, nf, d⟩ := I.pin p hp
   refine ⟨(hs.2 p.1 ?_).trans e, n, ne, nf, d⟩
   intro q
   rw [q, hoc] at e
   have q' : oc = p.2 := Option.some.inj e
   exact d w' (by rw [← q']; exact hocd)
theorem store_ok {M : Model} {A : Around} {E : Value → Shared → Prop} {i : Nat} {x : Str} {v : V} {u : Value} {Q : Unit → Shared → Prop} (I : Inv X pins σ H s) (hN : X.N.Nodup) (hi : X.N[i]? = some x) (hx : Loc X.env.scope x) (r : RelV v u)
  (h : ∀ s', Inv X pins (σ.set i (some v)) H s' → Q () s') (hf : X.fn x = true ∨ X.env.scope.names.lookup x = some .local := by first | exact .inl rfl | exact .inr rfl | assumption) : wpAny M A (storeName X.env x u) Q E s :=
 store_ok2 I hN hi hx r (fun s' I' _ => h s' I') hf
theorem Inv.call' {s' : Shared} {ch : List Addr} (I : Inv X pins σ H s) (ho : s'.os = s.os) (u : Un (frs X.stack) ch H H' s.heap s'.heap) (hok : HOk X.prog X.w H' s'.heap) (hg : AllBare s'.gens)
  (hch : ∀ b ∈ ch, (b ∈ X.ex ∨ X.s₀.heap.objs.size ≤ b) ∧ b ≠ X.env.locals ∧ (∀ x c, X.env.cells.lookup x = some c → c ≠ b) ∧ ∀ p ∈ X.pn ++ pins, p.1 ≠ b) : Inv X pins σ H' s' := by
 obtain ⟨h', g', d', t', o'⟩ := s'
 have e : o' = s.os := ho
 subst e
 exact I.call (g' := g') (t' := t') (d' := d') u hok hg hch
end
abbrev XK := Value → Option Addr → Hp → Prop
abbrev St := List (Option V)
abbrev VK := V → Hp → Prop
abbrev TE := St → Hp → VK → Prop
abbrev TT := St → Hp → (Bool → Hp → Prop) → Prop
abbrev TA := St → Hp → (List V → Hp → Prop) → Prop
structure Ends where
 nx : St → Hp → Prop
 rt : VK
 bk : St → Hp → Prop := fun _ _ => False
 ct : St → Hp → Prop := fun _ _ => False
abbrev TS := Ends → St → Hp → Prop
def EP (X : Cx) (pins : List (Addr × Obj)) (σ : St) (Q : VK) (u : Value) (s' : Shared) : Prop := ∃ v H', Inv X pins σ H' s' ∧ RelV v u ∧ Q v H'
def TP (X : Cx) (pins : List (Addr × Obj)) (σ : St) (Q : Bool → Hp → Prop) (b : Bool) (s' : Shared) : Prop := ∃ H', Inv X pins σ H' s' ∧ Q b H'
def AP (X : Cx) (pins : List (Addr × Obj)) (σ : St) (Q : List V → Hp → Prop) (us : List Value) (s' : Shared) : Prop := ∃ vs H', Inv X pins σ H' s' ∧ Vals vs us ∧ Q vs H'
def SP (X : Cx) (pins : List (Addr × Obj)) (D : Ends) (f : Flow) (s' : Shared) : Prop :=
 match f with
 | .next => ∃ σ' H', Inv X pins σ' H' s' ∧ D.nx σ' H'
 | .brk => ∃ σ' H', Inv X pins σ' H' s' ∧ D.bk σ' H'
 | .cont => ∃ σ' H', Inv X pins σ' H' s' ∧ D.ct σ' H'
 | .ret u => ∃ v σ' H', Inv X pins σ' H' s' ∧ RelV v u ∧ D.rt v H'
def PE (X : Cx) (e : Expr) (t : TE) : Prop :=
 ∀ (pins : List (Addr × Obj)) (s : Shared) (σ : St) (H : Hp) (Q : VK), Inv X pins σ H s → t σ H Q → wpAny (model X.prog X.w) X.A (eval e X.env) (EP X pins σ Q) X.xe s
def PT (X : Cx) (e : Expr) (t : TT) : Prop :=
 ∀ (pins : List (Addr × Obj)) (s : Shared) (σ : St) (H : Hp) (Q : Bool → Hp → Prop), Inv X pins σ H s → t σ H Q → wpAny (model X.prog X.w) X.A (isTrue e X.env (eval e X.env)) (TP X pins σ Q) X.xe s
def PW (X : Cx) (e : Expr) (t : TT) : Prop :=
 ∀ (whole : Sem Value) (pins : List (Addr × Obj)) (s : Shared) (σ : St) (H : Hp) (Q : Bool → Hp → Prop), Inv X pins σ H s → t σ H Q → wpAny (model X.prog X.w) X.A (isTrue e X.env whole) (TP X pins σ Q) X.xe s
theorem PW.pt {X : Cx} {e : Expr} {t : TT} (h : PW X e t) : PT X e t := h _
def PA (X : Cx) (es : List Expr) (t : TA) : Prop :=
 ∀ (pos : Pos) (pins : List (Addr × Obj)) (s : Shared) (σ : St) (H : Hp) (Q : List V → Hp → Prop), Inv X pins σ H s → t σ H Q → wpAny (model X.prog X.w) X.A (spliced (backTo pos (starEach es X.env))) (AP X pins σ Q) X.xe s
def PS (X : Cx) (st : Stmt) (t : TS) : Prop :=
 ∀ (pins : List (Addr × Obj)) (s : Shared) (σ : St) (H : Hp) (D : Ends), Inv X pins σ H s → t D σ H → wpAny (model X.prog X.w) X.A (exec st X.env) (SP X pins D) X.xe s
def PSs (X : Cx) (st : List Stmt) (t : TS) : Prop :=
 ∀ (pins : List (Addr × Obj)) (s : Shared) (σ : St) (H : Hp) (D : Ends), Inv X pins σ H s → t D σ H → wpAny (model X.prog X.w) X.A (execs st X.env) (SP X pins D) X.xe s
theorem thn {α : Type} {t : Sem α} {Q Q' : α → Shared → Prop} {M : Model} {A : Around} {E : Value → Shared → Prop} {s : Shared} (h : wpAny M A t Q E s) (hQ : ∀ a s, Q a s → Q' a s) : wpAny M A t Q' E s := wpAny_mono h hQ fun _ _ x => x
end L2
namespace L2
open PySem PySem.Spec PyProof.Rows
section
variable {X : Cx}
def tVar (i : Nat) : TE := fun σ H Q => ∃ v, σ[i]? = some (some v) ∧ Q v H
def tC (v : V) : TE := fun _ H Q => Q v H
theorem pe_var {i : Nat} {x : Str} {pos : Pos} (hN : X.N[i]? = some x) (hv : Vis X.env.scope x) (hd : (x == ("__debug__" : Str)) = false := by decide) (hcd : (x == ("__classdict__" : Str)) = false := by decide) : PE X (.Name x pos) (tVar i) := by
 intro pins s σ H Q I h
 obtain ⟨v, e, h⟩ := h
 obtain ⟨m, hn, hl⟩ := I.loc
 obtain ⟨u, r, l⟩ := hl i x v hN e hv
 have fin : EP X pins σ Q u s := ⟨v, H, I, r, h⟩
 rcases l with ⟨hk, hm⟩ | ⟨hk, c, hc, hcell⟩
 ·exact wpAny_Name (wpAny_loadName_local I.ok.kind hk hn hm fin) hd
 ·rcases hk with hk | hk
  ·exact wpAny_Name (wpAny_loadName_cell I.ok.kind hk hc hcell fin) hd
  ·exact wpAny_Name (wpAny_loadName_free I.ok.kind hk hc hcell fin hcd) hd
theorem pe_int {i j pos} : PE X (.Constant (.int i) j pos) (tC (.int i)) := fun _ _ _ H _ I h => wpAny_Constant_int ⟨.int i, H, I.tok _, ⟨_, rfl⟩, h⟩
theorem pe_bl {b j pos} : PE X (.Constant (.bool b) j pos) (tC (.bl b)) := fun _ _ _ H _ I h => Constant_bool ⟨.bl b, H, I, rfl, h⟩
theorem pe_non {j pos} : PE X (.Constant .none j pos) (tC .non) := fun _ _ _ H _ I h => Constant_none ⟨.non, H, I, rfl, h⟩
theorem pe_str {x j pos} : PE X (.Constant (.str x) j pos) (tC (.str x)) := fun _ _ _ H _ I h => Calls.Constant_str ⟨.str x, H, I.tok _, ⟨_, rfl⟩, h⟩
def Gl (X : Cx) (x : Str) : Prop := X.env.kindOf x = some .globalImplicit
theorem ld_glob {E : Value → Shared → Prop} {pins : List (Addr × Obj)} {s : Shared} {σ : St} {H : Hp} {x : Str} {u : Value} {pos : Pos} {Q : Value → Shared → Prop} (I : Inv X pins σ H s) (hg : Gl X x) (hm : X.mg x = some u) (h : Q u s)
  (hd : (x == ("__debug__" : Str)) = false := by decide) : wpAny (model X.prog X.w) X.A (eval (.Name x pos) X.env) Q E s :=
 Calls.Name_function_global I.ok.kind hg (Calls.loadGlobal_global (by rw [I.ok.glob]; exact I.mod.glob.keeps I.bk) hm h) hd
theorem ld_blt {E : Value → Shared → Prop} {pins : List (Addr × Obj)} {s : Shared} {σ : St} {H : Hp} {x : Str} {u : Value} {pos : Pos} {Q : Value → Shared → Prop} (I : Inv X pins σ H s) (hg : Gl X x) (hm : X.mg x = none) (hv : bootBuiltins x = some u) (h : Q u s)
  (hn : x ≠ "__name__" := by decide) (hd : (x == ("__debug__" : Str)) = false := by decide) : wpAny (model X.prog X.w) X.A (eval (.Name x pos) X.env) Q E s := by
 obtain ⟨mb, h1, h2⟩ := I.mod.blt
 exact Calls.Name_function_global I.ok.kind hg (Calls.loadGlobal_builtin (by rw [I.ok.glob]; exact I.mod.glob.keeps I.bk) hm (by rw [I.ok.blt]; exact h1.keeps I.bk) ((h2 x hn).trans hv) h) hd
theorem pe_glob {x : Str} {v : V} {u : Value} {pos : Pos} (hg : Gl X x) (hm : X.mg x = some u) (r : RelV v u) (hd : (x == ("__debug__" : Str)) = false := by decide) : PE X (.Name x pos) (tC v) :=
 fun _ _ _ H _ I h => ld_glob I hg hm ⟨v, H, I, r, h⟩ hd
theorem pe_bltn {x : Str} {v : V} {u : Value} {pos : Pos} (hg : Gl X x) (hm : X.mg x = none) (hv : bootBuiltins x = some u) (r : RelV v u) (hn : x ≠ "__name__" := by decide) (hd : (x == ("__debug__" : Str)) = false := by decide) : PE X (.Name x pos) (tC v) :=
 fun _ _ _ H _ I h => ld_blt I hg hm hv ⟨v, H, I, r, h⟩ hn hd
variable {a b : Expr} {ta tb : TE} {pos : Pos}
def tB (t : TE) : TT := fun σ H Q => t σ H fun x H1 => ∃ c, x = .bl c ∧ Q c H1
theorem pt_val {e : Expr} {t : TE} (h : PE X e t) (he : ∀ whole, isTrue e X.env whole = (do let v ← whole; standAt e.pos; holding [v] (truthy v)) := by intro _; rfl) : PT X e (tB t) := by
 intro pins s σ H Q I hw
 refine isTrue_plain (thn (h pins s σ H _ I hw) fun v s1 ⟨x, H1, I1, r1, q1⟩ => ?_) (he _)
 obtain ⟨d, rfl, q⟩ := q1
 cases r1
 exact wpAny_truthy_bool ⟨H1, I1, q⟩
variable {tA tB' : TT} {rest : List Expr}
def tAnd (t u : TT) : TT := fun σ H Q => t σ H fun c H1 => if c = true then u σ H1 Q else Q false H1
def tOr (t u : TT) : TT := fun σ H Q => t σ H fun c H1 => if c = true then Q true H1 else u σ H1 Q
def tNot (t : TT) : TT := fun σ H Q => t σ H fun c H1 => Q (!c) H1
theorem pw_and1 (ha : PT X a tA) : PW X (.BoolOp .And [a] pos) tA := by
 intro wh pins s σ H Q I h
 refine isTrue_and (thn (ha pins s σ H Q I h) fun c s1 e => ?_)
 cases c with
 | true => exact isTrue_and_nil e
 | false => exact e
theorem pw_or1 (ha : PT X a tA) : PW X (.BoolOp .Or [a] pos) tA := by
 intro wh pins s σ H Q I h
 refine isTrue_or (thn (ha pins s σ H Q I h) fun c s1 e => ?_)
 cases c with
 | false => exact isTrue_or_nil e
 | true => exact e
theorem pw_and (ha : PT X a tA) (hb : PW X (.BoolOp .And (b :: rest) pos) tB') : PW X (.BoolOp .And (a :: b :: rest) pos) (tAnd tA tB') := by
 intro wh pins s σ H Q I h
 refine isTrue_and (thn (ha pins s σ H _ I h) fun c s1 ⟨H1, I1, q1⟩ => ?_)
 cases c with
 | true => exact hb wh pins s1 σ H1 Q I1 q1
 | false => exact ⟨H1, I1, q1⟩
theorem pw_or (ha : PT X a tA) (hb : PW X (.BoolOp .Or (b :: rest) pos) tB') : PW X (.BoolOp .Or (a :: b :: rest) pos) (tOr tA tB') := by
 intro wh pins s σ H Q I h
 refine isTrue_or (thn (ha pins s σ H _ I h) fun c s1 ⟨H1, I1, q1⟩ => ?_)
 cases c with
 | true => exact ⟨H1, I1, q1⟩
 | false => exact hb wh pins s1 σ H1 Q I1 q1
theorem pt_not (ha : PT X a tA) : PT X (.UnaryOp .Not a pos) (tNot tA) := by
 intro pins s σ H Q I h
 exact isTrue_not (ha pins s σ H (fun c H1 => Q (!c) H1) I h)
def tAndV (ta tb : TE) : TE := fun σ H Q => ta σ H fun x H1 => ∃ c, x = .bl c ∧ if c = true then tb σ H1 Q else Q (.bl false) H1
def tNotV (ta : TE) : TE := fun σ H Q => ta σ H fun x H1 => ∃ c, x = .bl c ∧ Q (.bl (!c)) H1
theorem pe_one {op} {t : TE} (h : PE X a t) : PE X (.BoolOp op [a] pos) t := fun pins s σ H Q I hw => BoolOp_one (h pins s σ H Q I hw)
theorem pe_and (ha : PE X a ta) (hb : PE X (.BoolOp .And (b :: rest) pos) tb) : PE X (.BoolOp .And (a :: b :: rest) pos) (tAndV ta tb) := by
 intro pins s σ H Q I h
 refine BoolOp_and (thn (ha pins s σ H _ I h) fun v s1 ⟨x, H1, I1, r1, q1⟩ => ?_)
 obtain ⟨c, rfl, q1⟩ := q1
 cases r1
 refine wpAny_truthy_bool ?_
 cases c with
 | true => exact hb pins s1 σ H1 Q I1 q1
 | false => exact ⟨.bl false, H1, I1, rfl, q1⟩
theorem pe_not (ha : PE X a ta) : PE X (.UnaryOp .Not a pos) (tNotV ta) := by
 intro pins s σ H Q I h
 refine UnaryOp_ (thn (ha pins s σ H _ I h) fun v s1 ⟨x, H1, I1, r1, q1⟩ => ?_)
 obtain ⟨c, rfl, q1⟩ := q1
 cases r1
 exact not_of (wpAny_truthy_bool ⟨.bl (!c), H1, I1, rfl, q1⟩)
end
end L2
namespace L2
open PySem PySem.Spec PyProof.Rows
def SqL (K : PySem.W.Frag) (H : Hp) (a : Addr) (xs : List V) : Prop :=
 Rd H a (.lst xs) ∨
  ∃ (o : Obj) (its : Array Value) (n : Nat), K.lookup a = some o ∧ o.cls = .type "list" ∧ o.dict = none ∧ o.data = .seq its n ∧ its.size ≤ sizeLine ∧ Vals xs its.toList
def SqT (K : PySem.W.Frag) (H : Hp) (a : Addr) (xs : List V) : Prop :=
 Rd H a (.tup xs) ∨
  ∃ (o : Obj) (its : Array Value) (n : Nat), K.lookup a = some o ∧ o.cls = .type "tuple" ∧ o.data = .seq its n ∧ its.size ≤ sizeLine ∧ Vals xs its.toList
def absV : Value → Option V
 | .none => some .non
 | .bool b => some (.bl b)
 | .int i _ => some (.int i)
 | .str x _ => some (.str x)
 | .bytes b _ => some (.byt b)
 | .float b _ => some (.flt b)
 | .ref a => some (.ref a)
 | .type n => some (.ty n)
 | _ => none
theorem RelV.abs {x : V} {u : Value} (r : RelV x u) : absV u = some x := by
 cases x with
 | non => cases r; rfl
 | bl _ => cases r; rfl
 | int _ => obtain ⟨t, rfl⟩ := r; rfl
 | str _ => obtain ⟨t, rfl⟩ := r; rfl
 | byt _ => obtain ⟨t, rfl⟩ := r; rfl
 | flt _ => obtain ⟨t, rfl⟩ := r; rfl
 | ref _ => cases r; rfl
 | ty _ => cases r; rfl
theorem RelV.inj {x y : V} {u : Value} (r : RelV x u) (q : RelV y u) : x = y := Option.some.inj (r.abs.symm.trans q.abs)
theorem Vals.inj : ∀ {xs ys : List V} {us : List Value}, Vals xs us → Vals ys us → xs = ys
 | _, _, _, .nil, .nil => rfl
 | _, _, _, .cons r t, .cons r' t' => by rw [r.inj r', Vals.inj t t']
section
variable {X : Cx} {pins : List (Addr × Obj)} {σ : St} {H : Hp} {s : Shared} {a : Addr} {xs ys : List V}
theorem SqT.of {K : PySem.W.Frag} (h : H a = some (.tup xs)) : SqT K H a xs := .inl (.inl h)
theorem Inv.list (I : Inv X pins σ H s) (h : SqL X.K H a xs) : ∃ its : List Value, Vals xs its ∧ PlainL s.heap a its.toArray ∧ xs.length ≤ sizeLine := by
 rcases h with h | ⟨o, its, n, hk, hc, hd, hs, hz, r⟩
 ·obtain ⟨z, its, n, r, e⟩ := h.ok I.hok
  exact ⟨its, r, ⟨_, n, e, rfl, rfl, rfl⟩, z⟩
 ·refine ⟨its.toList, r, ⟨o, n, I.kIn a o hk, hc, hd, by simpa using hs⟩, ?_⟩
  have e := r.length
  simp only [Array.length_toList] at e
  omega
theorem Inv.tuple (I : Inv X pins σ H s) (h : SqT X.K H a xs) : ∃ its : List Value, Vals xs its ∧ IsTup s.heap a its.toArray ∧ xs.length ≤ sizeLine := by
 rcases h with h | ⟨o, its, n, hk, hc, hs, hz, r⟩
 ·obtain ⟨z, its, r, p⟩ := h.ok I.hok
  exact ⟨its, r, p, z⟩
 ·refine ⟨its.toList, r, ⟨o, I.kIn a o hk, hc, n, by simpa using hs⟩, ?_⟩
  have e := r.length
  simp only [Array.length_toList] at e
  omega
theorem Inv.list_inj (I : Inv X pins σ H s) (h : SqL X.K H a xs) (h' : SqL X.K H a ys) : xs = ys := by
 obtain ⟨its, r, ⟨o, n, e, _, _, d⟩, _⟩ := I.list h
 obtain ⟨its', r', ⟨o', n', e', _, _, d'⟩, _⟩ := I.list h'
 rw [e] at e'; cases e'
 rw [d] at d'
 injection d' with d1 _
 have : its = its' := by simpa using congrArg Array.toList d1
 subst this
 exact r.inj r'
end
abbrev Cx.wish (X : Cx) (E : Value → Shared → Prop) : Cx := { X with xe := E }
abbrev Cx.nox (X : Cx) : Cx := X.wish fun _ _ => False
theorem Cx.Ok.wish {X : Cx} (ok : X.Ok) (E : Value → Shared → Prop) : (X.wish E).Ok :=
 ⟨ok.mod, ok.kind, ok.glob, ok.blt, ok.above, ok.inj, ok.has, ok.cab, ok.hd, ok.frames, ok.stk, ok.exf, ok.bs, ok.bsz, ok.noex, ok.exfs, ok.funs, ok.frf⟩
theorem Cx.Ok.unwish {X : Cx} {E : Value → Shared → Prop} (ok : (X.wish E).Ok) : X.Ok :=
 ⟨ok.mod, ok.kind, ok.glob, ok.blt, ok.above, ok.inj, ok.has, ok.cab, ok.hd, ok.frames, ok.stk, ok.exf, ok.bs, ok.bsz, ok.noex, ok.exfs, ok.funs, ok.frf⟩
section
variable {X : Cx} {pins : List (Addr × Obj)} {σ : St} {H : Hp} {s : Shared} {E : Value → Shared → Prop}
theorem Inv.wish (I : Inv X pins σ H s) (E : Value → Shared → Prop) : Inv (X.wish E) pins σ H s := ⟨I.ok.wish E, I.os, I.bare, I.base, I.loc, I.cell, I.free, I.freeC, I.pin, I.hok, I.len⟩
theorem Inv.unwish (I : Inv (X.wish E) pins σ H s) : Inv X pins σ H s := ⟨I.ok.unwish, I.os, I.bare, I.base, I.loc, I.cell, I.free, I.freeC, I.pin, I.hok, I.len⟩
theorem SP.unwish {D : Ends} {f : Flow} {s' : Shared} (h : SP (X.wish E) pins D f s') : SP X pins D f s' := by
 cases f with
 | next => obtain ⟨σ', H', I, q⟩ := h; exact ⟨σ', H', I.unwish, q⟩
 | brk => obtain ⟨σ', H', I, q⟩ := h; exact ⟨σ', H', I.unwish, q⟩
 | cont => obtain ⟨σ', H', I, q⟩ := h; exact ⟨σ', H', I.unwish, q⟩
 | ret u => obtain ⟨v, σ', H', I, r, q⟩ := h; exact ⟨v, σ', H', I.unwish, r, q⟩
theorem PE.nox {e : Expr} {t : TE} (h : PE X.nox e t) : PE X e t := fun pins s σ H Q I hw =>
 wpAny_mono (h pins s σ H Q (I.wish _) hw) (fun _ _ ⟨v, H', I', r, q⟩ => ⟨v, H', I'.unwish, r, q⟩) fun _ _ z => False.elim z
theorem PT.nox {e : Expr} {t : TT} (h : PT X.nox e t) : PT X e t := fun pins s σ H Q I hw =>
 wpAny_mono (h pins s σ H Q (I.wish _) hw) (fun _ _ ⟨H', I', q⟩ => ⟨H', I'.unwish, q⟩) fun _ _ z => False.elim z
theorem PSs.nox {st : List Stmt} {t : TS} (h : PSs X.nox st t) : PSs X st t := fun pins s σ H D I hw =>
 wpAny_mono (h pins s σ H D (I.wish _) hw) (fun _ _ q => q.unwish) fun _ _ z => False.elim z
end
section
variable {X : Cx} {st : Stmt} {rest : List Stmt} {t u : TS} {e : Expr} {te : TE} {pos : Pos}
def tNext : TS := fun D σ H => D.nx σ H
def tSeq (t u : TS) : TS := fun D σ H => t { D with nx := u D } σ H
theorem pss_nil : PSs X [] tNext := fun _ _ σ H _ I h => wpAny_execs_nil ⟨σ, H, I, h⟩
theorem pss_cons (h1 : PS X st t) (h2 : PSs X rest u) : PSs X (st :: rest) (tSeq t u) := by
 intro pins s σ H D I h
 refine wpAny_execs_cons (thn (h1 pins s σ H { D with nx := u D } I h) fun f s1 q => ?_)
 cases f with
 | next =>
  obtain ⟨σ', H', I', q⟩ := q
  exact h2 pins s1 σ' H' D I' q
 | ret v => exact q
 | brk => exact q
 | cont => exact q
theorem pss_one (h1 : PS X st t) : PSs X [st] t := by
 intro pins s σ H D I h
 refine wpAny_execs_cons (thn (h1 pins s σ H D I h) fun f s1 q => ?_)
 cases f with
 | next => exact wpAny_execs_nil q
 | ret v => exact q
 | brk => exact q
 | cont => exact q
theorem Inv.quiet {pins : List (Addr × Obj)} {σ : St} {H : Hp} {s : Shared} (I : Inv X pins σ H s) : interactive X.env = false := by simp [interactive, I.ok.kind]
def tDrop (te : TE) : TS := fun D σ H => te σ H fun _ H1 => D.nx σ H1
theorem ps_expr (he : PE X e te) (hs : swapsWith e none pos.line X.env = pure false := by rfl) : PS X (.Expr e pos) (tDrop te) := by
 intro pins s σ H D I h
 exact wpAny_Expr_any (thn (he pins s σ H _ I h) fun v s1 ⟨x, H1, I1, r1, q1⟩ => ⟨σ, H1, I1, q1⟩) I.quiet hs
def tRet (te : TE) : TS := fun D σ H => te σ H D.rt
theorem ps_ret (he : PE X e te) : PS X (.Return (some e) pos) (tRet te) := by
 intro pins s σ H D I h
 exact wpAny_Return_some (thn (he pins s σ H _ I h) fun v s1 ⟨x, H1, I1, r1, q1⟩ => ⟨x, σ, H1, I1, r1, q1⟩)
def tIfS (c : TT) (t u : TS) : TS := fun D σ H => c σ H fun b H1 => if b = true then t D σ H1 else u D σ H1
theorem ps_if {c : Expr} {a b : List Stmt} {tc : TT} (hc : PT X c tc) (ha : PSs X a t) (hb : PSs X b u) : PS X (.If c a b pos) (tIfS tc t u) := by
 intro pins s σ H D I h
 refine wpAny_If (thn (hc pins s σ H _ I h) fun d s1 ⟨H1, I1, q1⟩ => ?_)
 cases d with
 | true => exact ha pins s1 σ H1 D I1 q1
 | false => exact hb pins s1 σ H1 D I1 q1
def tNever : TS := fun _ _ _ => False
theorem ps_never : PS X st tNever := fun _ _ _ _ _ _ h => h.elim
end
abbrev TG := V → St → Hp → (St → Hp → Prop) → Prop
abbrev TGs := List V → St → Hp → (St → Hp → Prop) → Prop
def PG (X : Cx) (target : Expr) (t : TG) : Prop :=
 ∀ (pins : List (Addr × Obj)) (s : Shared) (σ : St) (H : Hp) (v : V) (u : Value) (Q : St → Hp → Prop), Inv X pins σ H s → RelV v u → t v σ H Q →
  wpAny (model X.prog X.w) X.A (assign target X.env u) (fun _ s' => ∃ σ' H', Inv X pins σ' H' s' ∧ Q σ' H') X.xe s
def PGs (X : Cx) (ts : List Expr) (t : TGs) : Prop :=
 ∀ (pins : List (Addr × Obj)) (s : Shared) (σ : St) (H : Hp) (vs : List V) (us : List Value) (Q : St → Hp → Prop), Inv X pins σ H s → Vals vs us → t vs σ H Q →
  wpAny (model X.prog X.w) X.A (assignInOrder ((assignEach ts X.env).map (·.2)) us) (fun _ s' => ∃ σ' H', Inv X pins σ' H' s' ∧ Q σ' H') X.xe s
abbrev TSet := V → V → V → Hp → (Hp → Prop) → Prop
def PSet (X : Cx) (t : TSet) : Prop :=
 ∀ (pins : List (Addr × Obj)) (s : Shared) (σ : St) (H : Hp) (o i v : V) (ov iv u : Value) (Q : Hp → Prop), Inv X pins σ H s → RelV o ov → RelV i iv → RelV v u → t o i v H Q →
  wpAny (model X.prog X.w) X.A (setItem ov iv u) (fun _ s' => ∃ H', Inv X pins σ H' s' ∧ Q H') X.xe s
section
variable {X : Cx} {pos : Pos}
def gName (i : Nat) : TG := fun v σ H Q => Q (σ.set i (some v)) H
theorem pg_name {i : Nat} {x : Str} (hN : X.N.Nodup) (hi : X.N[i]? = some x) (hx : Loc X.env.scope x) (hf : X.fn x = true ∨ X.env.scope.names.lookup x = some .local := by first | exact .inl rfl | exact .inr rfl | assumption) : PG X (.Name x pos) (gName i) := by
 intro pins s σ H v u Q I r h
 exact wpAny_assign_Name (store_ok I hN hi hx r (fun s' I' => ⟨_, H, I', h⟩) hf)
def gNil : TGs := fun vs σ H Q => vs = [] ∧ Q σ H
def gCons (t : TG) (u : TGs) : TGs := fun vs σ H Q => ∃ v r, vs = v :: r ∧ t v σ H fun σ' H' => u r σ' H' Q
theorem pgs_nil : PGs X [] gNil := by
 intro pins s σ H vs us Q I r h
 obtain ⟨e, h⟩ := h
 subst e
 cases r
 exact assignInOrder_nil ⟨σ, H, I, h⟩
theorem pgs_cons {e : Expr} {es : List Expr} {t : TG} {u : TGs} (h1 : PG X e t) (h2 : PGs X es u)
  (hs : (assignEach (e :: es) X.env).map (·.2) = assign e X.env :: (assignEach es X.env).map (·.2) := by rfl) : PGs X (e :: es) (gCons t u) := by
 intro pins s σ H vs us Q I r h
 obtain ⟨v, vr, e1, h⟩ := h
 subst e1
 cases r with
 | cons r rr =>
  rw [hs]
  refine assignInOrder_cons (thn (h1 pins s σ H _ _ _ I r h) fun _ s1 ⟨σ1, H1, I1, q1⟩ => ?_)
  exact h2 pins s1 σ1 H1 _ _ Q I1 rr q1
def gTup (K : PySem.W.Frag) (n : Nat) (t : TGs) : TG := fun v σ H Q => ∃ a xs, v = .ref a ∧ SqT K H a xs ∧ xs.length = n ∧ t xs σ H Q
theorem pg_tup {es : List Expr} {k : Nat} {t : TGs} {n : Nat} (hc : X.calm = true) (h : PGs X es t)
  (hn : (assignEach es X.env).length = n := by rfl) (hst : (assignEach es X.env).findIdx? (·.1) = none := by rfl) : PG X (.Tuple es k pos) (gTup X.K n t) := by
 intro pins s σ H v u Q I r hw
 obtain ⟨a, xs, e1, hq, hl, hw⟩ := hw
 subst e1
 cases r
 obtain ⟨its, rv, ht, hz⟩ := I.tuple hq
 refine assign_Tuple_tuple (I.ok.hd hc) ht (by simp [hn, ← hl, rv.length]) hst fun h' hx => ?_
 have I1 : Inv X pins σ H { s with heap := h' } := I.kept (t' := s.toks) fun b o e => hx b o (Nat.ne_of_lt (Heap.lt_size e)) e
 exact h pins _ σ H xs _ Q I1 (by simpa using rv) hw
def gSub (to ti : TE) (t : TSet) : TG := fun v σ H Q => to σ H fun o H1 => ti σ H1 fun i H2 => t o i v H2 fun H3 => Q σ H3
theorem pg_sub {o i : Expr} {to ti : TE} {t : TSet} (ho : PE X o to) (hi : PE X i ti) (hs : PSet X t)
  (ha : ∀ v, assign (.Subscript o i pos) X.env v = (do
   let ov ← holding [v] (eval o X.env)
   let iv ← holding [v, ov] (eval i X.env)
   standAt pos
   holding [v, ov, iv] (setItem ov iv v)
   release [v, ov, iv] []) := by intro _; rfl) : PG X (.Subscript o i pos) (gSub to ti t) := by
 intro pins s σ H v u Q I r h
 rw [ha]
 refine wpAny_bind (wpAny_holding (thn (ho pins s σ H _ I h) fun ov s1 ⟨x, H1, I1, r1, q1⟩ => ?_))
 refine wpAny_bind (wpAny_holding (thn (hi pins s1 σ H1 _ I1 q1) fun iv s2 ⟨y, H2, I2, r2, q2⟩ => ?_))
 refine wpAny_bind (wpAny_standAt (wpAny_bind (wpAny_holding (thn (hs pins s2 σ H2 x y v ov iv u _ I2 r1 r2 r q2) fun _ s3 ⟨H3, I3, q3⟩ => ?_))))
 exact wpAny_release ⟨σ, H3, I3, q3⟩
def tAsg (te : TE) (g : TG) : TS := fun D σ H => te σ H fun x H1 => g x σ H1 D.nx
theorem ps_asg {tg e : Expr} {te : TE} {g : TG} (he : PE X e te) (hg : PG X tg g) (hs : swapsWithSole [tg] e pos.line X.env = pure false := by rfl) (hw : swappedStores [tg] e X.env = pure none := by rfl)
  (h1 : (assignEach [tg] X.env).map (·.2) = [assign tg X.env] := by rfl) : PS X (.Assign [tg] e pos) (tAsg te g) := by
 intro pins s σ H D I h
 refine wpAny_Assign_stores (thn (he pins s σ H _ I h) fun v s1 ⟨x, H1, I1, r1, q1⟩ => ?_) hs hw
 rw [h1]
 exact thn (hg pins s1 σ H1 x v _ I1 r1 q1) fun _ s2 q => q
theorem ps_set {i : Nat} {x : Str} {e : Expr} {te : TE} {pos' : Pos} (hN : X.N.Nodup) (hi : X.N[i]? = some x) (hx : Loc X.env.scope x) (he : PE X e te) (hs : swapsWith e (some (.Name x pos')) pos.line X.env = pure false := by rfl) (hf : X.fn x = true ∨ X.env.scope.names.lookup x = some .local := by first | exact .inl rfl | exact .inr rfl | assumption) :
  PS X (.Assign [.Name x pos'] e pos) (tAsg te (gName i)) := by
 intro pins s σ H D I h
 refine wpAny_Assign_Name (thn (he pins s σ H _ I h) fun v s1 ⟨y, H1, I1, r1, q1⟩ => ?_) hs
 exact store_ok I1 hN hi hx r1 (fun s2 I2 => ⟨_, H1, I2, q1⟩) hf
def tPar (i j : Nat) (ta : TA) : TS := fun D σ H => ta σ H fun vs H1 => ∃ v w, vs = [v, w] ∧ D.nx ((σ.set i (some v)).set j (some w)) H1
theorem ps_par {i j : Nat} {x y : Str} {a b : Expr} {ta : TA} {px py pt : Pos} {kt k2 pt2} (hc : X.calm = true) (hN : X.N.Nodup) (hi : X.N[i]? = some x) (hj : X.N[j]? = some y) (hij : i ≠ j)
  (hx : X.env.scope.names.lookup x = some .local) (hy : X.env.scope.names.lookup y = some .local) (ha : PA X [a, b] ta)
  (hw : swappedStores [.Tuple [.Name x px, .Name y py] kt pt] (.Tuple [a, b] k2 pt2) X.env = pure (some [x, y]))
  (hs : swapsWithSole [.Tuple [.Name x px, .Name y py] kt pt] (.Tuple [a, b] k2 pt2) pos.line X.env = pure false := by rfl) :
  PS X (.Assign [.Tuple [.Name x px, .Name y py] kt pt] (.Tuple [a, b] k2 pt2) pos) (tPar i j ta) := by
 intro pins s σ H D I h
 rw [exec_Assign_arm]
 refine wpAny_bind (wpAny_standAt ?_)
 rw [hs]
 refine wpAny_bind (wpAny_pure ?_)
 rw [if_neg (by decide)]
 refine wpAny_bind (Tuple_ (thn (ha _ pins s σ H _ I h) fun us s1 ⟨vs, H1, I1, r1, q1⟩ => ?_))
 obtain ⟨v, w, e1, q1⟩ := q1
 subst e1
 obtain ⟨u1, u2, rfl, rv, rw'⟩ : ∃ u1 u2, us = [u1, u2] ∧ RelV v u1 ∧ RelV w u2 := by
  cases r1 with
  | cons p q =>
   cases q with
   | cons p' q' =>
    cases q'
    exact ⟨_, _, rfl, p, p'⟩
 refine wpAny_newObj_type ?_ (by show 2 ≤ sizeLine; decide)
 have I2 : Inv X pins σ H1 { s1 with heap := s1.heap.push { cls := .type "tuple", data := .seq [u1, u2].toArray } } := I1.kept (t' := s1.toks) fun b o e => Heap.get?_push_of_some _ e
 rw [hw]
 refine wpAny_bind (wpAny_pure ?_)
 show wpAny (model X.prog X.w) X.A (do rule "assign.swapped-stores"; let items ← unpackItems (.ref s1.heap.objs.size) 2 none; assignInOrder [fun v => bindName X.env y v, fun v => bindName X.env x v] items.reverse; pure Flow.next) _ _ _
 refine wpAny_bind (wpAny_rule (wpAny_bind (unpackItems_tuple (items := #[u1, u2]) (I.ok.hd hc) (IsTup.new s1.heap _) fun h' hx' => ?_)))
 have I3 := I2.kept (h' := h') (t' := s1.toks) fun b o e => hx' b o (Nat.ne_of_lt (Heap.lt_size e)) e
 show wpAny _ _ (assignInOrder [fun v => bindName X.env y v, fun v => bindName X.env x v] [u2, u1] >>= fun _ => pure Flow.next) _ _ _
 refine wpAny_bind (assignInOrder_cons (wpAny_bindName (store_ok I3 hN hj (.inl hy) rw' (fun s2 I4 => ?_) (.inr hy))))
 refine assignInOrder_cons (wpAny_bindName (store_ok I4 hN hi (.inl hx) rv (fun s3 I5 => assignInOrder_nil (wpAny_pure ?_)) (.inr hx)))
 rw [List.set_comm _ _ (Ne.symm hij)] at I5
 exact ⟨_, H1, I5, q1⟩
end
section
variable {X : Cx} {pos : Pos}
def tWhile (c : TT) (tb : TS) : TS := fun D σ H => ∃ W : Nat → St → Hp → Prop, (∃ m, W m σ H) ∧ ∀ m σ H, W m σ H →
 c σ H fun b H1 => if b = true then ∃ N : St → Hp → Prop, (∀ σ' H', N σ' H' → ∃ m', m' < m ∧ W m' σ' H') ∧ tb { D with nx := N, ct := N, bk := D.nx } σ H1 else D.nx σ H1
theorem ps_while {c : Expr} {body : List Stmt} {tc : TT} {tb : TS} (hp : PassesOwn (model X.prog X.w) X.A X.env X.xe) (hc : PT X c tc) (hb : PSs X body tb) : PS X (.While c body [] pos) (tWhile tc tb) := by
 intro pins s σ H D I h
 obtain ⟨W, ⟨m0, w0⟩, turn⟩ := h
 refine wpAny_While (codeAny_whileLoop (fun n s' => ∃ σ' H', Inv X pins σ' H' s' ∧ W n σ' H') ?_ m0 ⟨σ, H, I, w0⟩)
 rintro n s1 ⟨σ1, H1, I1, w1⟩
 refine wpAny_passesOwn hp (thn (hc pins s1 σ1 H1 _ I1 (turn n σ1 H1 w1)) fun b s2 ⟨H2, I2, q2⟩ => ?_)
 cases b with
 | true =>
  obtain ⟨N, hN, q2⟩ := q2
  rw [if_pos rfl]
  refine wpAny_passesOwn hp (thn (hb pins s2 σ1 H2 _ I2 q2) fun f s3 q3 => ?_)
  cases f with
  | next =>
   obtain ⟨σ3, H3, I3, n3⟩ := q3
   obtain ⟨m', hm, w3⟩ := hN σ3 H3 n3
   exact ⟨m', hm, σ3, H3, I3, w3⟩
  | cont =>
   obtain ⟨σ3, H3, I3, n3⟩ := q3
   obtain ⟨m', hm, w3⟩ := hN σ3 H3 n3
   exact ⟨m', hm, σ3, H3, I3, w3⟩
  | brk => exact q3
  | ret v => exact q3
 | false =>
  rw [if_neg Bool.false_ne_true]
  exact wpAny_execs_nil ⟨σ1, H2, I2, q2⟩
end
structure It where
 go : Nat → Hp → Prop
 yld : Nat → Hp → V → Hp → Prop
 stop : Nat → Hp → Prop
def FpOk (X : Cx) (pins : List (Addr × Obj)) (H : Hp) (b : Addr) : Prop :=
 H b = none ∧ b ≠ X.env.locals ∧ b ∉ X.fs ∧ (b ∈ X.ex ∨ X.s₀.heap.objs.size ≤ b) ∧ (∀ x c, X.env.cells.lookup x = some c → c ≠ b) ∧ ∀ p ∈ X.pn ++ pins, p.1 ≠ b
theorem Inv.fpOk {X : Cx} {pins : List (Addr × Obj)} {σ : St} {H H' : Hp} {s : Shared} {b : Addr} (I : Inv X pins σ H s) (hb : s.heap.objs.size ≤ b) (hn : H' b = none) : FpOk X pins H' b := by
 refine ⟨hn, Nat.ne_of_gt (Nat.lt_of_lt_of_le I.lt hb), I.nofs hb, .inr (Nat.le_trans I.sz hb), fun x c e z => ?_, fun p hp z => ?_⟩
 ·obtain ⟨v, q⟩ := I.cell x c e
  exact absurd (Nat.lt_of_lt_of_le q.lt (by rw [z]; exact hb)) (Nat.lt_irrefl _)
 ·exact absurd (Nat.lt_of_lt_of_le (Heap.lt_size (I.pin p hp).1) (by rw [z]; exact hb)) (Nat.lt_irrefl _)
structure Turn (P : Program) (w : World) (K : PySem.W.Frag) (tg : Expr) (J : It) (fp : List Addr) (it : Addr) (tn : Nat → Heap → Prop) : Prop where
 mem : it ∈ fp
 obj : ∀ i h, tn i h → ∀ b ∈ fp, ∃ o, h.get? b = some o ∧ ∀ v, o.data ≠ .cell v
 keep : ∀ i h h', tn i h → (∀ b ∈ fp, ∀ o, h.get? b = some o → h'.get? b = some o) → tn i h'
 item : ∀ (X : Cx), X.prog = P → X.w = w → X.K = K → X.calm = true → ∀ (i : Nat) (pins : List (Addr × Obj)) (s : Shared) (σ : St) (H : Hp) (E : Value → Shared → Prop), Inv X pins σ H s → (∀ b ∈ fp, FpOk X pins H b) → tn i s.heap → J.go i H →
  wpAny (model P w) X.A (pyNext (.ref it)) (fun r s1 => ∃ u, r = some u ∧
   wpAny (model P w) X.A (letOwnedTupleGo tg (.ref it) u) (fun _ s2 => ∃ x H', Inv X pins σ H' s2 ∧ RelV x u ∧ J.yld i H x H' ∧ tn (i + 1) s2.heap ∧ ∀ b ∈ fp, H' b = none) E s1) E s
 done : ∀ (X : Cx), X.prog = P → X.w = w → X.K = K → X.calm = true → ∀ (i : Nat) (pins : List (Addr × Obj)) (s : Shared) (σ : St) (H : Hp) (E : Value → Shared → Prop), Inv X pins σ H s → (∀ b ∈ fp, FpOk X pins H b) → tn i s.heap → J.stop i H →
  wpAny (model P w) X.A (pyNext (.ref it)) (fun r s1 => r = none ∧ Inv X pins σ H s1) E s
 self : ∀ (A : Around) (i : Nat) (s : Shared) (Q : Value → Shared → Prop) (E : Value → Shared → Prop), tn i s.heap → Q (.ref it) s → wpAny (model P w) A (pyIter (.ref it)) Q E s
abbrev TI := St → Hp → (It → Hp → Prop) → Prop
def PIE (X : Cx) (pins : List (Addr × Obj)) (σ : St) (tg : Expr) (R : It → Hp → Prop) (itv : Value) (s2 : Shared) : Prop :=
 ∃ (it : Addr) (fp : List Addr) (tn : Nat → Heap → Prop) (J : It) (H' : Hp), itv = .ref it ∧ Inv X pins σ H' s2 ∧ Turn X.prog X.w X.K tg J fp it tn ∧ tn 0 s2.heap ∧ (∀ b ∈ fp, FpOk X pins H' b) ∧ R J H'
def PI (X : Cx) (tg iter : Expr) (wi : TI) : Prop :=
 ∀ (pins : List (Addr × Obj)) (s : Shared) (σ : St) (H : Hp) (R : It → Hp → Prop), Inv X pins σ H s → wi σ H R →
  wpAny (model X.prog X.w) X.A (eval iter X.env) (fun v s1 => wpAny (model X.prog X.w) X.A (pyIter v) (PIE X pins σ tg R) X.xe s1) X.xe s
theorem go_of {M : Model} {A : Around} {E : Value → Shared → Prop} {s : Shared} {tg : Expr} {it : Addr} {u : Value} {o : Obj} {n : String} {vs : Array Value} {Q : Unit → Shared → Prop} (ho : s.heap.get? it = some o) (hc : o.cls = .type n) (hd : o.data = .fields vs)
    (hn : ["enumerate", "zip", "dict_itemiterator", "dict_reverseitemiterator", "odict_iterator", "itertools.zip_longest", "itertools.pairwise"].contains n = false) (hQ : Q () s) : wpAny M A (letOwnedTupleGo tg (.ref it) u) Q E s := by
  unfold letOwnedTupleGo
  cases tg <;> first
    | exact wpAny_pure hQ
    | (cases u <;> first
        | exact wpAny_pure hQ
        | (refine wpAny_bind (wpAny_load ho ?_)
           rw [hc, hd]
           show wpAny M A (if (["enumerate", "zip", "dict_itemiterator", "dict_reverseitemiterator", "odict_iterator", "itertools.zip_longest", "itertools.pairwise"].contains n && vs[0]? == some (rawInt _)) = true then _ else _) Q E s
           rw [if_neg (by intro h; rw [hn, Bool.false_and] at h; cases h)]
           exact wpAny_pure hQ))
def Itl (K : PySem.W.Frag) (a : Addr) : It :=
 ⟨fun i H => ∃ xs x, SqL K H a xs ∧ xs[i]? = some x, fun i H x H' => H' = H ∧ ∀ xs, SqL K H a xs → xs[i]? = some x, fun i H => ∃ xs, SqL K H a xs ∧ xs.length ≤ i⟩
def Itr (lo : Int) (n : Nat) : It := ⟨fun i _ => i < n, fun i H x H' => H' = H ∧ x = .int (lo + i), fun i _ => n ≤ i⟩
theorem turn_list {P : Program} {w : World} {K : PySem.W.Frag} {tg : Expr} (a it : Addr) : Turn P w K tg (Itl K a) [it] it (fun i h => h.IsListIter it a i) where
 mem := by simp
 obj := fun i h st b hb => by
  have e : b = it := by simpa using hb
  subst e
  obtain ⟨o, e, c, d⟩ := st
  exact ⟨o, e, fun v z => by rw [d] at z; cases z⟩
 keep := fun i h h' st k => st.at fun o e => k it (by simp) o e
 item := by
  intro X hP hw hK hc i pins s σ H E I hf st hg
  subst hP hw hK
  obtain ⟨xs, x, hq, hx⟩ := hg
  obtain ⟨its, rv, p, hz⟩ := I.list hq
  obtain ⟨u, hu, ru⟩ := rv.get hx
  obtain ⟨f0, f1, f2, f3, f4, f5⟩ := hf it (by simp)
  refine wpAny_pyNext_list_item st p.isList (x := u) (by simpa using hu) fun h' st' sb => ?_
  have I1 : Inv X pins σ H { s with heap := h' } := I.turned (t' := s.toks) (fun b o hb e => (sb.2 b hb).trans e) f0 f1 f3 f4 f5
  obtain ⟨o, e, c, d⟩ := id st'
  exact ⟨u, rfl, go_of (s := { s with heap := h' }) e c d (by decide) ⟨x, H, I1, ru, ⟨rfl, fun ys hy => by rw [I.list_inj hy hq]; exact hx⟩, st', fun b hb => (hf b hb).1⟩⟩
 done := by
  intro X hP hw hK hc i pins s σ H E I hf st hg
  subst hP hw hK
  obtain ⟨xs, hq, hx⟩ := hg
  obtain ⟨its, rv, p, hz⟩ := I.list hq
  obtain ⟨f0, f1, f2, f3, f4, f5⟩ := hf it (by simp)
  have hl := rv.length
  exact wpAny_pyNext_list_end (I.ok.hd hc) st p.isList (by simp; omega) fun h' eb => ⟨rfl, I.turned (t' := s.toks) (fun b o hb e => eb b o hb e) f0 f1 f3 f4 f5⟩
 self := fun _ _ _ _ _ st h => wpAny_pyIter_listiter st h
theorem turn_range {P : Program} {w : World} {K : PySem.W.Frag} {tg : Expr} (it : Addr) (lo : Int) (n : Nat) : Turn P w K tg (Itr lo n) [it] it (fun i h => IsRangeIter h it (lo + (i : Nat) * 1) ((n : Int) - (i : Nat)) 1) where
 mem := by simp
 obj := fun i h st b hb => by
  have e : b = it := by simpa using hb
  subst e
  exact ⟨_, st, fun v z => by
   have z' : Data.fields _ = Data.cell v := z
   cases z'⟩
 keep := fun i h h' st k => k it (by simp) _ st
 item := by
  intro X hP hw hK hc i pins s σ H E I hf st hg
  subst hP hw hK
  obtain ⟨f0, f1, f2, f3, f4, f5⟩ := hf it (by simp)
  have W := Walks.range (prog := X.prog) (w := X.w) (I.ok.hd hc) it lo 1 n
  refine W.item i s _ _ hg st fun v h' tk hv st' kk => ?_
  obtain ⟨t, rfl⟩ := hv
  have I1 : Inv X pins σ H { s with heap := h', toks := tk } := I.turned (fun b o hb e => kk b o (by simpa using hb) e) f0 f1 f3 f4 f5
  refine ⟨_, rfl, go_of (s := { s with heap := h', toks := tk }) (n := "range_iterator") st' rfl rfl (by decide) ⟨.int (lo + i), H, I1, ⟨t, ?_⟩, ⟨rfl, rfl⟩, st', fun b hb => (hf b hb).1⟩⟩
  rw [Int.mul_one]
 done := by
  intro X hP hw hK hc i pins s σ H E I hf st hg
  subst hP hw hK
  obtain ⟨f0, f1, f2, f3, f4, f5⟩ := hf it (by simp)
  exact wpAny_pyNext_range_end (I.ok.hd hc) st (by have : n ≤ i := hg; omega) fun h' eb => ⟨rfl, I.turned (t' := s.toks) (fun b o hb e => eb b o hb e) f0 f1 f3 f4 f5⟩
 self := fun _ _ _ _ _ st h => wpAny_pyIter_rangeiter st h
end L2
namespace L2
open PySem PySem.Spec PyProof.Rows
section
variable {X : Cx} {tg : Expr}
def iList (K : PySem.W.Frag) (tl : TE) : TI := fun σ H R => tl σ H fun x H1 => ∃ a, x = .ref a ∧ (∃ xs, SqL K H1 a xs) ∧ R (Itl K a) H1
theorem pi_list {l : Expr} {tl : TE} (hl : PE X l tl) : PI X tg l (iList X.K tl) := by
 intro pins s σ H R I h
 refine thn (hl pins s σ H _ I h) fun v s1 ⟨x, H1, I1, r1, q1⟩ => ?_
 obtain ⟨a, e, ⟨xs, hq⟩, q⟩ := q1
 subst e
 cases r1
 obtain ⟨its, rv, p, hz⟩ := I1.list hq
 refine wpAny_pyIter_list p.isList ?_
 refine ⟨s1.heap.objs.size, [s1.heap.objs.size], _, _, H1, rfl, I1.kept (t' := s1.toks) fun b o e => Heap.get?_push_of_some _ e, turn_list a _, ⟨_, Heap.get?_push_size _ rfl, rfl, rfl⟩, fun b hb => ?_, q⟩
 have e : b = s1.heap.objs.size := by simpa using hb
 subst e
 exact I1.fpOk (Nat.le_refl _) (I1.hok.fresh (Nat.le_refl _))
theorem range_it {pins : List (Addr × Obj)} {σ : St} {H : Hp} {s : Shared} {R : It → Hp → Prop} {E : Value → Shared → Prop} {lo hi : Int} {t u v : Tok} {tk : Nat} (I : Inv X pins σ H s) (h1 : -(2 ^ 62) ≤ lo) (h2 : lo < 2 ^ 62) (h3 : -(2 ^ 62) ≤ hi) (h4 : hi < 2 ^ 62)
  (q : R (Itr lo (hi - lo).toNat) H) : wpAny (model X.prog X.w) X.A (pyIter (.ref s.heap.objs.size)) (PIE X pins σ tg R) E { s with heap := s.heap.push { cls := .type "range", data := .fields #[.int lo t, .int hi u, .int 1 v] }, toks := tk } := by
 refine wpAny_pyIter_range (IsRange.new ..) (small_one h1 h2 h3 h4) ?_
 have I1 : Inv X pins σ H { s with heap := s.heap.push { cls := .type "range", data := .fields #[.int lo t, .int hi u, .int 1 v] }, toks := tk } := I.kept fun b o e => Heap.get?_push_of_some _ e
 refine ⟨(s.heap.push { cls := .type "range", data := .fields #[.int lo t, .int hi u, .int 1 v] }).objs.size, [(s.heap.push { cls := .type "range", data := .fields #[.int lo t, .int hi u, .int 1 v] }).objs.size], _, _, H, rfl,
  I1.kept (t' := tk) fun b o e => Heap.get?_push_of_some _ e, turn_range _ lo (hi - lo).toNat, ?_, fun b hb => ?_, q⟩
 ·have e1 : lo + ((0 : Nat) : Int) * 1 = lo := by simp
  have e2 : (((hi - lo).toNat : Nat) : Int) - ((0 : Nat) : Int) = Builtin.Range.rangeSize lo hi 1 := by rw [rangeSize_one]; split <;> omega
  show IsRangeIter _ _ (lo + ((0 : Nat) : Int) * 1) ((((hi - lo).toNat : Nat) : Int) - ((0 : Nat) : Int)) 1
  rw [e1, e2]
  exact Heap.get?_push_size _ rfl
 ·have e : b = (s.heap.push { cls := .type "range", data := .fields #[.int lo t, .int hi u, .int 1 v] }).objs.size := by simpa using hb
  subst e
  exact I1.fpOk (Nat.le_refl _) (I1.hok.fresh (Nat.le_refl _))
def iRng1 (ta : TA) : TI := fun σ H R => ta σ H fun vs H1 => ∃ j : Int, vs = [.int j] ∧ -(2 ^ 62) ≤ j ∧ j < 2 ^ 62 ∧ R (Itr 0 j.toNat) H1
theorem pi_range1 {a : Expr} {ta : TA} {p pos : Pos} (hg : Gl X "range") (hm : X.mg "range" = none) (ha : PA X [a] ta) (hs : starEach [a] X.env = [(false, eval a X.env)] := by rfl) : PI X tg (.Call (.Name "range" p) [a] [] pos) (iRng1 ta) := by
 intro pins s σ H R I h
 refine Call_ (ld_blt I hg hm boot_range (PyProof.Rows.callWith_type1 (thn (ha pos pins s σ H _ I h) fun us s1 ⟨vs, H1, I1, r1, q1⟩ => ?_) hs rfl))
 obtain ⟨j, e, q1, q2, q⟩ := q1
 subst e
 cases r1 with
 | cons r rr =>
  cases rr
  obtain ⟨t, rfl⟩ := r
  exact call_range_1 (range_it I1 (by omega) (by omega) q1 q2 (by simpa using q))
def tFor (wi : TI) (g : TG) (tb : TS) : TS := fun D σ H => wi σ H fun J H1 => ∃ W : Nat → Nat → St → Hp → Prop, (∃ m, W 0 m σ H1) ∧ ∀ i m σ H, W i m σ H →
 (J.stop i H ∧ D.nx σ H) ∨ (J.go i H ∧ ∃ N : St → Hp → Prop, (∀ σ' H', N σ' H' → ∃ m', m' < m ∧ W (i + 1) m' σ' H') ∧ ∀ x H', J.yld i H x H' → g x σ H' fun σ2 H2 => tb { D with nx := N, ct := N, bk := D.nx } σ2 H2)
def pinsAt (fp : List Addr) (h : Heap) : List (Addr × Obj) := fp.filterMap fun b => (h.get? b).map fun o => (b, o)
theorem mem_pinsAt {fp : List Addr} {h : Heap} {b : Addr} {o : Obj} (hb : b ∈ fp) (e : h.get? b = some o) : (b, o) ∈ pinsAt fp h := List.mem_filterMap.mpr ⟨b, hb, by rw [e]; rfl⟩
theorem of_pinsAt {fp : List Addr} {h : Heap} {p : Addr × Obj} (hp : p ∈ pinsAt fp h) : p.1 ∈ fp ∧ h.get? p.1 = some p.2 := by
 obtain ⟨b, hb, e⟩ := List.mem_filterMap.mp hp
 cases q : h.get? b with
 | none => rw [q] at e; cases e
 | some o =>
  rw [q] at e
  have e' : (b, o) = p := Option.some.inj e
  subst e'
  exact ⟨hb, q⟩
theorem Inv.pinned {pins : List (Addr × Obj)} {σ : St} {H : Hp} {s : Shared} {fp : List Addr} (I : Inv X pins σ H s) (hf : ∀ b ∈ fp, FpOk X pins H b) (ho : ∀ b ∈ fp, ∃ o, s.heap.get? b = some o ∧ ∀ v, o.data ≠ .cell v) : Inv X (pins ++ pinsAt fp s.heap) σ H s :=
 I.pins_of fun p hp => (List.mem_append.mp hp).elim (fun z => I.pin p (List.mem_append_right _ z)) fun z => by
  obtain ⟨hb, e⟩ := of_pinsAt z
  obtain ⟨f0, f1, f2, _⟩ := hf p.1 hb
  obtain ⟨o, e', d⟩ := ho p.1 hb
  rw [e] at e'; cases e'
  exact ⟨e, f0, f1, f2, d⟩
theorem Inv.unpinned {pins pl : List (Addr × Obj)} {σ : St} {H : Hp} {s : Shared} (I : Inv X (pins ++ pl) σ H s) : Inv X pins σ H s := I.pins_of fun p hp => I.pin p (List.mem_append_right _ (List.mem_append_left _ hp))
theorem ps_for {iter : Expr} {body : List Stmt} {wi : TI} {g : TG} {tb : TS} {pos : Pos} (hp : PassesOwn (model X.prog X.w) X.A X.env X.xe) (hc : X.calm = true) (hi : PI X tg iter wi) (hg : PG X tg g) (hb : PSs X body tb)
  (hs : ∀ x, foldedSetIterable iter X.env x = pure x := by intro _; rfl) : PS X (.For tg iter body [] pos) (tFor wi g tb) := by
 intro pins s σ H D I h
 refine wpAny_For (thn (hi pins s σ H _ I h) fun v s1 h1 => thn h1 fun itv s2 h2 => ?_) hs
 obtain ⟨it, fp, tn, J, H2, e, I2, T, st2, f2, W, ⟨m0, w0⟩, turn⟩ := h2
 subst e
 -- what stays true of the iterator's objects through the loop
 have stat : ∀ {H' : Hp}, (∀ b ∈ fp, H' b = none) → ∀ b ∈ fp, FpOk X pins H' b := fun hn b hb => ⟨hn b hb, (f2 b hb).2⟩
 refine codeAny_forLoop_any (fun n s' => ∃ i σ' H', Inv X pins σ' H' s' ∧ tn i s'.heap ∧ (∀ b ∈ fp, H' b = none) ∧ W i n σ' H') ?_ m0 ⟨0, σ, H2, I2, st2, fun b hb => (f2 b hb).1, w0⟩
 rintro n s3 ⟨i, σ3, H3, I3, st3, fr3, w3⟩
 rcases turn i n σ3 H3 w3 with ⟨stop, qn⟩ | ⟨go, N, hN, step⟩
 ·refine wpAny_passesOwn hp (thn (T.done X rfl rfl rfl hc i pins s3 σ3 H3 X.xe I3 (stat fr3) st3 stop) fun r s4 ⟨hr, I4⟩ => ?_)
  subst hr
  exact wpAny_execs_nil ⟨σ3, H3, I4, qn⟩
 ·refine wpAny_passesOwn hp (thn (T.item X rfl rfl rfl hc i pins s3 σ3 H3 X.xe I3 (stat fr3) st3 go) fun r s4 ⟨u, hr, h4⟩ => ?_)
  subst hr
  refine wpAny_passesOwn hp (thn h4 fun _ s5 ⟨x, H5, I5, r5, y5, st5, fr5⟩ => ?_)
  have I5' := I5.pinned (stat fr5) (T.obj _ _ st5)
  refine wpAny_passesOwn hp (thn (hg _ s5 σ3 H5 x u _ I5' r5 (step x H5 y5)) fun _ s6 ⟨σ6, H6, I6, q6⟩ => ?_)
  refine wpAny_passesOwn hp (thn (hb _ s6 σ6 H6 _ I6 q6) fun f s7 q7 => ?_)
  have again : ∀ {σ7 : St} {H7 : Hp}, Inv X (pins ++ pinsAt fp s5.heap) σ7 H7 s7 → N σ7 H7 → ∃ m, m < n ∧ ∃ i σ' H', Inv X pins σ' H' s7 ∧ tn i s7.heap ∧ (∀ b ∈ fp, H' b = none) ∧ W i m σ' H' := fun {σ7 H7} I7 n7 => by
   obtain ⟨m', hm, w7⟩ := hN σ7 H7 n7
   refine ⟨m', hm, i + 1, σ7, H7, I7.unpinned, T.keep _ _ _ st5 fun b hb o e => (I7.pin (b, o) (List.mem_append_right _ (List.mem_append_right _ (mem_pinsAt hb e)))).1, fun b hb => ?_, w7⟩
   obtain ⟨o, e, d⟩ := T.obj _ _ st5 b hb
   exact (I7.pin (b, o) (List.mem_append_right _ (List.mem_append_right _ (mem_pinsAt hb e)))).2.1
  cases f with
  | next => obtain ⟨σ7, H7, I7, n7⟩ := q7; exact again I7 n7
  | cont => obtain ⟨σ7, H7, I7, n7⟩ := q7; exact again I7 n7
  | brk => obtain ⟨σ7, H7, I7, q7⟩ := q7; exact ⟨σ7, H7, I7.unpinned, q7⟩
  | ret v => obtain ⟨x7, σ7, H7, I7, r7, q7⟩ := q7; exact ⟨x7, σ7, H7, I7.unpinned, r7, q7⟩
end
end L2
namespace L2
open PySem PySem.Spec PyProof.Rows
abbrev R2 := V → V → Hp → VK → Prop
def OpR (X : Cx) (f : Value → Value → Sem Value) (r : R2) : Prop :=
 ∀ (pins : List (Addr × Obj)) (s : Shared) (σ : St) (H : Hp) (x y : V) (v u : Value) (Q : VK), Inv X pins σ H s → RelV x v → RelV y u → r x y H Q →
  wpAny (model X.prog X.w) X.A (f v u) (EP X pins σ Q) X.xe s
def UnR (X : Cx) (f : Value → Sem Value) (r : V → Hp → VK → Prop) : Prop :=
 ∀ (pins : List (Addr × Obj)) (s : Shared) (σ : St) (H : Hp) (x : V) (v : Value) (Q : VK), Inv X pins σ H s → RelV x v → r x H Q →
  wpAny (model X.prog X.w) X.A (f v) (EP X pins σ Q) X.xe s
def CallR (X : Cx) (f : Value) (r : List V → Hp → VK → Prop) : Prop :=
 ∀ (pins : List (Addr × Obj)) (s : Shared) (σ : St) (H : Hp) (xs : List V) (us : List Value) (Q : VK), Inv X pins σ H s → Vals xs us → r xs H Q →
  wpAny (model X.prog X.w) X.A (call f us) (EP X pins σ Q) X.xe s
def tOp (r : R2) (ta tb : TE) : TE := fun σ H Q => ta σ H fun x H1 => tb σ H1 fun y H2 => r x y H2 Q
def tUn (r : V → Hp → VK → Prop) (ta : TE) : TE := fun σ H Q => ta σ H fun x H1 => r x H1 Q
def rI (C : Int → Int → Prop) (g : Int → Int → V) : R2 := fun x y H Q => ∃ i j, x = .int i ∧ y = .int j ∧ C i j ∧ Q (g i j) H
def rI0 (g : Int → Int → V) : R2 := fun x y H Q => ∃ i j, x = .int i ∧ y = .int j ∧ Q (g i j) H
def rU (g : Int → V) : V → Hp → VK → Prop := fun x H Q => ∃ i, x = .int i ∧ Q (g i) H
section
variable {X : Cx} {a b c : Expr} {ta tb tc : TE} {pos : Pos}
theorem binT (ha : PE X a ta) (hb : PE X b tb) {pins : List (Addr × Obj)} {s : Shared} {σ : St} {H : Hp} {R : V → V → Hp → Prop} (I : Inv X pins σ H s)
  (h : ta σ H fun x H1 => tb σ H1 fun y H2 => R x y H2) {Q : Value → Shared → Prop} {f : Value → Value → Sem Value}
  (hf : ∀ v u s2 x y H2, Inv X pins σ H2 s2 → RelV x v → RelV y u → R x y H2 → wpAny (model X.prog X.w) X.A (f v u) Q X.xe s2) :
  wpAny (model X.prog X.w) X.A (eval a X.env) (fun v s₁ => wpAny (model X.prog X.w) X.A (eval b X.env) (fun u s₂ => wpAny (model X.prog X.w) X.A (f v u) Q X.xe s₂) X.xe s₁) X.xe s := by
 refine thn (ha pins s σ H _ I h) fun v s1 ⟨x, H1, I1, r1, q1⟩ => ?_
 refine thn (hb pins s1 σ H1 _ I1 q1) fun u s2 ⟨y, H2, I2, r2, q2⟩ => ?_
 exact hf v u s2 x y H2 I2 r1 r2 q2
theorem pe_op {op : Operator} {r : R2} (ho : OpR X (binaryOp op) r) (ha : PE X a ta) (hb : PE X b tb) : PE X (.BinOp a op b pos) (tOp r ta tb) := by
 intro pins s σ H Q I h
 exact wpAny_BinOp (binT ha hb I h fun v u s2 x y H2 I2 rx ry q => ho pins s2 σ H2 x y v u Q I2 rx ry q)
theorem pe_un {op : UnaryOp} {r : V → Hp → VK → Prop} (ho : UnR X (unaryOp op) r) (ha : PE X a ta) : PE X (.UnaryOp op a pos) (tUn r ta) := by
 intro pins s σ H Q I h
 exact UnaryOp_ (thn (ha pins s σ H _ I h) fun v s1 ⟨x, H1, I1, r1, q1⟩ => ho pins s1 σ H1 x v Q I1 r1 q1)
theorem opI {f : Value → Value → Sem Value} {C : Int → Int → Prop} {g : Int → Int → Int}
  (rule : ∀ (i j : Int) (t u : Tok) (s : Shared) (Q : Value → Shared → Prop) (E : Value → Shared → Prop), C i j → Q (.int (g i j) s.toks) { s with toks := s.toks + 1 } → wpAny (model X.prog X.w) X.A (f (.int i t) (.int j u)) Q E s) :
  OpR X f (rI C fun i j => .int (g i j)) := by
 intro pins s σ H x y v u Q I rx ry h
 obtain ⟨i, j, rfl, rfl, hc, q⟩ := h
 obtain ⟨t, rfl⟩ := rx
 obtain ⟨t', rfl⟩ := ry
 exact rule i j t t' s _ _ hc ⟨.int (g i j), H, I.tok _, ⟨_, rfl⟩, q⟩
theorem opI0 {f : Value → Value → Sem Value} {g : Int → Int → Int}
  (rule : ∀ (i j : Int) (t u : Tok) (s : Shared) (Q : Value → Shared → Prop) (E : Value → Shared → Prop), Q (.int (g i j) s.toks) { s with toks := s.toks + 1 } → wpAny (model X.prog X.w) X.A (f (.int i t) (.int j u)) Q E s) :
  OpR X f (rI0 fun i j => .int (g i j)) := by
 intro pins s σ H x y v u Q I rx ry h
 obtain ⟨i, j, rfl, rfl, q⟩ := h
 obtain ⟨t, rfl⟩ := rx
 obtain ⟨t', rfl⟩ := ry
 exact rule i j t t' s _ _ ⟨.int (g i j), H, I.tok _, ⟨_, rfl⟩, q⟩
theorem opB0 {f : Value → Value → Sem Value} {g : Int → Int → Bool}
  (rule : ∀ (i j : Int) (t u : Tok) (s : Shared) (Q : Value → Shared → Prop) (E : Value → Shared → Prop), Q (.bool (g i j)) s → wpAny (model X.prog X.w) X.A (f (.int i t) (.int j u)) Q E s) :
  OpR X f (rI0 fun i j => .bl (g i j)) := by
 intro pins s σ H x y v u Q I rx ry h
 obtain ⟨i, j, rfl, rfl, q⟩ := h
 obtain ⟨t, rfl⟩ := rx
 obtain ⟨t', rfl⟩ := ry
 exact rule i j t t' s _ _ ⟨.bl (g i j), H, I, rfl, q⟩
def CPow (i j : Int) : Prop := 0 ≤ j ∧ j ≤ 1000000 ∧ i.natAbs < 2 ^ 64
def CMul (i j : Int) : Prop := (-(2 ^ 64) < i ∧ i < 2 ^ 64) ∨ (-(2 ^ 64) < j ∧ j < 2 ^ 64)
theorem CMul.ok {i j : Int} (h : CMul i j) : IntMulOk i j := by
 rcases h with ⟨h1, h2⟩ | ⟨h1, h2⟩
 ·exact .of_left (intBits_le_64 h1 h2)
 ·exact .of_right (intBits_le_64 h1 h2)
theorem op_add : OpR X (binaryOp .Add) (rI0 fun i j => .int (i + j)) := opI0 fun _ _ _ _ _ _ _ q => add_int q
theorem op_sub : OpR X (binaryOp .Sub) (rI0 fun i j => .int (i - j)) := opI0 fun _ _ _ _ _ _ _ q => sub_int q
theorem op_modN : OpR X (binaryOp .Mod) (rI (fun _ j => j ≠ 0) fun i j => .int (i.fmod j)) := opI fun _ _ _ _ _ _ _ hc q => mod_int' hc q
theorem op_pow : OpR X (binaryOp .Pow) (rI CPow fun i j => .int (i ^ j.toNat)) := opI fun _ _ _ _ _ _ _ hc q => pow_int_small hc.1 hc.2.1 hc.2.2 q
theorem unI {f : Value → Sem Value} {g : Int → Int}
  (rule : ∀ (i : Int) (t : Tok) (s : Shared) (Q : Value → Shared → Prop) (E : Value → Shared → Prop), Q (.int (g i) s.toks) { s with toks := s.toks + 1 } → wpAny (model X.prog X.w) X.A (f (.int i t)) Q E s) :
  UnR X f (rU fun i => .int (g i)) := by
 intro pins s σ H x v Q I rx h
 obtain ⟨i, rfl, q⟩ := h
 obtain ⟨t, rfl⟩ := rx
 exact rule i t s _ _ ⟨.int (g i), H, I.tok _, ⟨_, rfl⟩, q⟩
theorem un_neg : UnR X (unaryOp .USub) (rU fun i => .int (-i)) := unI fun _ _ _ _ _ q => neg_int q
end
section
variable {X : Cx} {a b c : Expr} {ta tb tc : TE} {pos : Pos}
theorem op_lt : OpR X (compareOp .Lt) (rI0 fun i j => .bl (decide (i < j))) := opB0 fun _ _ _ _ _ _ _ q => lt_int q
theorem op_le : OpR X (compareOp .LtE) (rI0 fun i j => .bl (decide (i ≤ j))) := opB0 fun _ _ _ _ _ _ _ q => le_int q
theorem op_gt : OpR X (compareOp .Gt) (rI0 fun i j => .bl (decide (j < i))) := opB0 fun _ _ _ _ _ _ _ q => gt_int q
theorem op_ge : OpR X (compareOp .GtE) (rI0 fun i j => .bl (decide (j ≤ i))) := opB0 fun _ _ _ _ _ _ _ q => ge_int q
theorem OpR.or {f : Value → Value → Sem Value} {r r' : R2} (h : OpR X f r) (h' : OpR X f r') : OpR X f (fun x y H Q => r x y H Q ∨ r' x y H Q) := by
 intro pins s σ H x y v u Q I rx ry q
 rcases q with q | q
 ·exact h pins s σ H x y v u Q I rx ry q
 ·exact h' pins s σ H x y v u Q I rx ry q
theorem zZ (b : Expr) {op : CmpOp} (h : op ≠ .In := by decide) (h2 : op ≠ .NotIn := by decide) : behindInMarks op b = false := by
 have e1 : (op == CmpOp.In) = false := by cases op <;> first | rfl | exact absurd rfl h
 have e2 : (op == CmpOp.NotIn) = false := by cases op <;> first | rfl | exact absurd rfl h2
 cases b <;> simp [behindInMarks, e1, e2]
theorem pe_cmpR {op : CmpOp} {r : R2} (ho : OpR X (compareOp op) r) (ha : PE X a ta) (hb : PE X b tb) (hm : behindInMarks op b = false) : PE X (.Compare a [op] [b] pos) (tOp r ta tb) := by
 intro pins s σ H Q I h
 exact wpAny_Compare1 (binT ha hb I h fun v u s2 x y H2 I2 rx ry q => ho pins s2 σ H2 x y v u Q I2 rx ry q) hm
def tTest (t : TE) : TT := fun σ H Q => t σ H fun x H' => ∃ k, x = .bl k ∧ Q k H'
theorem pt_cmpR {op : CmpOp} {r : R2} (ho : OpR X (compareOp op) r) (ha : PE X a ta) (hb : PE X b tb) (hm : behindInMarks op b = false) : PT X (.Compare a [op] [b] pos) (tTest (tOp r ta tb)) := by
 intro pins s σ H Q I h
 refine wpAny_isTrue_Compare1 (thn (ha pins s σ H _ I h) fun v s1 ⟨x, H1, I1, r1, q1⟩ => thn (hb pins s1 σ H1 _ I1 q1) fun u s2 ⟨y, H2, I2, r2, q2⟩ =>
  thn (ho pins s2 σ H2 x y v u _ I2 r1 r2 q2) fun c s3 ⟨z, H3, I3, r3, k, e, q3⟩ => ?_) hm
 subst e
 cases r3
 exact wpAny_truthy_bool ⟨H3, I3, q3⟩
def tChain (r r' : R2) (ta tb tc : TE) : TE := fun σ H Q => ta σ H fun x H1 => tb σ H1 fun y H2 => r x y H2 fun z H3 => ∃ k, z = .bl k ∧
 (if k = true then tc σ H3 fun w' H4 => r' y w' H4 Q else Q (.bl false) H3)
theorem pe_chain {op op' : CmpOp} {r r' : R2} (ho : OpR X (compareOp op) r) (ho' : OpR X (compareOp op') r') (ha : PE X a ta) (hb : PE X b tb) (hc : PE X c tc)
  (hm : lastMarks [op, op'] [b, c] = false := by with_unfolding_all rfl) : PE X (.Compare a [op, op'] [b, c] pos) (tChain r r' ta tb tc) := by
 intro pins s σ H Q I h
 refine Compare_chain (thn (ha pins s σ H _ I h) fun v s1 ⟨x, H1, I1, r1, q1⟩ => chain_link (thn (hb pins s1 σ H1 _ I1 q1) fun u s2 ⟨y, H2, I2, r2, q2⟩ =>
  thn (ho pins s2 σ H2 x y v u _ I2 r1 r2 q2) fun d s3 ⟨z, H3, I3, r3, k, e, q3⟩ => ?_)) hm
 subst e
 cases r3
 refine wpAny_truthy_bool ?_
 cases k with
 | false => exact ite_ff ⟨.bl false, H3, I3, rfl, q3⟩
 | true => exact ite_tt (chain_last (thn (hc pins s3 σ H3 _ I3 q3) fun w' s4 ⟨z', H4, I4, r4, q4⟩ => ho' pins s4 σ H4 y z' u w' Q I4 r2 r4 q4))
theorem line63 : (sizeLine : Nat) < 2 ^ 63 := by rw [sizeLine_eq]; decide
theorem op_add_str : OpR X (binaryOp .Add) (fun x y H Q => ∃ i j, x = .str i ∧ y = .str j ∧ i.length + j.length ≤ sizeLine ∧ Q (.str (i ++ j)) H) := by
 intro pins s σ H x y v u Q I rx ry h
 obtain ⟨i, j, rfl, rfl, hz, q⟩ := h
 obtain ⟨t, rfl⟩ := rx
 obtain ⟨t', rfl⟩ := ry
 exact add_str (fun t' tk => ⟨.str (i ++ j), H, I.tok _, ⟨_, rfl⟩, q⟩) hz
theorem vals1 {x : V} {us : List Value} (r : Vals [x] us) : ∃ u, us = [u] ∧ RelV x u := by
 cases r with
 | cons r1 r2 => cases r2; exact ⟨_, rfl, r1⟩
theorem vals2 {x y : V} {us : List Value} (r : Vals [x, y] us) : ∃ u w', us = [u, w'] ∧ RelV x u ∧ RelV y w' := by
 cases r with
 | cons r1 r2 =>
  cases r2 with
  | cons r3 r4 => cases r4; exact ⟨_, _, rfl, r1, r3⟩
theorem call_abs : CallR X (.builtin "abs") (fun xs H Q => ∃ i, xs = [.int i] ∧ Q (.int (if i < 0 then -i else i)) H) := by
 intro pins s σ H xs us Q I r h
 obtain ⟨i, rfl, q⟩ := h
 obtain ⟨u, rfl, t, rfl⟩ := vals1 r
 exact call_abs_int fun u tk => ⟨.int (if i < 0 then -i else i), H, I.tok _, ⟨_, rfl⟩, q⟩
theorem call_max2 (hc : X.calm = true) : CallR X (.builtin "max") (fun xs H Q => ∃ i j, xs = [.int i, .int j] ∧ Q (.int (if j > i then j else i)) H) := by
 intro pins s σ H xs us Q I r h
 obtain ⟨i, j, rfl, q⟩ := h
 obtain ⟨u, w', rfl, ⟨t, rfl⟩, ⟨t', rfl⟩⟩ := vals2 r
 refine max_two_ints (I.ok.hd hc) fun h' tk k => ⟨_, H, I.kept k, ?_, q⟩
 by_cases hj : j > i
 ·rw [if_pos hj, if_pos hj]; exact ⟨_, rfl⟩
 ·rw [if_neg hj, if_neg hj]; exact ⟨_, rfl⟩
theorem call_int1 : CallR X (.type "int") (fun xs H Q => (∃ i, xs = [.int i] ∧ Q (.int i) H) ∨ ∃ k, xs = [.bl k] ∧ Q (.int (if k then 1 else 0)) H) := by
 intro pins s σ H xs us Q I r h
 rcases h with ⟨i, rfl, q⟩ | ⟨k, rfl, q⟩
 ·obtain ⟨u, rfl, t, rfl⟩ := vals1 r
  exact call_int_int ⟨.int i, H, I, ⟨_, rfl⟩, q⟩
 ·obtain ⟨u, rfl, r1⟩ := vals1 r
  cases r1
  exact call_int_bool ⟨.int (if k then 1 else 0), H, I.tok _, ⟨_, rfl⟩, q⟩
end
end L2
namespace L2
open PySem PySem.Spec PyProof.Rows
structure ObjM (h : Heap) (x dx C : Addr) (mA : Str → Option Value) : Prop where
 obj : h.get? x = some (PySem.W.instObj C dx)
 ns : h.Ns1 dx mA
 ne : dx ≠ x
theorem lookIn_ns {h : Heap} {dx : Addr} {mA : Str → Option Value} (n : h.Ns1 dx mA) : ∃ od, h.get? dx = some od ∧ ∀ name, PySem.W.lookIn name od = some (mA name) := by
 obtain ⟨o, es, ep, ho, hd, hk, _, hm⟩ := n
 refine ⟨o, ho, fun name => ?_⟩
 have e := hm name
 unfold nsFind findBy at e
 rw [← Array.find?_toList] at e
 unfold PySem.W.lookIn
 rw [hd]
 dsimp only
 split
 ·rename_i y q
  rw [q] at e
  exact congrArg some e
 ·rename_i q
  rw [q] at e
  have a : es.toList.any (·.refKey) = false := by
   rw [List.any_eq_false]
   intro y hy
   obtain ⟨z, t, hkey⟩ := hk y (Array.mem_toList_iff.mp hy)
   simp [DictEntry.refKey, hkey]
  have a' : ¬ es.toList.any (·.refKey) = true := by rw [a]; exact Bool.false_ne_true
  rw [if_neg a']
  exact congrArg some e
theorem ObjM.look {h : Heap} {x dx C : Addr} {mA : Str → Option Value} (I : ObjM h x dx C mA) : ∃ od, PySem.W.InstAt h x (PySem.W.instObj C dx) C (some od) ∧ ∀ name, PySem.W.lookIn name od = some (mA name) :=
 let ⟨od, ho, hl⟩ := lookIn_ns I.ns
 ⟨od, ⟨I.obj, rfl, rfl, ho⟩, hl⟩
section
variable {prog : Program} {w : World} {A : Around} {E : Value → Shared → Prop} {s : Shared} {K : PySem.W.Frag} {x dx C f : Addr} {mA : Str → Option Value} {name : Str} {v : Value}
theorem get_map {expr : Bool} {Q : Value → Shared → Prop} (X : K.In s.heap) (I : ObjM s.heap x dx C mA) (hg : PySem.W.plainGet K C name = true) (hh : PySem.W.hasDictIn K C = true)
  (ha : PySem.W.findIn K (.ref C) name = some none) (hv : mA name = some v) (hv' : PySem.W.handedIn v = true) (h : Q v { s with toks := s.toks + 1 }) :
  wpAny (model prog w) A (getAttr (.ref x) name expr) Q E s := by
 obtain ⟨od, J, hl⟩ := I.look
 exact PySem.W.get_value X J (PySem.W.plainGet_of hg).1 (PySem.W.findObj_own hh ha rfl (by rw [hl, hv])) hv' h
end
section
variable {P : Program} {w : World} {H H' : Hp} {h h' : Heap} {a C dx : Addr} {fs fs' : List (Str × V)}
end
structure Cls (K : PySem.W.Frag) (C : Addr) : Prop where
 pg : PySem.W.plainGet K C Str.empty = true
 hd : PySem.W.hasDictIn K C = true
 po : PySem.W.plainOver K C = true
 sa : PySem.W.findIn K (.ref C) "__setattr__" = some (some (.builtin "object.__setattr__"))
section
variable {X : Cx} {pins : List (Addr × Obj)} {σ : St} {H : Hp} {s : Shared} {a C dx : Addr} {fs : List (Str × V)} {f : Str} {v : V} {A : Around} {E : Value → Shared → Prop}
end
section
variable {X : Cx} {o e value : Expr} {f : Str} {pos pos' tpos : Pos} {ta tv : TE}
end
section
variable {X : Cx} {pins : List (Addr × Obj)} {σ : St} {H : Hp} {s : Shared} {A : Around} {E : Value → Shared → Prop} {Q : Value → Shared → Prop} {c : Value} {b : Bool}
end
end L2
namespace L2
open PySem PySem.Spec PyProof.Rows
structure Room (k : Nat) (A : Around) : Prop where
 hd : A.handled = none
 dp : A.depth + 3 * k + 120 < recursionLimit
 un : A.units + 16 * k + 200 < cLine
theorem Room.mono {j k : Nat} {A : Around} (r : Room k A) (h : j ≤ k) : Room j A := ⟨r.hd, by have := r.dp; omega, by have := r.un; omega⟩
theorem Room.deeper {k : Nat} {A : Around} (r : Room (k + 1) A) (env : Env) : Room k (A.deeper env) :=
 ⟨r.hd, by have := r.dp; show A.depth + 1 + 3 * k + 120 < _; omega, by have := r.un; show A.units + 3 + 16 * k + 200 < _; omega⟩
theorem Room.depth {k : Nat} {A : Around} (r : Room k A) : A.depth < recursionLimit := by have := r.dp; omega
theorem Room.units {k : Nat} {A : Around} (r : Room k A) : A.units + 64 < cLine := by have := r.un; omega
def tNil : TA := fun _ H Q => Q [] H
def tCons (ta : TE) (tr : TA) : TA := fun σ H Q => ta σ H fun x H1 => tr σ H1 fun xs H2 => Q (x :: xs) H2
section
variable {X : Cx} {e : Expr} {es : List Expr} {te : TE} {t : TA} {pos : Pos}
theorem pa_nil : PA X [] tNil := fun _ _ _ _ H Q I h => Calls.spliced_nil ⟨[], H, I, .nil, h⟩
theorem pa_cons (ha : PE X e te) (hr : PA X es t) (hs : starEach (e :: es) X.env = (false, eval e X.env) :: starEach es X.env := by rfl) : PA X (e :: es) (tCons te t) := by
 intro pos pins s σ H Q I h
 rw [hs]
 show wpAny _ _ (spliced ((false, eval e X.env) :: backTo pos (starEach es X.env))) _ _ s
 refine Calls.spliced_cons (thn (ha pins s σ H _ I h) fun u s1 ⟨x, H1, I1, r1, q1⟩ => ?_)
 exact thn (hr pos pins s1 σ H1 _ I1 q1) fun us s2 ⟨xs, H2, I2, r2, q2⟩ => ⟨x :: xs, H2, I2, .cons r1 r2, q2⟩
def tTup (t : TA) : TE := fun σ H Q => t σ H fun xs H1 => xs.length ≤ sizeLine ∧ ∀ p, H1 p = none → Q (.ref p) (upd H1 p (.tup xs))
def tLst (t : TA) : TE := fun σ H Q => t σ H fun xs H1 => xs.length ≤ sizeLine ∧ ∀ p, H1 p = none → Q (.ref p) (upd H1 p (.lst xs))
theorem pe_tup {x1} (h : PA X es t) : PE X (.Tuple es x1 pos) (tTup t) := by
 intro pins s σ H Q I hq
 refine wpAny_Tuple_spliced (thn (h pos pins s σ H _ I hq) fun us s1 ⟨xs, H1, I1, r, z, q⟩ => ⟨by rw [← r.length]; exact z, ?_⟩)
 have hf : H1 s1.heap.objs.size = none := I1.hok.fresh (Nat.le_refl _)
 refine ⟨.ref s1.heap.objs.size, upd H1 s1.heap.objs.size (.tup xs), I1.laid (t' := s1.toks) (fun b u e => Heap.get?_push_of_some _ e) (Nat.le_refl _) ?_, rfl, q _ hf⟩
 exact ⟨z, us, r, ⟨_, Heap.get?_push_size _ rfl, rfl, _, rfl⟩⟩
theorem pe_lst (h : PA X es t) : PE X (.List es pos) (tLst t) := by
 intro pins s σ H Q I hq
 refine wpAny_List_spliced (thn (h pos pins s σ H _ I hq) fun us s1 ⟨xs, H1, I1, r, z, q⟩ => ⟨by rw [← r.length]; exact z, ?_⟩)
 have hf : H1 s1.heap.objs.size = none := I1.hok.fresh (Nat.le_refl _)
 refine ⟨.ref s1.heap.objs.size, upd H1 s1.heap.objs.size (.lst xs), I1.laid (t' := s1.toks) (fun b u e => Heap.get?_push_of_some _ e) (Nat.le_refl _) ?_, rfl, q _ hf⟩
 exact ⟨z, us, 0, r, Heap.get?_push_size _ rfl⟩
end
abbrev Sp := List V → Hp → VK → XK → Prop
abbrev CXT := List Env → Hp → Shared → XK → Value → Shared → Prop
structure Env0 (P : Program) (w : World) (K : PySem.W.Frag) (mg : Str → Option Value) (base : Heap) (A : Around) (outer : List Env) (s : Shared) (H : Hp) : Prop where
 frames : A.frames = some outer
 mod : Mod K mg base
 bs : ∀ b o, base.get? b = some o → s.heap.get? b = some o ∧ H b = none
 bsz : base.objs.size ≤ s.heap.objs.size
 funs : s.heap.FunFrames base outer
 frf : ∀ b ∈ frs outer, H b = none
 hok : HOk P w H s.heap
 bare : AllBare s.gens
def CE (outer : List Env) (P : Program) (w : World) (H : Hp) (s : Shared) (Q : VK) (u : Value) (s' : Shared) : Prop :=
 ∃ v H', s'.os = s.os ∧ AllBare s'.gens ∧ Un (frs outer) [] H H' s.heap s'.heap ∧ HOk P w H' s'.heap ∧ RelV v u ∧ Q v H'
def CR (CX : CXT) (outer : List Env) (P : Program) (w : World) (H : Hp) (s : Shared) (Q : VK) (E : XK) (r : Result) (s' : Shared) : Prop :=
 match r with
 | .ok (.ret u) => CE outer P w H s Q u s'
 | .ok _ => False
 | .error e => CX outer H s E e s'
structure FnOk (P : Program) (w : World) (K : PySem.W.Frag) (mg : Str → Option Value) (base : Heap) (CX : CXT) (k : Nat) (f : Addr) (fd : FuncData) (ps : List Str) (sp : Sp) : Prop where
 len : ∀ vs H Q E, sp vs H Q E → vs.length = ps.length
 run : ∀ (A : Around) (outer : List Env) (s : Shared) (H : Hp) (args : Args) (us : List Value) (vs : List V) (Q : VK) (E : XK), Room k A → Env0 P w K mg base A outer s H → BindsTo s fd args (ps.zip us) → Vals vs us → sp vs H Q E →
  codeAny (model P w) A (.call (.ref f) args) (CR CX outer P w H s Q E) s
theorem FnOk.mono {P : Program} {w : World} {K : PySem.W.Frag} {mg : Str → Option Value} {base : Heap} {CX : CXT} {j k : Nat} {f : Addr} {fd : FuncData} {ps : List Str} {sp : Sp} (F : FnOk P w K mg base CX j f fd ps sp) (h : j ≤ k) :
  FnOk P w K mg base CX k f fd ps sp := ⟨F.len, fun A outer s H args us vs Q E hr => F.run A outer s H args us vs Q E (hr.mono h)⟩
theorem FnOk.imp {P : Program} {w : World} {K : PySem.W.Frag} {mg : Str → Option Value} {base : Heap} {CX : CXT} {k : Nat} {f : Addr} {fd : FuncData} {ps : List Str} {sp sp' : Sp} (F : FnOk P w K mg base CX k f fd ps sp)
  (h : ∀ vs H Q E, sp' vs H Q E → sp vs H Q E) : FnOk P w K mg base CX k f fd ps sp' :=
 ⟨fun vs H Q E q => F.len vs H Q E (h _ _ _ _ q), fun A outer s H args us vs Q E hr he hb hv hs => F.run A outer s H args us vs Q E hr he hb hv (h _ _ _ _ hs)⟩
section
variable {X : Cx} {pins : List (Addr × Obj)} {σ : St} {H : Hp} {s s' : Shared}
theorem Inv.env0 (I : Inv X pins σ H s) : Env0 X.prog X.w X.K X.mg X.base X.A X.stack s H :=
 ⟨I.ok.frames, I.ok.mod, I.bs, Nat.le_trans I.ok.bsz I.sz, I.stack, I.stkFree, I.hok, I.bare⟩
theorem Inv.after {Q : VK} {u : Value} (I : Inv X pins σ H s) (h : CE X.stack X.prog X.w H s Q u s') : EP X pins σ Q u s' := by
 obtain ⟨v, H', os, bare, un, hok, r, q⟩ := h
 obtain ⟨hh, g, d, t, os'⟩ := s'
 obtain rfl : os' = s.os := os
 exact ⟨v, H', I.call (h' := hh) (g' := g) (d' := d) (t' := t) (ch := []) un hok bare (fun b z => absurd z (by simp)), r, q⟩
end
def tCall (sp : Sp) (dvs : List V) (E : XK) (t : TA) : TE := fun σ H Q => t σ H fun vs H1 => sp (vs ++ dvs) H1 Q E
def zV (K : PySem.W.Frag) (fd : FuncData) (ps : List Str) (ds : List Value) : Prop :=
 ∀ (s : Shared) (us : List Value), K.In s.heap → (us ++ ds).length = ps.length → BindsTo s fd ⟨us, []⟩ (ps.zip (us ++ ds))
theorem zV.all {K : PySem.W.Frag} {fd : FuncData} {ps : List Str} (h : ∀ us : List Value, us.length = ps.length → bindArgs fd ⟨us, []⟩ = pure (ps.zip us)) : zV K fd ps [] := fun s us _ hl => by
 rw [List.append_nil] at hl ⊢
 exact .of_eq (h us hl)
def Passes (CX : CXT) (X : Cx) (E : XK) : Prop := ∀ (pins : List (Addr × Obj)) (σ : St) (H : Hp) (s : Shared) (e : Value) (s' : Shared), Inv X pins σ H s → CX X.stack H s E e s' → X.xe e s'
section
variable {X : Cx} {CX : CXT} {k : Nat} {f C : Addr} {fd : FuncData} {ps : List Str} {sp : Sp} {dvs : List V} {ds : List Value} {E : XK} {x m : Str} {p pos apos : Pos} {e o : Expr} {es : List Expr} {ta : TE} {t : TA}
theorem run_fn {pins : List (Addr × Obj)} {σ : St} {H : Hp} {s : Shared} {Q : VK} {us : List Value} {vs : List V} (F : FnOk X.prog X.w X.K X.mg X.base CX k f fd ps sp) (hr : Room k X.A) (hb : zV X.K fd ps ds) (hd : Vals dvs ds) (hx : Passes CX X E)
  (I : Inv X pins σ H s) (r : Vals vs us) (h : sp (vs ++ dvs) H Q E) : wpAny (model X.prog X.w) X.A (call (.ref f) us) (EP X pins σ Q) X.xe s := by
 have r2 : Vals (vs ++ dvs) (us ++ ds) := r.append hd
 have hl : (us ++ ds).length = ps.length := by rw [← r2.length]; exact F.len _ _ _ _ h
 refine wpAny_call (codeAny_mono (F.run X.A X.stack s H ⟨us, []⟩ (us ++ ds) (vs ++ dvs) Q E hr I.env0 (hb s us I.kIn hl) r2 h) fun r s' hq => ?_)
 cases r with
 | error e => exact hx pins σ H s e s' I hq
 | ok fl =>
  cases fl with
  | ret u => exact I.after hq
  | next => exact False.elim hq
  | brk => exact False.elim hq
  | cont => exact False.elim hq
theorem pe_call (F : FnOk X.prog X.w X.K X.mg X.base CX k f fd ps sp) (hr : Room k X.A) (hg : Gl X x) (hm : X.mg x = some (.ref f)) (hk : PySem.W.keepIn X.K (.ref f) = true) (hb : zV X.K fd ps ds) (hd : Vals dvs ds) (hx : Passes CX X E)
  (ha : PA X (e :: es) t) (hdb : (x == ("__debug__" : Str)) = false := by decide) (he : starEach (e :: es) X.env = (false, eval e X.env) :: starEach es X.env := by rfl) (hpl : (backTo pos (starEach es X.env)).any (·.1) = false := by rfl) :
  PE X (.Call (.Name x p) (e :: es) [] pos) (tCall sp dvs E t) := by
 intro pins s σ H Q I h
 refine wpAny_Call_Name_kw (ld_glob I hg hm ?_ hdb)
 refine PySem.W.callWith_K (h₀ := X.base) I.ok.mod.kin hk (thn (ha pos pins s σ H _ I h) fun us s1 ⟨vs, H1, I1, r, q⟩ => ⟨I1.kIn, ?_⟩) he hpl
 exact run_fn F hr hb hd hx I1 r q
end
section
variable {X : Cx} {CX : CXT} {k : Nat} {f C : Addr} {fd : FuncData} {ps ks : List Str} {sp : Sp} {E : XK} {x m : Str} {p pos apos kpos : Pos} {e o : Expr} {es : List Expr} {kws : List Keyword} {te ta : TE} {t tk : TA} {nm : Option Str}
variable {g : List Value → List Value → List Value} {gV : List V → List V → List V}
end
structure zN (N P : List Str) (sc : Scope) : Prop where
 kind : sc.kind = .function
 co : sc.isCoroutine = false
 gen : sc.isGenerator = false
 nd : N.Nodup
 pre : N.take P.length = P
 par : ∀ x ∈ P, sc.names.lookup x = some .local ∨ sc.names.lookup x = some .cell
 nofree : ∀ y ∈ sc.names, y.2 ≠ .free
theorem bindL_out {kindOf : Str → Option NameKind} {x : Str} : ∀ {binds : List (Str × Value)} {m : Str → Option Value}, (∀ v, (x, v) ∉ binds) → bindL kindOf binds m x = m x
 | [], _, _ => rfl
 | (n, v) :: r, m, h => by
  unfold bindL
  rw [bindL_out fun w hw => h w (List.mem_cons_of_mem _ hw)]
  split
  ·have : x ≠ n := by rintro rfl; exact h v List.mem_cons_self
   simp [this]
  ·rfl
theorem bindC_out {kindOf : Str → Option NameKind} {x : Str} : ∀ {binds : List (Str × Value)} {m : Str → Option Value}, (∀ v, (x, v) ∉ binds) → bindC kindOf binds m x = m x
 | [], _, _ => rfl
 | (n, v) :: r, m, h => by
  unfold bindC
  rw [bindC_out fun w hw => h w (List.mem_cons_of_mem _ hw)]
  split
  ·rfl
  ·have : x ≠ n := by rintro rfl; exact h v List.mem_cons_self
   simp [this]
theorem bindL_get {kindOf : Str → Option NameKind} {x : Str} {v : Value} : ∀ {P : List Str} {vs : List Value} {i : Nat} {m : Str → Option Value}, P.Nodup → P[i]? = some x → vs[i]? = some v → kindOf x = some .local →
  bindL kindOf (P.zip vs) m x = some v
 | [], _, _, _, _, h, _, _ => by simp at h
 | _ :: _, [], _, _, _, _, h, _ => by simp at h
 | p :: P, w :: vs, 0, m, nd, h1, h2, hk => by
  simp at h1 h2; subst h1; subst h2
  show bindL kindOf ((p, w) :: P.zip vs) m p = _
  unfold bindL
  rw [bindL_out fun v hv => (List.nodup_cons.mp nd).1 (List.of_mem_zip hv).1, if_pos hk]
  simp
 | p :: P, w :: vs, i + 1, m, nd, h1, h2, hk => by
  show bindL kindOf ((p, w) :: P.zip vs) m x = _
  unfold bindL
  exact bindL_get (i := i) (List.nodup_cons.mp nd).2 (by simpa using h1) (by simpa using h2) hk
theorem bindC_get {kindOf : Str → Option NameKind} {x : Str} {v : Value} : ∀ {P : List Str} {vs : List Value} {i : Nat} {m : Str → Option Value}, P.Nodup → P[i]? = some x → vs[i]? = some v → kindOf x ≠ some .local →
  bindC kindOf (P.zip vs) m x = some v
 | [], _, _, _, _, h, _, _ => by simp at h
 | _ :: _, [], _, _, _, _, h, _ => by simp at h
 | p :: P, w :: vs, 0, m, nd, h1, h2, hk => by
  simp at h1 h2; subst h1; subst h2
  show bindC kindOf ((p, w) :: P.zip vs) m p = _
  unfold bindC
  rw [bindC_out fun v hv => (List.nodup_cons.mp nd).1 (List.of_mem_zip hv).1, if_neg hk]
  simp
 | p :: P, w :: vs, i + 1, m, nd, h1, h2, hk => by
  show bindC kindOf ((p, w) :: P.zip vs) m x = _
  unfold bindC
  exact bindC_get (i := i) (List.nodup_cons.mp nd).2 (by simpa using h1) (by simpa using h2) hk
def start (N : List Str) (vs : List V) : St := vs.map some ++ List.replicate (N.length - vs.length) none
def cxOf (CX : CXT) (P : Program) (w : World) (K : PySem.W.Frag) (mg : Str → Option Value) (base : Heap) (N : List Str) (qual : Str) (scope : Scope) (f : Addr) (cd : Value) (A : Around) (outer : List Env) (s : Shared) (H : Hp) (E : XK) : Cx where
 prog := P
 w := w
 K := K
 mg := mg
 base := base
 A := A.deeper (envOfC qual scope s.heap.objs.size f cd)
 N := N
 s₀ := s
 H₀ := H
 env := envOfC qual scope s.heap.objs.size f cd
 outer := outer
 stack := envOfC qual scope s.heap.objs.size f cd :: outer
 ex := []
 calm := true
 fn := fun _ => true
 pn := []
 xe := fun e s' => wpAny (model P w) (A.deeper (envOfC qual scope s.heap.objs.size f cd)) (leaving (envOfC qual scope s.heap.objs.size f cd) e) (fun _ s'' => CX outer H s E e s'') (fun e' s'' => CX outer H s E e' s'') s'
theorem cell_has {sc : Scope} {n : Nat} {x : Str} (h : sc.names.lookup x = some .cell) : ∃ c, (cellsFrom n sc.names []).lookup x = some c := by
 have q := PySem.W.cellsFrom_some sc.names n [] (.inl h)
 exact Option.isSome_iff_exists.mp q
theorem inv_start {CX : CXT} {P : Program} {w : World} {K : PySem.W.Frag} {mg : Str → Option Value} {base : Heap} {N ps : List Str} {qual : Str} {scope : Scope} {f : Addr} {cd : Value} {A : Around} {outer : List Env} {s s1 : Shared} {H : Hp} {E : XK} {us : List Value} {vs : List V}
  (S : zN N ps scope) (hd : A.handled = none) (e0 : Env0 P w K mg base A outer s H) (hl : vs.length = ps.length) (r : Vals vs us)
  (x : InCallC s s.heap.objs.size (bindL (envOfC qual scope s.heap.objs.size f cd).kindOf (ps.zip us) fun _ => none) (cellsFrom (s.heap.objs.size + 1) scope.names []) (bindC (envOfC qual scope s.heap.objs.size f cd).kindOf (ps.zip us) fun _ => none) s1) :
  Inv (cxOf CX P w K mg base N qual scope f cd A outer s H E) [] (start N vs) H s1 := by
 have hpl : ps.length ≤ N.length := by have := congrArg List.length S.pre; rw [List.length_take] at this; omega
 obtain ⟨h1, tk, rfl, hk⟩ := x.done
 have noA : ∀ b : Addr, b ∉ (cxOf CX P w K mg base N qual scope f cd A outer s H E).ex := fun b z => absurd (show b ∈ ([] : List Addr) from z) (by simp)
 refine ⟨⟨e0.mod, S.kind, rfl, rfl, Nat.le_refl _, fun y z c h1 h2 => ?_, fun y hy => ?_, fun y c _ h => ?_, fun _ => hd, Around.frames_deeper e0.frames, .inr ⟨rfl, rfl⟩, fun b z => absurd z (noA b), e0.bs, e0.bsz, fun b _ _ => noA b, fun b z => absurd z (noA b), e0.funs, e0.frf⟩,
  rfl, e0.bare, Un.kept hk, ⟨_, x.toInCall.ns, fun i y v h1 h2 h3 => ?_⟩, fun y c h => ⟨_, x.cell y c h⟩, e0.hok.fresh (Nat.le_refl _), fun y c h => ?_, fun p hp => absurd (show p ∈ ([] : List (Addr × Obj)) from hp) (by simp), e0.hok.kept hk, ?_⟩
 ·exact name_of_addr x.apart (PySem.mem_of_lookup h1) (PySem.mem_of_lookup h2)
 ·have hy : scope.names.lookup y = some .cell ∨ scope.names.lookup y = some .free := hy
  rcases hy with hy | hy
  ·exact cell_has hy
  ·exact absurd rfl (S.nofree _ (PySem.mem_of_lookup hy))
 ·exact Nat.le_of_lt (x.above y c (PySem.mem_of_lookup h))
 ·have hi : i < vs.length := by
   unfold start at h2
   by_cases hi : i < vs.length
   ·exact hi
   ·rw [List.getElem?_append_right (by simpa using hi)] at h2
    rw [List.getElem?_replicate] at h2
    split at h2 <;> cases h2
  have ha : vs[i]? = some v := by
   unfold start at h2
   rw [List.getElem?_append_left (by simpa using hi), List.getElem?_map] at h2
   cases e : vs[i]? with
   | none => rw [e] at h2; cases h2
   | some a => rw [e] at h2; cases h2; rfl
  obtain ⟨u, hu, rv⟩ := r.get ha
  have hp : ps[i]? = some y := by
   rw [← S.pre, List.getElem?_take_of_lt (by omega)]; exact h1
  have ndP : ps.Nodup := by rw [← S.pre]; exact S.nd.sublist (List.take_sublist _ _)
  refine ⟨u, rv, ?_⟩
  rcases S.par y (List.mem_of_getElem? hp) with k | k
  ·exact .inl ⟨k, bindL_get ndP hp hu k⟩
  ·obtain ⟨c, e⟩ := cell_has (n := s.heap.objs.size + 1) k
   refine .inr ⟨.inl k, c, e, ?_⟩
   have q := x.cell y c e
   rw [bindC_get ndP hp hu (by show scope.names.lookup y ≠ _; rw [k]; decide)] at q
   exact q
 ·exact e0.hok.fresh (Nat.le_of_lt (x.above y c (PySem.mem_of_lookup h)))
 ·unfold start
  show _ = N.length
  rw [List.length_append, List.length_map, List.length_replicate]
  omega
theorem fn_of {CX : CXT} {P : Program} {w : World} {K : PySem.W.Frag} {mg : Str → Option Value} {base : Heap} {k : Nat} {f : Addr} {name qual : Str} {params : Arguments} {body : List Stmt} {scope : Scope} {dV kV doc pm cdv ct oc : Value} {an od : Option Addr}
  {osl : Array (Option Value)} {N ps : List Str} {sp : Sp} (lk : K.lookup f = some ⟨oc, od, .func (PySem.W.fnOf name qual params body scope dV kV doc pm an cdv ct), osl⟩) (hcd : PySem.W.codeIn K cdv qual = true) (S : zN N ps scope)
  (len : ∀ vs H Q E, sp vs H Q E → vs.length = ps.length)
  (hbody : ∀ (A : Around) (outer : List Env) (s : Shared) (H : Hp) (vs : List V) (Q : VK) (E : XK), Room k (A.deeper (envOfC qual scope s.heap.objs.size f cdv)) → sp vs H Q E →
   ∃ t, PSs (cxOf CX P w K mg base N qual scope f cdv A outer s H E) body t ∧ t { nx := fun _ H' => Q .non H', rt := Q } (start N vs) H) :
  FnOk P w K mg base CX (k + 1) f (PySem.W.fnOf name qual params body scope dV kV doc pm an cdv ct) ps sp := by
 refine ⟨len, fun A outer s H args us vs Q E hr e0 hb r hsp => ?_⟩
 have hl := len _ _ _ _ hsp
 have KX : K.In s.heap := e0.mod.kin.keeps fun b o e => (e0.bs b o e).1
 have lim : s.heap.NoLimit := e0.mod.nolimit.keeps fun b o e => (e0.bs b o e).1
 have hkind : ∀ y ∈ ps.zip us, scope.names.lookup y.1 = some .local ∨ (scope.names.lookup y.1 = some .cell ∧ ((cellsFrom (s.heap.objs.size + 1) scope.names []).lookup y.1).isSome = true) := fun ⟨n, v⟩ hy => by
  rcases S.par n (List.of_mem_zip hy).1 with q | q
  ·exact .inl q
  ·exact .inr ⟨q, PySem.W.cellsFrom_some _ _ _ (.inl q)⟩
 refine codeAny_call_function hr.depth (KX _ _ lk) rfl S.co S.gen rfl (PySem.W.codeRec_of KX hcd) (hb _ _ _ _ ?_)
 refine wpAny_newFunctionEnv_cells S.kind hkind fun env he s1 x => ?_
 subst he
 refine ⟨lim.keeps x.toInCall.keep, codeAny_func ?_⟩
 obtain ⟨t, ht, hq⟩ := hbody A outer s H vs Q E (hr.deeper _) hsp
 have I : Inv (cxOf CX P w K mg base N qual scope f cdv A outer s H E) [] (start N vs) H s1 := inv_start S hr.hd e0 hl r x
 refine wpAny_mono (ht [] s1 (start N vs) H _ I hq) (fun fl s' hs => ?_) fun e s' hs => hs
 have fin : ∀ {σ' : St} {H' : Hp} {v : V} {u : Value}, Inv (cxOf CX P w K mg base N qual scope f cdv A outer s H E) [] σ' H' s' → RelV v u → Q v H' → CE outer P w H s Q u s' :=
  fun {σ' H' v u} J rv q => ⟨v, H', J.os, J.bare, J.base, J.hok, rv, q⟩
 cases fl with
 | ret u =>
  obtain ⟨v, σ', H', J, rv, q⟩ := hs
  exact fin J rv q
 | next =>
  obtain ⟨σ', H', J, q⟩ := hs
  exact fin (v := V.non) (u := Value.none) J rfl q
 | brk =>
  obtain ⟨_, _, _, q⟩ := hs
  exact False.elim q
 | cont =>
  obtain ⟨_, _, _, q⟩ := hs
  exact False.elim q
end L2
namespace L2
open PySem PySem.Spec PyProof.Rows
section
variable {X : Cx} {x : Str} {p pos : Pos} {e : Expr} {es : List Expr} {t : TA} {id T : String} {r : List V → Hp → VK → Prop}
def tCB (r : List V → Hp → VK → Prop) (t : TA) : TE := fun σ H Q => t σ H fun vs H1 => r vs H1 Q
theorem pe_callB (hc : CallR X (.builtin id) r) (hg : Gl X x) (hm : X.mg x = none) (hv : bootBuiltins x = some (.builtin id)) (ha : PA X (e :: es) t) (hn : x ≠ "__name__" := by decide) (hdb : (x == ("__debug__" : Str)) = false := by decide)
  (he : starEach (e :: es) X.env = (false, eval e X.env) :: starEach es X.env := by rfl) (hpl : (backTo pos (starEach es X.env)).any (·.1) = false := by rfl) : PE X (.Call (.Name x p) (e :: es) [] pos) (tCB r t) := by
 intro pins s σ H Q I h
 refine wpAny_Call_Name_kw (ld_blt I hg hm hv ?_ hn hdb)
 exact PyProof.Rows.callWith_builtin1 (thn (ha pos pins s σ H _ I h) fun us s1 ⟨vs, H1, I1, r1, q1⟩ => hc pins s1 σ H1 vs us Q I1 r1 q1) he hpl
theorem pe_callTy (hc : CallR X (.type T) r) (hg : Gl X x) (hm : X.mg x = none) (hv : bootBuiltins x = some (.type T)) (ha : PA X (e :: es) t) (hn : x ≠ "__name__" := by decide) (hdb : (x == ("__debug__" : Str)) = false := by decide)
  (he : starEach (e :: es) X.env = (false, eval e X.env) :: starEach es X.env := by rfl) (hpl : (backTo pos (starEach es X.env)).any (·.1) = false := by rfl) : PE X (.Call (.Name x p) (e :: es) [] pos) (tCB r t) := by
 intro pins s σ H Q I h
 refine wpAny_Call_Name_kw (ld_blt I hg hm hv ?_ hn hdb)
 exact PyProof.Rows.callWith_type1 (thn (ha pos pins s σ H _ I h) fun us s1 ⟨vs, H1, I1, r1, q1⟩ => hc pins s1 σ H1 vs us Q I1 r1 q1) he hpl
end
end L2
namespace HT
open PySem PyProof.Rows
section
open PySem.SeqAt
open PySem.AutoSeq1 (wpAny_loadPart')
open PySem.MeetsSeq PySem.MeetsSeq2 PySem.MeetsSeq3
end
section
variable {prog : Program} {w : World} {A : Around} {E : Value → Shared → Prop} {s : Shared}
def sIx (n d : Nat) : Option Int → Nat
 | none => d
 | some v => if v < 0 then (v + (n : Int)).toNat else min v.toNat n
theorem sIx_le (n d : Nat) (hd : d ≤ n) (o : Option Int) : sIx n d o ≤ n := by
 cases o with
 | none => exact hd
 | some v =>
  show (if v < 0 then (v + (n : Int)).toNat else min v.toNat n) ≤ n
  by_cases hv : v < 0
  ·rw [if_pos hv]; omega
  ·rw [if_neg hv]; exact Nat.min_le_right _ _
theorem clip_eq (v : Int) (n d : Nat) : (if v < 0 then max (v + (n : Int)) 0 else min v (n : Int)) = ((sIx n d (some v) : Nat) : Int) := by
 show (if v < 0 then max (v + (n : Int)) 0 else min v (n : Int)) = (((if v < 0 then (v + (n : Int)).toNat else min v.toNat n) : Nat) : Int)
 by_cases hv : v < 0
 ·simp only [if_pos hv]; omega
 ·simp only [if_neg hv]; omega
theorem adjust_gen (lo hi : Option Int) (n : Nat) : Builtin.Slice.sliceAdjust lo hi 1 (n : Int) = (((sIx n 0 lo : Nat) : Int), ((sIx n n hi : Nat) : Int)) := by
 have h1 : ¬ ((1 : Int) < 0) := by omega
 unfold Builtin.Slice.sliceAdjust
 simp only [h1, if_false]
 refine Prod.ext ?_ ?_
 ·cases lo with
  | none => rfl
  | some v => exact clip_eq v n 0
 ·cases hi with
  | none => rfl
  | some v => exact clip_eq v n n
theorem places_gen (i j : Nat) : Builtin.Slice.slicePlaces (i : Int) (j : Int) 1 = j - i := by
 unfold Builtin.Slice.slicePlaces
 have h1 : (1 : Int) > 0 := by omega
 simp only [h1, if_true, Int.ediv_one]
 split <;> omega
theorem slicePart_ {v : Value} {o : Option Int} {Q : Option Int → Shared → Prop} (p : IsPart v o) (h : Q o s) : wpAny (model prog w) A (Builtin.Slice.slicePartIndex v) Q E s := by
 cases p with
 | none => exact slicePart_none h
 | int i t => exact slicePart_int h
theorem sliceApplied_gen {sl : Addr} {vl vu : Value} {lo hi : Option Int} {n : Nat} {Q : Int × Int × Nat → Shared → Prop} (hs : s.heap.IsSliceOf sl vl vu .none) (pl : IsPart vl lo) (pu : IsPart vu hi)
  (h : Q (((sIx n 0 lo : Nat) : Int), 1, sIx n n hi - sIx n 0 lo) s) : wpAny (model prog w) A (Builtin.Slice.sliceApplied (.ref sl) (pure (n : Int))) Q E s := by
 obtain ⟨os, hos, hcs, hds⟩ := id hs
 unfold Builtin.Slice.sliceApplied Builtin.Slice.sliceFields
 refine wpAny_bind (wpAny_bind (wpAny_field hos hds (x := vl) rfl (wpAny_bind (wpAny_field hos hds (x := vu) rfl (wpAny_bind (wpAny_field hos hds (x := .none) rfl (wpAny_pure ?_)))))))
 refine wpAny_bind (slicePart_none ?_)
 show wpAny _ _ (if ((1 : Int) == 0) = true then _ else _) _ _ s
 rw [if_neg (by decide)]
 refine wpAny_bind (slicePart_ pl (wpAny_bind (slicePart_ pu (wpAny_bind (wpAny_pure ?_)))))
 show wpAny _ _ (match Builtin.Slice.sliceAdjust lo hi 1 (n : Int) with | (lo, hi) => pure (lo, (1 : Int), Builtin.Slice.slicePlaces lo hi 1)) _ _ s
 rw [adjust_gen lo hi n]
 show wpAny _ _ (pure (((sIx n 0 lo : Nat) : Int), (1 : Int), Builtin.Slice.slicePlaces ((sIx n 0 lo : Nat) : Int) ((sIx n n hi : Nat) : Int) 1)) _ _ s
 rw [places_gen]
 exact wpAny_pure h
theorem pick_gen (xs : Array Value) (i k : Nat) : ((List.range k).filterMap fun (m : Nat) => xs[((i : Int) + (m : Int) * 1).toNat]?).toArray = ((xs.toList.drop i).take k).toArray := by
 have e : (fun (m : Nat) => xs[((i : Int) + (m : Int) * 1).toNat]?) = fun m => xs[i + m]? := by
  funext m
  have : ((i : Int) + (m : Int) * 1).toNat = i + m := by omega
  rw [this]
 rw [e]
 have := pick_run xs i k
 rw [List.filterMap_map] at this
 have e2 : ((fun x => xs[x]?) ∘ fun x => i + x) = fun m => xs[i + m]? := rfl
 rw [e2] at this
 rw [this]
theorem getItem_tuple_cut {t sl : Addr} {items : Array Value} {vl vu : Value} {lo hi : Option Int} {Q : Value → Shared → Prop} (ht : IsTup s.heap t items) (hs : s.heap.IsSliceOf sl vl vu .none) (pl : IsPart vl lo) (pu : IsPart vu hi)
  (hw : ¬ (sIx items.size 0 lo = 0 ∧ sIx items.size items.size hi = items.size))
  (h : Q (.ref s.heap.objs.size) { s with heap := s.heap.push { cls := .type "tuple", data := .seq ((items.toList.drop (sIx items.size 0 lo)).take (sIx items.size items.size hi - sIx items.size 0 lo)).toArray } })
  (hsz : items.size ≤ sizeLine) : wpAny (model prog w) A (getItem (.ref t) (.ref sl)) Q E s := by
 have htake : sizeOk (.seq ((items.toList.drop (sIx items.size 0 lo)).take (sIx items.size items.size hi - sIx items.size 0 lo)).toArray) := by
  show ((items.toList.drop (sIx items.size 0 lo)).take (sIx items.size items.size hi - sIx items.size 0 lo)).toArray.size ≤ sizeLine
  rw [List.size_toArray, List.length_take, List.length_drop, Array.length_toList]
  omega
 have hj : sIx items.size items.size hi ≤ items.size := sIx_le _ _ (Nat.le_refl _) hi
 obtain ⟨os, hos, hcs, hds⟩ := id hs
 have hTs : s.TypeIs (.ref sl) "slice" := ⟨os, hos, hcs⟩
 unfold getItem
 try with_reducible refine wpAny_holding ?_
 first | refine wpAny_bind (wpAny_pure ?_) | skip
 refine wpAny_bind (wpAny_sequenceKey ht.typeIs (by decide) ?_)
 refine wpAny_bind (wpAny_callSpecial?_slot (name := Str.ofString "__getitem__") ht.typeIs PyProof.Rows.slot_tuple_getitem
  (wpAny_call_entry PyProof.Rows.slot_tuple_getitem ht.typeIs entry_tuple_getitem ?_ (args_tuple_getitem _ _)))
 show wpAny _ _ (Builtin.Tuple.tupleItemsOf (.ref t) >>= _) _ _ s
 refine wpAny_bind (tupleItemsOf_ ht ?_)
 refine wpAny_bind (wpAny_typeOf hTs ?_)
 rw [if_pos (by decide)]
 refine wpAny_bind (sliceApplied_gen hs pl pu ?_)
 have hno : ¬ ((((sIx items.size 0 lo : Nat) : Int) == 0 && (1 : Int) == 1 && (sIx items.size items.size hi - sIx items.size 0 lo) == items.size) = true) := by
  intro q
  rw [Bool.and_eq_true, Bool.and_eq_true] at q
  have q1 : ((sIx items.size 0 lo : Nat) : Int) = 0 := eq_of_beq q.1.1
  have q2 : sIx items.size items.size hi - sIx items.size 0 lo = items.size := eq_of_beq q.2
  exact hw ⟨by omega, by omega⟩
 show wpAny _ _ (if (((sIx items.size 0 lo : Nat) : Int) == 0 && (1 : Int) == 1 && (sIx items.size items.size hi - sIx items.size 0 lo) == items.size) = true then _ else _) _ _ s
 rw [if_neg hno, pick_gen]
 first
  | exact wpAny_bind (m := Builtin.Tuple.tupleExact _) (wpAny_newObj_type (wpAny_pure ⟨_, rfl, wpAny_pure h⟩) htake)
  | exact wpAny_bind (m := Builtin.Tuple.tupleExact _) (wpAny_newObj_type (wpAny_bind (wpAny_pure (wpAny_pure ⟨_, rfl, wpAny_pure h⟩))) htake)
  | exact wpAny_bind (wpAny_bind (m := Builtin.Tuple.tupleExact _) (wpAny_newObj_type (wpAny_pure (wpAny_pure ⟨_, rfl, wpAny_pure h⟩)) htake))
  | exact wpAny_bind (wpAny_bind (m := Builtin.Tuple.tupleExact _) (wpAny_newObj_type (wpAny_pure ⟨_, rfl, wpAny_pure h⟩) htake))
end
end HT
namespace L2
open PySem PySem.Spec PyProof.Rows
abbrev TO := St → Hp → (Option Int → Hp → Prop) → Prop
def PO (X : Cx) (e : Option Expr) (t : TO) : Prop :=
 ∀ (pins : List (Addr × Obj)) (s : Shared) (σ : St) (H : Hp) (Q : Option Int → Hp → Prop), Inv X pins σ H s → t σ H Q →
  wpAny (model X.prog X.w) X.A (evalPart e X.env) (fun u s' => ∃ o H', Inv X pins σ H' s' ∧ IsPart u o ∧ Q o H') X.xe s
def tNoPart : TO := fun _ H Q => Q none H
def tPart (t : TE) : TO := fun σ H Q => t σ H fun x H1 => ∃ i, x = .int i ∧ Q (some i) H1
section
variable {X : Cx} {e : Expr} {te : TE} {lo hi : Option Expr} {tl th : TO} {pos p2 : Pos}
theorem po_none : PO X none tNoPart := by
 intro pins s σ H Q I h
 rw [evalPart_none]
 exact wpAny_pure ⟨none, H, I, .none, h⟩
theorem po_some (h : PE X e te) : PO X (some e) (tPart te) := by
 intro pins s σ H Q I hw
 rw [evalPart_some]
 refine thn (h pins s σ H _ I hw) fun u s1 ⟨x, H1, I1, r1, q1⟩ => ?_
 obtain ⟨i, rfl, q⟩ := q1
 obtain ⟨t, rfl⟩ := r1
 exact ⟨some i, H1, I1, .int i t, q⟩
def SlR (X : Cx) (r : V → Option Int → Option Int → Hp → VK → Prop) : Prop :=
 ∀ (pins : List (Addr × Obj)) (s : Shared) (σ : St) (H : Hp) (x : V) (v vl vu : Value) (lo hi : Option Int) (sl : Addr) (Q : VK), Inv X pins σ H s → RelV x v → s.heap.IsSliceOf sl vl vu .none → IsPart vl lo → IsPart vu hi → r x lo hi H Q →
  ∃ T id, typeLookup (.type T) "__getitem__" = pure (some (.builtin id)) ∧ s.TypeIs v T ∧ wpAny (model X.prog X.w) X.A (getItem v (.ref sl)) (EP X pins σ Q) X.xe s
theorem SlR.or {r r' : V → Option Int → Option Int → Hp → VK → Prop} (h : SlR X r) (h' : SlR X r') : SlR X (fun x lo hi H Q => r x lo hi H Q ∨ r' x lo hi H Q) := by
 intro pins s σ H x v vl vu lo hi sl Q I rx hs pl pu q
 rcases q with q | q
 ·exact h pins s σ H x v vl vu lo hi sl Q I rx hs pl pu q
 ·exact h' pins s σ H x v vl vu lo hi sl Q I rx hs pl pu q
def tSl (r : V → Option Int → Option Int → Hp → VK → Prop) (te : TE) (tl th : TO) : TE := fun σ H Q => te σ H fun x H1 => tl σ H1 fun l H2 => th σ H2 fun u H3 => r x l u H3 Q
theorem pe_slice {r : V → Option Int → Option Int → Hp → VK → Prop} (hr : SlR X r) (he : PE X e te) (hl : PO X lo tl) (hu : PO X hi th) : PE X (.Subscript e (.Slice lo hi none p2) pos) (tSl r te tl th) := by
 intro pins s σ H Q I h
 refine Subscript_ (thn (he pins s σ H _ I h) fun v s1 ⟨x, H1, I1, r1, q1⟩ => ?_)
 refine wpAny_Slice (thn (hl pins s1 σ H1 _ I1 q1) fun vl s2 ⟨l, H2, I2, pl, q2⟩ => thn (hu pins s2 σ H2 _ I2 q2) fun vu s3 ⟨u, H3, I3, pu, q3⟩ => ?_)
 rw [evalPart_none]
 refine wpAny_pure ?_
 have I4 : Inv X pins σ H3 { s3 with heap := s3.heap.push { cls := .type "slice", data := .fields #[vl, vu, .none] } } := I3.kept (t' := s3.toks) fun b ob q => Heap.get?_push_of_some _ q
 obtain ⟨T, id, hT, ht, hg⟩ := hr pins { s3 with heap := s3.heap.push { cls := .type "slice", data := .fields #[vl, vu, .none] } } σ H3 x v vl vu l u s3.heap.objs.size Q I4 r1 (Heap.IsSliceOf.new ..) pl pu q3
 show wpAny (model X.prog X.w) X.A (subscriptTail e (.Slice lo hi none p2) v (.ref s3.heap.objs.size)) (EP X pins σ Q) X.xe { s3 with heap := s3.heap.push { cls := .type "slice", data := .fields #[vl, vu, .none] } }
 exact tail_any (ops := [.ref s3.heap.objs.size, v]) ht hT hg (by with_unfolding_all rfl)
def cutV (xs : List V) (lo hi : Option Int) : List V := (xs.drop (HT.sIx xs.length 0 lo)).take (HT.sIx xs.length xs.length hi - HT.sIx xs.length 0 lo)
theorem cutV_length (xs : List V) (lo hi : Option Int) : (cutV xs lo hi).length ≤ xs.length := by
 unfold cutV
 rw [List.length_take, List.length_drop]
 omega
def rSlT (K : PySem.W.Frag) : V → Option Int → Option Int → Hp → VK → Prop := fun x lo hi H Q => ∃ a xs, x = .ref a ∧ SqT K H a xs ∧
 ¬ (HT.sIx xs.length 0 lo = 0 ∧ HT.sIx xs.length xs.length hi = xs.length) ∧ ∀ p, H p = none → Q (.ref p) (upd H p (.tup (cutV xs lo hi)))
theorem sl_tup : SlR X (rSlT X.K) := by
 intro pins s σ H x v vl vu lo hi sl Q I rx hs pl pu h
 obtain ⟨a, xs, rfl, hx, hw, q⟩ := h
 cases rx
 obtain ⟨its, r, ht, hz⟩ := I.tuple hx
 have hlen : its.toArray.size = xs.length := by rw [List.size_toArray]; exact r.length.symm
 refine ⟨"tuple", _, PyProof.Rows.slot_tuple_getitem.lookup, ht.typeIs, ?_⟩
 refine HT.getItem_tuple_cut ht hs pl pu (by rw [hlen]; exact hw) ?_ (by rw [hlen]; exact hz)
 rw [hlen]
 refine ⟨.ref s.heap.objs.size, _, I.laid (t' := s.toks) (o := .tup (cutV xs lo hi)) (fun b ob q => Heap.get?_push_of_some _ q) (Nat.le_refl _) ?_, rfl, q _ (I.hok.fresh (Nat.le_refl _))⟩
 exact ⟨Nat.le_trans (cutV_length xs lo hi) hz, _, (r.drop (HT.sIx xs.length 0 lo)).take (HT.sIx xs.length xs.length hi - HT.sIx xs.length 0 lo), IsTup.new _ _⟩
end
end L2
namespace L2
open PySem PySem.Spec PyProof.Rows
def ixN (n : Nat) (i : Int) : Option Nat := if 0 ≤ i then (if i < n then some i.toNat else none) else if -(n : Int) ≤ i then some (i + n).toNat else none
def atI {α : Type} (xs : List α) (i : Int) : Option α := (ixN xs.length i).bind fun j => xs[j]?
theorem ixN_seq {n : Nat} {i : Int} {j : Nat} (h : ixN n i = some j) : seqIndex? i n = some j ∧ j < n ∧ -(n : Int) ≤ i ∧ i < n := by
 unfold ixN at h
 by_cases h0 : 0 ≤ i
 ·rw [if_pos h0] at h
  by_cases h1 : i < n
  ·rw [if_pos h1] at h
   have e : i.toNat = j := Option.some.inj h
   exact ⟨by rw [seqIndex_of h0 h1, e], by omega, by omega, h1⟩
  ·rw [if_neg h1] at h; cases h
 ·rw [if_neg h0] at h
  by_cases h1 : -(n : Int) ≤ i
  ·rw [if_pos h1] at h
   have e : (i + n).toNat = j := Option.some.inj h
   exact ⟨by rw [seqIndex_neg (by omega) h1, e], by omega, h1, by omega⟩
  ·rw [if_neg h1] at h; cases h
theorem atI_get {α : Type} {xs : List α} {i : Int} {v : α} (h : atI xs i = some v) : ∃ j, seqIndex? i xs.length = some j ∧ xs[j]? = some v ∧ j < xs.length ∧ -(xs.length : Int) ≤ i ∧ i < xs.length := by
 unfold atI at h
 cases e : ixN xs.length i with
 | none => rw [e] at h; cases h
 | some j =>
  rw [e] at h
  obtain ⟨h1, h2, h3, h4⟩ := ixN_seq e
  exact ⟨j, h1, h, h2, h3, h4⟩
def PlainIx (b : Expr) : Prop := ∀ o i, subscripted b false o i = operate [o, i] (getItem o i)
def IxR (X : Cx) (r : R2) : Prop :=
 ∀ (value slice : Expr) (pins : List (Addr × Obj)) (s : Shared) (σ : St) (H : Hp) (x y : V) (v u : Value) (Q : VK), Inv X pins σ H s → RelV x v → RelV y u → r x y H Q →
  subscripted slice false v u = operate [v, u] (getItem v u) → wpAny (model X.prog X.w) X.A (subscriptTail value slice v u) (EP X pins σ Q) X.xe s
def MtR (X : Cx) (id : String) (r : V → List V → Hp → VK → Prop) : Prop :=
 ∀ (pins : List (Addr × Obj)) (s : Shared) (σ : St) (H : Hp) (x : V) (xs : List V) (v : Value) (us : List Value) (Q : VK), Inv X pins σ H s → RelV x v → Vals xs us → r x xs H Q →
  wpAny (model X.prog X.w) X.A (call (.builtin id) (v :: us)) (EP X pins σ Q) X.xe s
section
variable {X : Cx} {a b : Expr} {ta tb : TE} {pos : Pos}
theorem IxR.or {r r' : R2} (h : IxR X r) (h' : IxR X r') : IxR X (fun x y H Q => r x y H Q ∨ r' x y H Q) := by
 intro value slice pins s σ H x y v u Q I rx ry q hs
 rcases q with q | q
 ·exact h value slice pins s σ H x y v u Q I rx ry q hs
 ·exact h' value slice pins s σ H x y v u Q I rx ry q hs
theorem pe_ix {r : R2} (hr : IxR X r) (ha : PE X a ta) (hb : PE X b tb) (hs : PlainIx b) : PE X (.Subscript a b pos) (tOp r ta tb) := by
 intro pins s σ H Q I h
 exact Subscript_ (binT ha hb I h fun v u s2 x y H2 I2 rx ry q => hr a b pins s2 σ H2 x y v u Q I2 rx ry q (hs _ _))
def rIxL (K : PySem.W.Frag) : R2 := fun x y H Q => ∃ p xs i v, x = .ref p ∧ y = .int i ∧ SqL K H p xs ∧ atI xs i = some v ∧ Q v H
def rIxT (K : PySem.W.Frag) : R2 := fun x y H Q => ∃ p xs i v, x = .ref p ∧ y = .int i ∧ SqT K H p xs ∧ atI xs i = some v ∧ Q v H
theorem ix_list : IxR X (rIxL X.K) := by
 intro value slice pins s σ H x y v u Q I rx ry h hs
 obtain ⟨p, xs, i, z, rfl, rfl, hq, he, q⟩ := h
 cases rx
 obtain ⟨t, rfl⟩ := ry
 obtain ⟨its, r, pl, hz⟩ := I.list hq
 obtain ⟨j, h1, h2, h3, h4, h5⟩ := atI_get he
 obtain ⟨w, ew, rw'⟩ := r.get h2
 have hl := r.length
 have hn := line63
 have fin : EP X pins σ Q w s := ⟨z, H, I, rw', q⟩
 by_cases h0 : 0 ≤ i
 ·have hj : i.toNat = j := by
   rw [seqIndex_of h0 h5] at h1
   exact Option.some.inj h1
  exact item_listR pl.isList h0 (by omega) (by rw [hj]; simpa using ew) fin hs
 ·have hj : (i + (its.toArray.size : Int)).toNat = j := by
   rw [seqIndex_neg (by omega) h4] at h1
   rw [List.size_toArray, ← hl]
   exact Option.some.inj h1
  exact subscriptTail_builtinR (x := w) pl.isList.typeIs slot_list_getitem.lookup
   (wpAny_getItem_list_neg (Q := fun r s' => r = w ∧ EP X pins σ Q r s') pl.isList (by omega) (by rw [List.size_toArray] <;> omega) (by omega) (by rw [hj]; simpa using ew) ⟨rfl, fin⟩) hs
theorem ix_tup : IxR X (rIxT X.K) := by
 intro value slice pins s σ H x y v u Q I rx ry h hs
 obtain ⟨p, xs, i, z, rfl, rfl, hq, he, q⟩ := h
 cases rx
 obtain ⟨t, rfl⟩ := ry
 obtain ⟨its, r, pl, hz⟩ := I.tuple hq
 obtain ⟨j, h1, h2, h3, h4, h5⟩ := atI_get he
 obtain ⟨w, ew, rw'⟩ := r.get h2
 have hl := r.length
 have hn := line63
 have fin : EP X pins σ Q w s := ⟨z, H, I, rw', q⟩
 exact subscriptTail_builtinR (x := w) pl.typeIs slot_tuple_getitem.lookup
  (getItem_tuple (j := j) (Q := fun r s' => r = w ∧ EP X pins σ Q r s') pl (by omega) (by omega) (by rw [List.size_toArray, ← hl]; exact h1) (by simpa using ew) ⟨rfl, fin⟩) hs
theorem mapSeq_set (its : List Value) (n j : Nat) (u : Value) : Obj.mapSeq (·.setIfInBounds j u) { cls := .type "list", data := .seq its.toArray n } = { cls := .type "list", data := .seq (its.set j u).toArray n } := by
 simp [Obj.mapSeq]
theorem Inv.lst {pins : List (Addr × Obj)} {σ : St} {H : Hp} {s : Shared} {p : Addr} {xs : List V} (I : Inv X pins σ H s) (h : H p = some (.lst xs)) :
  ∃ (its : List Value) (n : Nat), Vals xs its ∧ s.heap.get? p = some { cls := .type "list", data := .seq its.toArray n } ∧ xs.length ≤ sizeLine := by
 obtain ⟨z, its, n, r, e⟩ := I.hok p _ h
 exact ⟨its, n, r, e, z⟩
theorem Inv.lstUpd {pins : List (Addr × Obj)} {σ : St} {H : Hp} {s : Shared} {p : Addr} {xs ys : List V} {its its' : List Value} {n n' : Nat} {f : Obj → Obj} (I : Inv X pins σ H s) (h : H p = some (.lst xs))
  (ho : s.heap.get? p = some { cls := .type "list", data := .seq its.toArray n }) (hf : f { cls := .type "list", data := .seq its.toArray n } = { cls := .type "list", data := .seq its'.toArray n' }) (r : Vals ys its') (hz : ys.length ≤ sizeLine) (t : Nat) :
  Inv X pins σ (upd H p (.lst ys)) { s with heap := s.heap.update p f, toks := t } := by
 have e : (s.heap.update p f).get? p = some { cls := .type "list", data := .seq its'.toArray n' } := by
  rw [Heap.get?_update_self f ho (by rw [hf] <;> rfl), hf]
 refine I.write (x := p) (e := p) (by rw [h]; trivial) (.inl rfl) (fun b u hb q => (Heap.get?_update_other _ _ (Ne.symm hb)).trans q) ⟨_, e⟩ ?_
 exact ⟨hz, its', n', r, e⟩
def rSetL : V → V → V → Hp → (Hp → Prop) → Prop := fun o i v H Q => ∃ p xs k j, o = .ref p ∧ i = .int k ∧ H p = some (.lst xs) ∧ ixN xs.length k = some j ∧ Q (upd H p (.lst (xs.set j v)))
theorem set_list : PSet X rSetL := by
 intro pins s σ H o i v ov iv u Q I ro ri rv h
 obtain ⟨p, xs, k, j, rfl, rfl, hp, hj, q⟩ := h
 cases ro
 obtain ⟨t, rfl⟩ := ri
 obtain ⟨its, n, r, ho, hz⟩ := I.lst hp
 obtain ⟨h1, h2, h3, h4⟩ := ixN_seq hj
 have hl := r.length
 have hn := line63
 have I' : Inv X pins σ (upd H p (.lst (xs.set j v))) { s with heap := s.heap.update p (Obj.mapSeq (·.setIfInBounds j u)) } :=
  I.lstUpd hp ho (mapSeq_set its n j u) (r.set rv j) (by rw [List.length_set]; exact hz) s.toks
 by_cases h0 : 0 ≤ k
 ·have hk : k.toNat = j := by
   rw [seqIndex_of h0 h4] at h1
   exact Option.some.inj h1
  exact PySem.W.ki_setAt ho h0 (by omega) (by rw [List.size_toArray, ← hl]; exact h4) (by rw [hk]; exact ⟨_, I', q⟩)
 ·have hk : (k + (its.toArray.size : Int)).toNat = j := by
   rw [seqIndex_neg (by omega) h3] at h1
   rw [List.size_toArray, ← hl]
   exact Option.some.inj h1
  exact PySem.W.ki_setBack ho (by omega) (by rw [List.size_toArray, ← hl]; exact h3) (by omega) (by rw [hk]; exact ⟨_, I', q⟩)
theorem slice_bounds (lo hi : Option Int) (n : Nat) : (sliceBounds lo hi none n).1 = ((HT.sIx n 0 lo : Nat) : Int) ∧ (sliceBounds lo hi none n).2.1 = ((HT.sIx n n hi : Nat) : Int) ∧ (sliceBounds lo hi none n).2.2 = 1 := by
 refine ⟨?_, ?_, rfl⟩
 ·cases lo with
  | none => simp [sliceBounds, HT.sIx]
  | some i =>
   simp only [sliceBounds, HT.sIx, Option.getD_none, show (1 : Int) > 0 by decide, if_true]
   by_cases h : i < 0
   ·simp only [h, if_true] <;> omega
   ·simp only [h, if_false] <;> omega
 ·cases hi with
  | none => simp [sliceBounds, HT.sIx]
  | some i =>
   simp only [sliceBounds, HT.sIx, Option.getD_none, show (1 : Int) > 0 by decide, if_true]
   by_cases h : i < 0
   ·simp only [h, if_true] <;> omega
   ·simp only [h, if_false] <;> omega
theorem slicePick_cut (its : List Value) (lo hi : Option Int) : slicePick its.toArray lo hi none = ((its.drop (HT.sIx its.length 0 lo)).take (HT.sIx its.length its.length hi - HT.sIx its.length 0 lo)).toArray := by
 obtain ⟨h1, h2, h3⟩ := slice_bounds lo hi its.toArray.size
 unfold slicePick
 rw [h1, h2, h3]
 simp only [sliceRange_one, pick_run, List.size_toArray] <;> rfl
def rSlL (K : PySem.W.Frag) : V → Option Int → Option Int → Hp → VK → Prop := fun x lo hi H Q => ∃ a xs, x = .ref a ∧ SqL K H a xs ∧ ∀ p, H p = none → Q (.ref p) (upd H p (.lst (cutV xs lo hi)))
theorem sl_list : SlR X (rSlL X.K) := by
 intro pins s σ H x v vl vu lo hi sl Q I rx hs pl pu h
 obtain ⟨a, xs, rfl, hx, q⟩ := h
 cases rx
 obtain ⟨its, r, ht, hz⟩ := I.list hx
 have hlen := r.length
 refine ⟨"list", _, slot_list_getitem.lookup, ht.isList.typeIs, ?_⟩
 refine wpAny_getItem_list_slice ht.isList hs pl pu .none (by simp) ?_ (by rw [List.size_toArray] <;> omega)
 rw [slicePick_cut, ← hlen]
 refine ⟨.ref s.heap.objs.size, _, I.laid (t' := s.toks) (o := .lst (cutV xs lo hi)) (fun b ob q => Heap.get?_push_of_some _ q) (Nat.le_refl _) ?_, rfl, q _ (I.hok.fresh (Nat.le_refl _))⟩
 exact ⟨Nat.le_trans (cutV_length xs lo hi) hz, _, 0, (r.drop (HT.sIx xs.length 0 lo)).take (HT.sIx xs.length xs.length hi - HT.sIx xs.length 0 lo), Heap.get?_push_size _ rfl⟩
theorem call_len_seq : CallR X (.builtin "len") (fun xs H Q => ∃ p ys, xs = [.ref p] ∧ (SqL X.K H p ys ∨ SqT X.K H p ys) ∧ Q (.int ys.length) H) := by
 intro pins s σ H xs us Q I r h
 obtain ⟨p, ys, rfl, hq, q⟩ := h
 obtain ⟨u, rfl, rx⟩ := vals1 r
 cases rx
 have hn := line63
 rcases hq with hq | hq
 ·obtain ⟨its, r', pl, hz⟩ := I.list hq
  have hlen := r'.length
  exact Calls.call_len_list pl.isList (by simp only [List.size_toArray] <;> omega) ⟨.int ys.length, H, I.tok _, ⟨s.toks + 1, by rw [List.size_toArray, hlen]⟩, q⟩
 ·obtain ⟨its, r', pl, hz⟩ := I.tuple hq
  have hlen := r'.length
  exact len_tuple pl (by simp only [List.size_toArray] <;> omega) ⟨.int ys.length, H, I.tok _, ⟨s.toks + 1, by rw [List.size_toArray, hlen]⟩, q⟩
theorem call_len_str : CallR X (.builtin "len") (fun xs H Q => ∃ z, xs = [.str z] ∧ z.length ≤ sizeLine ∧ Q (.int z.length) H) := by
 intro pins s σ H xs us Q I r h
 obtain ⟨z, rfl, hz, q⟩ := h
 obtain ⟨u, rfl, t, rfl⟩ := vals1 r
 have hn := line63
 exact len_str (by omega) ⟨.int z.length, H, I.tok _, ⟨_, rfl⟩, q⟩
theorem CallR.or {f : Value} {r r' : List V → Hp → VK → Prop} (h : CallR X f r) (h' : CallR X f r') : CallR X f (fun xs H Q => r xs H Q ∨ r' xs H Q) := by
 intro pins s σ H xs us Q I rs q
 rcases q with q | q
 ·exact h pins s σ H xs us Q I rs q
 ·exact h' pins s σ H xs us Q I rs q
theorem call_list_of : CallR X (.type "list") (fun xs H Q => ∃ p ys, xs = [.ref p] ∧ (SqL X.K H p ys ∨ SqT X.K H p ys) ∧ ∀ l, H l = none → Q (.ref l) (upd H l (.lst ys))) := by
 intro pins s σ H xs us Q I r h
 obtain ⟨p, ys, rfl, hq, q⟩ := h
 obtain ⟨u, rfl, rx⟩ := vals1 r
 cases rx
 have fin : ∀ (its : List Value), Vals ys its → ys.length ≤ sizeLine → ∀ (h' : Heap) (c' : Nat), (∀ b o', s.heap.get? b = some o' → h'.get? b = some o') →
   h'.get? s.heap.objs.size = some { cls := .type "list", dict := none, data := .seq its.toArray c', slots := #[] } → EP X pins σ Q (.ref s.heap.objs.size) { s with heap := h' } := fun its r' hz h' c' kp e =>
  ⟨.ref s.heap.objs.size, _, I.laid (t' := s.toks) kp (Nat.le_refl _) (show ObjOk X.prog X.w _ h' _ (.lst ys) from ⟨hz, its, c', r', e⟩), rfl, q _ (I.hok.fresh (Nat.le_refl _))⟩
 rcases hq with hq | hq
 ·obtain ⟨its, r', pl, hz⟩ := I.list hq
  have hlen := r'.length
  obtain ⟨o, ho, hc, n, hd⟩ := pl.isList
  exact call_list_seq p (.inl rfl) ho hc hd (fun h' c' kp e => fin its r' hz h' c' kp e) (by simp only [List.size_toArray] <;> omega)
 ·obtain ⟨its, r', pl, hz⟩ := I.tuple hq
  have hlen := r'.length
  obtain ⟨o, ho, hc, n, hd⟩ := pl
  exact call_list_seq p (.inr rfl) ho hc hd (fun h' c' kp e => fin its r' hz h' c' kp e) (by simp only [List.size_toArray] <;> omega)
theorem call_tuple_of : CallR X (.type "tuple") (fun xs H Q => ∃ p ys, xs = [.ref p] ∧ ((SqL X.K H p ys ∧ ∀ l, H l = none → Q (.ref l) (upd H l (.tup ys))) ∨ (SqT X.K H p ys ∧ Q (.ref p) H))) := by
 intro pins s σ H xs us Q I r h
 obtain ⟨p, ys, rfl, h⟩ := h
 obtain ⟨u, rfl, rx⟩ := vals1 r
 cases rx
 rcases h with ⟨hq, q⟩ | ⟨hq, q⟩
 ·obtain ⟨its, r', pl, hz⟩ := I.list hq
  have hlen := r'.length
  refine call_tuple_list pl.isList (fun h' kp => ?_) (by simp only [List.size_toArray] <;> omega)
  have I1 : Inv X pins σ H { s with heap := h' } := I.kept (t' := s.toks) kp
  have I2 : Inv X pins σ (upd H h'.objs.size (.tup ys)) { s with heap := h'.push { cls := .type "tuple", data := .seq its.toArray } } :=
   I1.laid (t' := s.toks) (fun b o e => Heap.get?_push_of_some _ e) (Nat.le_refl _) (show ObjOk X.prog X.w _ _ _ (.tup ys) from ⟨hz, its, r', IsTup.new _ _⟩)
  exact ⟨.ref h'.objs.size, _, I2, rfl, q _ (I1.hok.fresh (Nat.le_refl _))⟩
 ·obtain ⟨its, r', pl, hz⟩ := I.tuple hq
  exact call_tuple_same pl ⟨.ref p, H, I, rfl, q⟩
def tyV (K : PySem.W.Frag) (T : String) (x : V) (H : Hp) : Prop := match x with
 | .str _ => T = "str"
 | .int _ => T = "int"
 | .ref p => (T = "list" ∧ ∃ xs, SqL K H p xs) ∨ (T = "tuple" ∧ ∃ o, K.lookup p = some o ∧ o.cls = .type "tuple" ∧ o.dict = none) ∨
   (T = "dict" ∧ ((∃ kvs, H p = some (.dK kvs)) ∨ ∃ kvs, H p = some (.dT kvs))) ∨ (T = "set" ∧ ∃ S n, H p = some (.set S n))
 | _ => False
theorem tyV_is {pins : List (Addr × Obj)} {σ : St} {H : Hp} {s : Shared} {T : String} {x : V} {v : Value} (I : Inv X pins σ H s) (r : RelV x v) (ty : tyV X.K T x H) :
  s.TypeIs v T ∧ ∀ a, v = .ref a → ∃ ob, s.heap.get? a = some ob ∧ ob.dict = none := by
 cases x with
 | str z =>
  obtain ⟨t, rfl⟩ := r
  cases (show T = "str" from ty)
  exact ⟨typeIs_str s z t, fun _ e => nomatch e⟩
 | int i =>
  obtain ⟨t, rfl⟩ := r
  cases (show T = "int" from ty)
  exact ⟨typeIs_int s i t, fun _ e => nomatch e⟩
 | ref p =>
  cases r
  rcases ty with ⟨rfl, xs, hq⟩ | ⟨rfl, o, hk, hc, hd⟩ | ⟨rfl, hk⟩ | ⟨rfl, S, n, hk⟩
  ·obtain ⟨its, _, pl, _⟩ := I.list hq
   refine ⟨pl.isList.typeIs, fun a e => ?_⟩
   cases e
   obtain ⟨o, n, e, c, hd, _⟩ := pl
   exact ⟨o, e, hd⟩
  ·refine ⟨⟨o, I.kIn p o hk, hc⟩, fun a e => ?_⟩
   cases e
   exact ⟨o, I.kIn _ o hk, hd⟩
  ·have z : ∃ o, s.heap.get? p = some o ∧ o.ExactDict := by
    rcases hk with ⟨kvs, hk⟩ | ⟨kvs, hk⟩
    ·obtain ⟨_, _, _, _, o, _, _, e, ex, _⟩ := I.hok p _ hk
     exact ⟨o, e, ex⟩
    ·obtain ⟨_, _, _, _, o, _, _, e, ex, _⟩ := I.hok p _ hk
     exact ⟨o, e, ex⟩
   obtain ⟨o, e, ex⟩ := z
   refine ⟨⟨o, e, ex.1⟩, fun a e2 => ?_⟩
   cases e2
   exact ⟨o, e, ex.2.1⟩
  ·obtain ⟨o, _, _, _, e, ex, _⟩ := I.hok p _ hk
   refine ⟨⟨o, e, ex.1⟩, fun a e2 => ?_⟩
   cases e2
   exact ⟨o, e, ex.2.1⟩
 | _ => exact False.elim ty
def tBM (K : PySem.W.Frag) (T : String) (r : V → List V → Hp → VK → Prop) (to : TE) (t : TA) : TE := fun σ H Q => to σ H fun x H1 => tyV K T x H1 ∧ t σ H1 fun xs H2 => r x xs H2 Q
variable {o e : Expr} {es : List Expr} {to : TE} {t : TA} {name : Str} {apos cpos : Pos} {T id : String} {r : V → List V → Hp → VK → Prop}
theorem pe_bm (pa : PlainAttrs T) (slot : Slot T name id) (hty : typeOf (.builtin id) = pure (.type "method_descriptor")) (hm : MtR X id r) (ho : PE X o to) (ha : PA X (e :: es) t)
  (hbase : attributeBase o name X.env (eval o X.env) = eval o X.env := by rfl)
  (hfew : ((backTo cpos (starEach (e :: es) X.env)).all (fun x => !x.1) && (backToKw cpos (keywordEach [] X.env)).all (fun x => x.1.isSome)
   && decide ((e :: es).length + ([] : List Keyword).length + (if ([] : List Keyword).isEmpty then 0 else 1) < 30)) = true := by rfl)
  (hline : (apos.endLine == cpos.line) = true := by rfl) (hs : starEach (e :: es) X.env = (false, eval e X.env) :: starEach es X.env := by rfl) (hplain : (backTo cpos (starEach es X.env)).any (·.1) = false := by rfl) :
  PE X (.Call (.Attribute o name apos) (e :: es) [] cpos) (tBM X.K T r to t) := by
 intro pins s σ H Q I h
 refine wpAny_Call_method_late hbase hfew hline rfl (thn (ho pins s σ H _ I h) fun v s1 ⟨x, H1, I1, r1, ty, q1⟩ => ?_)
 obtain ⟨h1, h2⟩ := tyV_is I1 r1 ty
 refine ⟨T, id, pa, slot, hty, h1, h2, ?_⟩
 have hA := ha cpos pins s1 σ H1 _ I1 q1
 rw [hs] at hA ⊢
 refine Calls.callWith_builtin (by show (false || (backTo cpos (starEach es X.env)).any (·.1)) = false; rw [hplain] <;> rfl) (Calls.evalArgs_plain ?_)
 exact thn hA fun us s2 ⟨vs, H2, I2, r2, q2⟩ => hm pins s2 σ H2 x vs v us Q I2 r1 r2 q2
end
end L2
namespace L2
open PySem PySem.Spec PyProof.Rows
def MtM (X : Cx) (id : String) (r : V → List V → Hp → VK → Prop) : Prop :=
 ∀ (pins : List (Addr × Obj)) (s : Shared) (σ : St) (H : Hp) (x : V) (xs : List V) (v : Value) (us : List Value) (Q : VK), Inv X pins σ H s → RelV x v → Vals xs us → r x xs H Q →
  wpAny (model X.prog X.w) X.A (call (.builtin id) (v :: us)) (EP X pins σ Q) X.xe s
theorem Vals.one : ∀ {x : V} {us : List Value}, Vals [x] us → ∃ u, us = [u] ∧ RelV x u
 | _, _, .cons r .nil => ⟨_, rfl, r⟩
theorem Vals.two : ∀ {x y : V} {us : List Value}, Vals [x, y] us → ∃ u v, us = [u, v] ∧ RelV x u ∧ RelV y v
 | _, _, _, .cons r (.cons q .nil) => ⟨_, _, rfl, r, q⟩
theorem Vals.rep {xs : List V} {us : List Value} (h : Vals xs us) : ∀ k : Nat, Vals (List.replicate k xs).flatten (List.replicate k us).flatten
 | 0 => .nil
 | k + 1 => by
  rw [List.replicate_succ, List.replicate_succ, List.flatten_cons, List.flatten_cons]
  exact Vals.append h (Vals.rep h k)
theorem foldl_rep (its : List Value) : ∀ (k : Nat) (acc : List Value),
  List.foldl (fun x1 x2 => x1 ++ x2) acc.toArray (List.replicate k its.toArray) = (acc ++ (List.replicate k its).flatten).toArray
 | 0, acc => by simp
 | k + 1, acc => by
  have e : acc.toArray ++ its.toArray = (acc ++ its).toArray := by simp
  have e2 : (acc ++ its) ++ (List.replicate k its).flatten = acc ++ (List.replicate (k + 1) its).flatten := by
   rw [List.replicate_succ, List.flatten_cons, List.append_assoc]
  rw [← e2, ← foldl_rep its k (acc ++ its), ← e, List.replicate_succ, List.foldl_cons]
section
variable {X : Cx} {pins : List (Addr × Obj)} {σ : St} {H : Hp} {s : Shared} {l b : Addr} {xs ys zs : List V}
theorem Inv.lset {its its' : List Value} {n : Nat} {f : Array Value → Array Value} {t' : Nat} (I : Inv X pins σ H s) (hH : H l = some (.lst xs))
  (e : s.heap.get? l = some { cls := .type "list", data := .seq its.toArray n }) (hf : f its.toArray = its'.toArray) (hv : Vals ys its') (hz : ys.length ≤ sizeLine) :
  Inv X pins σ (upd H l (.lst ys)) { s with heap := s.heap.update l (Obj.mapSeq f), toks := t' } := by
 have q := PySem.IsL.update e f
 rw [hf] at q
 refine I.write (x := l) (e := l) (by rw [hH]; exact trivial) (.inl rfl) (fun b' u hb hu => (Heap.get?_update_other s.heap (Obj.mapSeq f) (Ne.symm hb)).trans hu) ⟨_, q⟩ ?_
 exact ⟨hz, its', _, hv, q⟩
theorem Inv.lnew {its : List Value} {t' : Nat} (I : Inv X pins σ H s) (hv : Vals ys its) (hz : ys.length ≤ sizeLine) :
  Inv X pins σ (upd H s.heap.objs.size (.lst ys)) { s with heap := s.heap.push { cls := .type "list", data := .seq its.toArray }, toks := t' } :=
 I.laid (fun _ _ q => Heap.get?_push_of_some _ q) (Nat.le_refl _) ⟨hz, its, 0, hv, Heap.get?_push_size _ rfl⟩
theorem Inv.fresh (I : Inv X pins σ H s) : H s.heap.objs.size = none := I.hok.fresh (Nat.le_refl _)
theorem Inv.lstM (I : Inv X pins σ H s) (hH : H l = some (.lst xs)) : xs.length ≤ sizeLine ∧ ∃ (its : List Value) (n : Nat), Vals xs its ∧ xs.length = its.length ∧ s.heap.get? l = some { cls := .type "list", data := .seq its.toArray n } := by
 obtain ⟨z, its, n, r, e⟩ := I.hok l _ hH
 exact ⟨z, its, n, r, r.length, e⟩
theorem Inv.lstR (I : Inv X pins σ H s) (hH : Rd H l (.lst xs)) : xs.length ≤ sizeLine ∧ ∃ (its : List Value) (n : Nat), Vals xs its ∧ xs.length = its.length ∧ s.heap.get? l = some { cls := .type "list", data := .seq its.toArray n } := by
 obtain ⟨z, its, n, r, e⟩ := hH.ok I.hok
 exact ⟨z, its, n, r, r.length, e⟩
theorem notLongL {n : Nat} (h : n ≤ sizeLine) : Builtin.List.listTooLong n = false := by
 unfold Builtin.List.listTooLong
 exact decide_eq_false (by omega)
end
section
variable {X : Cx}
def rAppend : V → List V → Hp → VK → Prop := fun x vs H Q => ∃ l xs y, x = .ref l ∧ vs = [y] ∧ H l = some (.lst xs) ∧ xs.length < sizeLine ∧ Q .non (upd H l (.lst (xs ++ [y])))
theorem mt_append : MtM X "list.append" rAppend := by
 intro pins s σ H x vs v us Q I rx rv h
 obtain ⟨l, xs, y, rfl, rfl, hH, hz, q⟩ := h
 cases rx
 obtain ⟨u, rfl, ru⟩ := rv.one
 obtain ⟨z, its, n, r, hl, e⟩ := I.lstM hH
 refine call_meets F.slot_list_append ⟨_, e, rfl⟩ F.entry_list_append (F.args_list_append_2 _ _) (PySem.list_append l its.toArray n u (by rw [List.size_toArray]; omega)) ⟨e, ?_⟩
 refine ⟨.non, _, I.lset (its' := its ++ [u]) hH e (by simp) (r.append (.cons ru .nil)) ?_, rfl, q⟩
 rw [List.length_append, List.length_singleton]
 omega
def rCat : R2 := fun x y H Q => ∃ l b xs zs, x = .ref l ∧ y = .ref b ∧ Rd H l (.lst xs) ∧ Rd H b (.lst zs) ∧ xs.length + zs.length ≤ sizeLine ∧ ∀ p, H p = none → Q (.ref p) (upd H p (.lst (xs ++ zs)))
theorem op_cat : OpR X (binaryOp .Add) rCat := by
 intro pins s σ H x y v u Q I rx ry h
 obtain ⟨l, b, xs, zs, rfl, rfl, hH, hB, hz, q⟩ := h
 cases rx
 cases ry
 obtain ⟨z, its, n, r, hl, e⟩ := I.lstR hH
 obtain ⟨z2, its2, n2, r2, hl2, e2⟩ := I.lstR hB
 refine PySem.P.add_list e e2 ?_ (by rw [List.size_toArray, List.size_toArray]; omega)
 have ea : its.toArray ++ its2.toArray = (its ++ its2).toArray := by simp
 rw [ea]
 exact ⟨.ref _, _, I.lnew (t' := s.toks) (r.append r2) (by rw [List.length_append]; omega), rfl, q _ I.fresh⟩
def rRep : R2 := fun x y H Q => ∃ l k xs, x = .ref l ∧ y = .int k ∧ Rd H l (.lst xs) ∧ -(2 ^ 63) ≤ k ∧ k < 2 ^ 63 ∧ xs.length * k.toNat ≤ sizeLine ∧
 ∀ p, H p = none → Q (.ref p) (upd H p (.lst (List.replicate k.toNat xs).flatten))
theorem len_rep {α : Type} (xs : List α) (k : Nat) : (List.replicate k xs).flatten.length = k * xs.length := by
 induction k with
 | zero => simp
 | succ k ih => rw [List.replicate_succ, List.flatten_cons, List.length_append, ih, Nat.succ_mul, Nat.add_comm]
theorem op_rep : OpR X (binaryOp .Mult) rRep := by
 intro pins s σ H x y v u Q I rx ry h
 obtain ⟨l, k, xs, rfl, rfl, hH, h1, h2, hz, q⟩ := h
 cases rx
 obtain ⟨t, rfl⟩ := ry
 obtain ⟨z, its, n, r, hl, e⟩ := I.lstR hH
 have hlen : its.toArray.size * k.toNat ≤ sizeLine := by rw [List.size_toArray, ← hl]; exact hz
 have hcap : ¬ its.toArray.size * k.toNat > (2 ^ 63 - 1) / 8 := by
  have : (sizeLine : Nat) ≤ (2 ^ 63 - 1) / 8 := by decide
  omega
 have hfit : ¬ (!Builtin.List.listFitsIndex k) = true := by
  rw [fitsIndex_both h1 h2]
  exact Bool.false_ne_true
 have hlong : ¬ Builtin.List.listTooLong (its.toArray.size * k.toNat) = true := by
  rw [notLongL hlen]
  exact Bool.false_ne_true
 have hnew : List.foldl (fun x1 x2 => x1 ++ x2) #[] (List.replicate (if its.toArray.isEmpty = true then 0 else k.toNat) its.toArray) = (List.replicate k.toNat its).flatten.toArray := by
  have f0 : ∀ m : Nat, List.foldl (fun x1 x2 => x1 ++ x2) #[] (List.replicate m its.toArray) = (List.replicate m its).flatten.toArray := fun m => by
   have := foldl_rep its m []
   rw [List.nil_append] at this
   exact this
  rw [f0]
  cases its with
  | nil => simp
  | cons a r' => rw [if_neg (by simp)]
 refine wpAny_binaryOp_repeat_ref (T := "list") (U := "int") (by decide) ⟨_, e, rfl⟩ (fun s' => typeIs_int s' k t) noFill_list_mul F.fills_int_mul F.slot_int_rmul repeat_list F.slot_int_index.lookup
  (call_meets F.slot_int_rmul (typeIs_int s k t) F.entry_int_rmul (F.args_int_rmul_2 _ _) (int___rmul___int_list k t l its.toArray n)
   ⟨e, rfl, ⟨_, e, rfl⟩, call_meets F.slot_list_mul ⟨_, e, rfl⟩ F.entry_list_mul (F.args_list_mul_2 _ _) (AutoListH.list___mul___list_int_3 l its.toArray n k t hfit hcap hlong) ⟨e, ?_⟩⟩)
 rw [hnew]
 exact ⟨.ref _, _, I.lnew (t' := s.toks) (r.rep k.toNat) (by rw [len_rep, Nat.mul_comm]; exact hz), rfl, q _ I.fresh⟩
end
section
variable {prog : Program} {w : World} {A : Around} {E : Value → Shared → Prop} {s : Shared}
set_option maxRecDepth 100000 in
end
section
variable {X : Cx}
end
end L2
namespace Att
open PySem PySem.W PySem.Calls PyProof.Rows
theorem ints_of_wellAll {P : Params} {h : Heap} : ∀ (ns : List Int) (vs : List Value), WellAll P h vs (ns.map WData.int) → IntsAre vs ns := by
 intro ns
 induction ns with
 | nil =>
  intro vs w
  rw [List.map_nil] at w
  cases w
  exact .nil
 | cons n ns ih =>
  intro vs w
  rw [List.map_cons] at w
  cases w with
  | cons a b =>
   cases a
   exact .cons _ _ (ih _ b)
theorem script_of {l : OpenLaw} {n : Nat} (hn : l.most = some n) {P : Params} {h : Heap} {args : List WData} {vals : List Value}
  (hpre : l.row.toRowW.claim.pre args = true) (hwl : WellAll P h vals args) :
  ∃ a vs ns, vals = [Value.ref a] ∧ args = [WData.list (ns.map WData.int)] ∧ h.get? a = some { cls := .type "list", data := .seq vs.toArray } ∧ IntsAre vs ns ∧ ns.length ≤ n := by
 have hsh : WShape.hasAll [] args [.list .int] = true := (pre_splitW hpre).1
 have hc : l.pre.holds [] { args := args } = true := (pre_splitW hpre).2
 obtain ⟨d, r, rfl, h1, h2⟩ := hasAllW_cons hsh
 obtain rfl := hasAllW_nil h2
 obtain ⟨xs, rfl, h3⟩ := hasW_list h1
 obtain ⟨ns, rfl⟩ := items_int h3
 have hlen : ns.length ≤ n := by
  unfold OpenLaw.pre at hc
  have h4 : (WTm.not (.lt (.lit (.int (n : Int))) (.len (.arg 0)))).holds [] { args := [.list (ns.map .int)] } = true := by
   have h4 := (holds_andW hc).1
   rw [hn] at h4
   exact h4
  have h5 := condW_of h4 (w_not (w_lt w_lit (w_len_list (w_arg rfl))))
  rw [List.length_map] at h5
  refine Nat.le_of_not_lt fun q => ?_
  have q' : (n : Int) < ((ns.length : Nat) : Int) := by omega
  first
   | (rw [decide_eq_true q'] at h5; exact absurd h5 (by decide))
   | (simp at h5; omega)
 cases hwl with
 | cons w1 w2 =>
  cases w2
  cases w1 with
  | list ho hall => exact ⟨_, _, ns, rfl, rfl, ho, ints_of_wellAll ns _ hall, hlen⟩
theorem post_true (l : OpenLaw) (args : List WData) : l.row.toRowW.claim.post args (.bool true) args = true :=
 postW_of (r := l.row.toRowW) (X := (true == true))
  (show WShape.has [] (.bool true) .bool = true by first | rfl | decide | simp [WShape.has, WShape.arms, WShape.armsAll])
  (show (WTm.eq .res (.lit (.bool true))).value [] { args := args, res := some (.bool true), after := args } = some (.bool (true == true)) from w_eq_bool (w_res rfl) w_lit) rfl
theorem attach_call {l : OpenLaw} {n : Nat} {q : Program} {loose : List Str} {XP : (Str → Option Value) → Heap → Prop} {YP : World → Heap → Prop} {d : DefRec}
  (hn : l.most = some n) (hdf : d.params.defaults = [])
  (call : ∀ (w : World) (s₀ s₁ : Shared) (mg mb : Str → Option Value) (fa : Addr) (o : Obj) (pm cd doc : Value) (a : Addr) (vs : List Value) (ns : List Int),
   Ground q loose [] XP w s₀ mg mb s₁.heap → YP w s₁.heap →
   s₁.heap.get? fa = some o → o.data = .func (docDef d.name d.params d.body d.scope pm cd doc) → s₁.heap.CodeRec cd d.name → mg d.name = some (.ref fa) →
   s₁.heap.get? a = some { cls := .type "list", data := .seq vs.toArray } → IntsAre vs ns → ns.length ≤ n → (∀ z ∈ ns, z.natAbs.log2 < 1048577) → s₁.gens = #[] →
   codeAny (model l.prog w) callerA (.call (.ref fa) ⟨[.ref a], []⟩) (fun r s' => r = .ok (.ret (.bool true)) ∧ OldK s₁.heap s'.heap ∧ s'.os = s₁.os ∧ AllBare s'.gens) s₁) :
  WalkO q loose XP YP l.row.toRowW d [] (fun f vs => PySem.call f vs) := by
 intro w s₀ s₁ mg mb G Y fa o pm cd doc dV kV ho hd hcd hD hmg hg args vals as hpre hlay hrd hwl hlo
 obtain rfl : dV = .none := Dflts.none hD hdf
 obtain rfl : kV = .none := Dflts.noKw hD
 obtain ⟨a, vs, ns, rfl, rfl, hobj, hints, hlen⟩ := script_of hn hpre hwl
 have hbits : ∀ z ∈ ns, z.natAbs.log2 < 1048577 := fun z hz => by
  have l1 := layableW_arg hlay (WData.list (ns.map WData.int)) (by simp)
  have l2 := layableW_item l1 (WData.int z) (List.mem_map.mpr ⟨z, hz, rfl⟩)
  have l3 : (if z == 0 then 0 else z.natAbs.log2 + 1) ≤ 2 ^ 20 := by simpa [WData.weight] using (layableW_iff.mp l2).2.2
  by_cases h0 : z = 0
  ·subst h0; decide
  ·rw [if_neg (by simpa using h0)] at l3
   omega
 refine enter_call (codeAny_mono (call w s₀ s₁ mg mb fa o pm cd doc a vs ns G Y ho (fd_plain hd) hcd hmg hobj hints hlen hbits hg) fun r s' hq => ?_)
 obtain ⟨rfl, h2, h3, h4⟩ := hq
 exact ⟨.inl ⟨.bool true, .bool true, [], rfl, fun _ => rfl, .bool true, post_true l _, fun _ => ⟨List.Pairwise.nil, fun _ hm => (nomatch hm)⟩⟩, h2, h3, h4⟩
section
variable {prog : Program} {w : World} {A : Around} {E : Value → Shared → Prop} {s : Shared} {K : Frag}
end
end Att
namespace L2
open PySem PySem.Spec PyProof.Rows
theorem vals_ints : ∀ {vs : List Value} {ns : List Int}, IntsAre vs ns → Vals (ns.map V.int) vs
 | _, _, .nil => .nil
 | _, _, .cons n t h => .cons ⟨t, rfl⟩ (vals_ints h)
def Only (H : Hp) : Prop := ∀ b, H b = none ∨ ∃ o xs, H b = some (.frz o (.lst xs))
theorem law_call {P : Program} {w : World} {K : PySem.W.Frag} {mg mb : Str → Option Value} {CX : CXT} {k : Nat} {fa a : Addr} {fd : FuncData} {x : Str} {sp : Sp} {s₁ : Shared} {vs : List Value} {ns : List Int}
  (KX : K.In s₁.heap) (hns : s₁.heap.Ns mainGlobals mg) (hb : s₁.heap.Ns builtinsNs mb) (hbb : ∀ x : Str, x ≠ "__name__" → mb x = bootBuiltins x) (hlim : s₁.heap.NoLimit) (hse : s₁.heap.NoSeer) (hg : s₁.gens = #[])
  (ha : s₁.heap.get? a = some { cls := .type "list", data := .seq vs.toArray }) (hi : IntsAre vs ns) (hl : ns.length ≤ sizeLine) (hr : Room k callerA)
  (F : ∀ base : Heap, K.In base → base.Ns mainGlobals mg → FnOk P w K mg base CX k fa fd [x] sp) (hbind : ∀ (s : Shared) (u : Value), BindsTo s fd ⟨[u], []⟩ [(x, u)])
  (hsp : ∀ H : Hp, Only H → SqL K H a (ns.map V.int) → sp [.ref a] H (fun v _ => v = .bl true) fun _ _ _ => False)
  (hCX : ∀ H e s', CX [] H s₁ (fun _ _ _ => False) e s' → False) :
  codeAny (model P w) callerA (.call (.ref fa) ⟨[.ref a], []⟩) (fun r s' => r = .ok (.ret (.bool true)) ∧ OldK s₁.heap s'.heap ∧ s'.os = s₁.os ∧ AllBare s'.gens) s₁ := by
 have rv := vals_ints hi
 have lenV := hi.length
 -- from an abstract heap in which nothing but the script may be tracked
 have core : ∀ H : Hp, Only H → SqL K H a (ns.map V.int) → HOk P w H s₁.heap → (∀ b, H b ≠ none → b = a) → (H a ≠ none → K.lookup a = none) →
   codeAny (model P w) callerA (.call (.ref fa) ⟨[.ref a], []⟩) (fun r s' => r = .ok (.ret (.bool true)) ∧ OldK s₁.heap s'.heap ∧ s'.os = s₁.os ∧ AllBare s'.gens) s₁ := by
  intro H hO hS hok hA hK
  have base_of : ∀ {b : Addr} {o : Obj}, s₁.heap.get? b = some o → H b = none → (hidT s₁.heap H).get? b = some o := fun e n => hidT_get e n
  have noA : ∀ {b : Addr} {o : Obj} {es : Array DictEntry} {ep : Nat}, s₁.heap.get? b = some o → o.data = .dict es ep → H b = none := fun {b o es ep} e d => by
   cases q : H b with
   | none => rfl
   | some u =>
    have e' : b = a := hA b (by rw [q]; simp)
    subst e'
    rw [ha] at e; cases e
    have d' : Data.seq vs.toArray _ = Data.dict es ep := d
    cases d'
  have nsK : ∀ {b : Addr} {m : Str → Option Value}, s₁.heap.Ns b m → (hidT s₁.heap H).Ns b m := fun {b m} ⟨o, es, ep, e, d, r⟩ => ⟨o, es, ep, base_of e (noA e d), d, r⟩
  have hKb : K.In (hidT s₁.heap H) := fun b o e => base_of (KX b o e) (by
   cases q : H b with
   | none => rfl
   | some u =>
    have e' : b = a := hA b (by rw [q]; simp)
    subst e'
    rw [hK (by rw [q]; simp)] at e; cases e)
  have hM : Mod K mg (hidT s₁.heap H) := ⟨hKb, nsK hns, ⟨mb, nsK hb, hbb⟩, let ⟨mc, h1, h2⟩ := hlim; ⟨mc, nsK h1, h2⟩,
   ⟨let ⟨mc, a, b⟩ := hse.statics; ⟨mc, nsK a, b⟩, let ⟨mc, a, b⟩ := hse.mods; ⟨mc, nsK a, b⟩, let ⟨mc, a, b⟩ := hse.imp; ⟨mc, nsK a, b⟩, let ⟨mg', bm, ob, a', b', c', d', e'⟩ := hse.main; ⟨mg', bm, ob, nsK a', b', base_of c' (by
    cases q : H bm with
    | none => rfl
    | some u =>
     have e2 : bm = a := hA bm (by rw [q]; simp)
     subst e2
     rw [ha] at c'; cases c'
     have d2 : Value.type "list" = Value.type "module" := d'
     exact absurd d2 (by decide +kernel)), d', e'⟩⟩⟩
  have e0 : Env0 P w K mg (hidT s₁.heap H) callerA [] s₁ H := ⟨rfl, hM, fun b o e => of_hidT e, Nat.le_of_eq (hidT_size _ _), trivial, fun b hb => absurd (show b ∈ ([] : List Addr) from hb) (by simp), hok, .of_eq hg⟩
  refine codeAny_mono ((F _ hKb (nsK hns)).run callerA [] s₁ H ⟨[.ref a], []⟩ [.ref a] [.ref a] _ _ hr e0 (hbind s₁ (.ref a)) (.cons rfl .nil) (hsp H hO hS)) fun r s' h => ?_
  cases r with
  | error e => exact (hCX H e s' h).elim
  | ok fl =>
   cases fl with
   | next => exact False.elim h
   | brk => exact False.elim h
   | cont => exact False.elim h
   | ret u =>
    obtain ⟨v, H', os, bare, un, hok', r', q⟩ := h
    have q' : v = .bl true := q
    subst q'
    obtain rfl : u = Value.bool true := r'
    refine ⟨rfl, OldK.of_keep fun b o e => ?_, os, bare⟩
    cases q : H b with
    | none => exact un.keep b o e q (by intro z; exact absurd (show b ∈ ([] : List Addr) from z) (by simp)) (by simp)
    | some u =>
     rcases hO b with z | ⟨ob, xs, z⟩
     ·rw [q] at z; cases z
     ·have z2 := un.frzs b ob _ z
      obtain ⟨e1, _⟩ := hok b _ z
      obtain ⟨e2, _⟩ := hok' b _ z2
      rw [e] at e1; cases e1
      exact e2
 cases hk : K.lookup a with
 | some o =>
  -- the script is one of the module's own objects
  have e := KX a o hk
  rw [ha] at e
  cases e
  refine core (fun _ => none) (fun _ => .inl rfl) (.inr ⟨_, vs.toArray, _, hk, rfl, rfl, rfl, by rw [List.size_toArray, lenV]; exact hl, by simpa using rv⟩) (fun b u z => by have z' : (none : Option HO) = some u := z; cases z') (fun b z => absurd rfl z) fun z => absurd rfl z
 | none =>
  refine core (fun b => if b = a then some (.frz { cls := .type "list", data := .seq vs.toArray } (.lst (ns.map V.int))) else none) (fun b => ?_) (.inl (.inr ⟨{ cls := .type "list", data := .seq vs.toArray }, if_pos rfl⟩)) (fun b u z => ?_) (fun b z => ?_) fun _ => hk
  ·by_cases hb : b = a
   ·exact .inr ⟨_, _, if_pos hb⟩
   ·exact .inl (if_neg hb)
  ·by_cases hb : b = a
   ·have z' := (if_pos hb).symm.trans z
    cases z'
    subst hb
    exact ⟨ha, by rw [List.length_map]; exact hl, vs, _, rv, ha⟩
   ·have z' := (if_neg hb).symm.trans z
    cases z'
  ·by_cases hb : b = a
   ·exact hb
   ·exact absurd (if_neg hb) z
end L2
namespace L2
open PySem PySem.Spec PyProof.Rows
abbrev KOf {K : PySem.W.Frag} {h : Heap} (_ : K.In h) : PySem.W.Frag := K
theorem walk_of {l : PySem.W.OpenLaw} {n k : Nat} {q : Program} {loose : List Str} {XP : (Str → Option Value) → Heap → Prop} {YP : World → Heap → Prop} {d : DefRec} {K : Params → PySem.W.Frag} {CX : World → CXT} {sp : World → Sp} {x : Str}
  (hn : l.most = some n) (hn2 : n ≤ sizeLine) (hdf : d.params.defaults = []) (hr : Room k callerA)
  (hY : ∀ (w : World) (h : Heap), YP w h → (K w.params).In h)
  (F : ∀ (w : World) (mg : Str → Option Value) (fa : Addr) (h : Heap), (K w.params).In h → h.Ns mainGlobals mg → mg d.name = some (.ref fa) →
   ∃ fd : FuncData, (∀ (s : Shared) (u : Value), BindsTo s fd ⟨[u], []⟩ [(x, u)]) ∧
    ∀ base : Heap, (K w.params).In base → base.Ns mainGlobals mg → FnOk l.prog w (K w.params) mg base (CX w) k fa fd [x] (sp w))
  (hq : PyProof.Rows.importsNone q = true)
  (hsp : ∀ (w : World) (H : Hp) (a : Addr) (ns : List Int), ns.length ≤ n → (∀ z ∈ ns, z.natAbs.log2 < 1048577) → Only H → SqL (K w.params) H a (ns.map V.int) → sp w [.ref a] H (fun v _ => v = .bl true) fun _ _ _ => False)
  (hCX : ∀ (w : World) (H : Hp) (s : Shared) (e : Value) (s' : Shared), CX w [] H s (fun _ _ _ => False) e s' → False) :
  PySem.W.WalkO q loose XP YP l.row.toRowW d [] (fun f vs => PySem.call f vs) := by
 refine Att.attach_call hn hdf fun w s₀ s₁ mg mb fa o pm cd doc a vs ns G Y ho hd hcd hmg hobj hints hlen hbits hg => ?_
 have KX := hY w _ Y
 obtain ⟨fd, hb, hF⟩ := F w mg fa _ KX G.T.g hmg
 exact law_call KX G.T.g G.T.b G.T.builtins G.T.nolimit (G.T.seer hq) hg hobj hints (Nat.le_trans hlen hn2) hr hF hb (fun H hO hS => hsp w H a ns hlen hbits hO hS) fun H e s' => hCX w H s₁ e s'
end L2
namespace L2
open PySem PySem.Spec PyProof.Rows
def zI (s : Stmt) : Arguments := match s with
 | .FunctionDef _ a _ _ _ _ _ _ _ _ => a
 | _ => { posonlyargs := [], args := [], vararg := none, kwonlyargs := [], kw_defaults := [], kwarg := none, defaults := [] }
def zG (s : Stmt) : List Stmt := match s with
 | .FunctionDef _ _ b _ _ _ _ _ _ _ => b
 | _ => []
def zC (s : Stmt) : Scope := match s with
 | .FunctionDef _ _ _ _ _ _ sc _ _ _ => sc
 | _ => { kind := .function, names := [], isGenerator := false, isCoroutine := false }
abbrev CX0 : CXT := fun _ _ _ _ _ _ => False
abbrev E0 : XK := fun _ _ _ => False
theorem zT {X : Cx} : Passes CX0 X E0 := fun _ _ _ _ _ _ _ h => h.elim
structure Fun (K : PySem.W.Frag) (x qual : Str) (st : Stmt) (f : Addr) (fd : FuncData) : Prop where
 ex : ∃ (oc : Value) (od : Option Addr) (kV doc pm : Value) (an : Option Addr) (cdv ct : Value) (osl : Array (Option Value)),
  fd = PySem.W.fnOf x qual (zI st) (zG st) (zC st) .none kV doc pm an cdv ct ∧ K.lookup f = some ⟨oc, od, .func fd, osl⟩ ∧ PySem.W.codeIn K cdv qual = true
 kp : PySem.W.keepIn K (.ref f) = true
section
variable {P : Program} {w : World} {K : PySem.W.Frag} {mg : Str → Option Value} {base : Heap}
theorem Fun.ok {x qual : Str} {st : Stmt} {f : Addr} {fd : FuncData} {N ps : List Str} {k : Nat} {sp : Sp} (F : Fun K x qual st f fd) (S : zN N ps (zC st)) (len : ∀ vs H Q E, sp vs H Q E → vs.length = ps.length)
  (hbody : ∀ (cdv : Value) (A : Around) (outer : List Env) (s : Shared) (H : Hp) (vs : List V) (Q : VK) (E : XK), Room k (A.deeper (envOfC qual (zC st) s.heap.objs.size f cdv)) → sp vs H Q E →
   ∃ t, PSs (cxOf CX0 P w K mg base N qual (zC st) f cdv A outer s H E).nox (zG st) t ∧ t { nx := fun _ H' => Q .non H', rt := Q } (start N vs) H) : FnOk P w K mg base CX0 (k + 1) f fd ps sp := by
 obtain ⟨oc, od, kV, doc, pm, an, cdv, ct, osl, rfl, lk, hcd⟩ := F.ex
 refine fn_of lk hcd S len fun A outer s H vs Q E hr hsp => ?_
 obtain ⟨t, h, q⟩ := hbody cdv A outer s H vs Q E hr hsp
 exact ⟨t, h.nox, q⟩
theorem Fun.binds {x qual : Str} {st : Stmt} {f : Addr} {fd : FuncData} {ps : List Str} (F : Fun K x qual st f fd)
  (h : ∀ (kV doc pm : Value) (an : Option Addr) (cdv ct : Value) (us : List Value), us.length = ps.length → bindArgs (PySem.W.fnOf x qual (zI st) (zG st) (zC st) .none kV doc pm an cdv ct) ⟨us, []⟩ = pure (ps.zip us)) : zV K fd ps [] := by
 obtain ⟨oc, od, kV, doc, pm, an, cdv, ct, osl, rfl, lk, hcd⟩ := F.ex
 exact .all (h kV doc pm an cdv ct)
theorem yC {x qual : Str} {st : Stmt} {f : Addr} {oc : Value} {od an : Option Addr} {osl : Array (Option Value)} {kV doc pm cdv ct : Value} (l : K.lookup f = some ⟨oc, od, .func (PySem.W.fnOf x qual (zI st) (zG st) (zC st) .none kV doc pm an cdv ct), osl⟩)
  (c : PySem.W.codeIn K cdv qual = true) (k : PySem.W.keepIn K (.ref f) = true) : Fun K x qual st f (PySem.W.fnOf x qual (zI st) (zG st) (zC st) .none kV doc pm an cdv ct) := ⟨⟨oc, od, kV, doc, pm, an, cdv, ct, osl, rfl, l, c⟩, k⟩
end
section
variable {X : Cx}
end
def Same (H H' : Hp) : Prop := ∀ b o, H b = some o → H' b = some o
theorem Same.seq {K : PySem.W.Frag} {H H' : Hp} {a : Addr} {xs : List V} (e : Same H H') (h : SqL K H a xs) : SqL K H' a xs := by
 rcases h with (h | ⟨o, h⟩) | h
 ·exact .inl (.inl (e _ _ h))
 ·exact .inl (.inr ⟨o, e _ _ h⟩)
 ·exact .inr h
end L2
end
section
namespace Np
open PySem
inductive D where
 | non | bl (b : Bool) | int (i : Int) | str (x : Str) | tup (xs : List D) | ref (a : Nat) | exc (c : Str) | scr (xs : List D)
 deriving Inhabited
inductive O where
 | lst (xs : List D) | dct (kvs : List (D × D)) | ins (c : Str) (fs : List (Str × D))
 deriving Inhabited
abbrev Sto := List O
inductive Rs (α : Type) where
 | ok (a : α) (S : Sto)
 | er (c : Str) (S : Sto)
abbrev R (α : Type) := Option (Rs α)
@[reducible] def ok {α : Type} (a : α) (S : Sto) : R α := some (.ok a S)
@[reducible] def er {α : Type} (c : Str) (S : Sto) : R α := some (.er c S)
def bnd {α β : Type} (m : R α) (k : α → Sto → R β) : R β := match m with
 | some (.ok a S) => k a S
 | some (.er c S) => some (.er c S)
 | none => none
@[simp] theorem bnd_ok {α β : Type} (a : α) (S : Sto) (k : α → Sto → R β) : bnd (some (Rs.ok a S)) k = k a S := rfl
@[simp] theorem bnd_er {α β : Type} (c : Str) (S : Sto) (k : α → Sto → R β) : bnd (some (Rs.er c S)) k = some (Rs.er c S) := rfl
theorem bnd_some {α β : Type} {m : R α} {k : α → Sto → R β} {r : Rs β} (h : bnd m k = some r) : (∃ a S, m = ok a S ∧ k a S = some r) ∨ ∃ c S, m = er c S ∧ r = .er c S := by
 cases m with
 | none => cases h
 | some m =>
  cases m with
  | ok a S => exact .inl ⟨a, S, rfl, h⟩
  | er c S => cases h; exact .inr ⟨c, S, rfl, rfl⟩
abbrev DS := List (Option D)
inductive Fl where
 | nx (δ : DS) | rt (d : D) | bk (δ : DS) | ct (δ : DS)
abbrev DE := DS → Sto → R D
abbrev DT := DS → Sto → R Bool
abbrev DA := DS → Sto → R (List D)
abbrev DSt := DS → Sto → R Fl
abbrev DG := D → DS → Sto → R DS
def vr (i : Nat) (δ : DS) (S : Sto) : R D := match δ[i]? with
 | some (some d) => ok d S
 | _ => none
def cst (d : D) (_ : DS) (S : Sto) : R D := ok d S
def op1 (f : D → Sto → R D) (a : DE) (δ : DS) (S : Sto) : R D := bnd (a δ S) f
def op2K (f : D → D → Sto → R D) (b : DE) (δ : DS) (x : D) (S : Sto) : R D := bnd (b δ S) (f x)
def op2 (f : D → D → Sto → R D) (a b : DE) (δ : DS) (S : Sto) : R D := bnd (a δ S) (op2K f b δ)
def aNil (_ : DS) (S : Sto) : R (List D) := ok [] S
def consK (x : D) (xs : List D) (S : Sto) : R (List D) := ok (x :: xs) S
def aConsK (r : DA) (δ : DS) (x : D) (S : Sto) : R (List D) := bnd (r δ S) (consK x)
def yF (e : DE) (r : DA) (δ : DS) (S : Sto) : R (List D) := bnd (e δ S) (aConsK r δ)
def fnE (f : List D → Sto → R D) (as : DA) (δ : DS) (S : Sto) : R D := bnd (as δ S) f
def fnD (f : List D → Sto → R D) (ds : List D) (as : List D) (S : Sto) : R D := f (as ++ ds) S
def ifEK (a b : DE) (δ : DS) : Bool → Sto → R D
 | true, S => a δ S
 | false, S => b δ S
def ifE (t : DT) (a b : DE) (δ : DS) (S : Sto) : R D := bnd (t δ S) (ifEK a b δ)
def zH (S : Sto) (a : Nat) : Option (List D) := match S[a]? with
 | some (.lst xs) => some xs
 | _ => none
def truV : D → Sto → R Bool
 | .bl b, S => ok b S
 | _, _ => none
def tv (e : DE) (δ : DS) (S : Sto) : R Bool := bnd (e δ S) truV
def andTK (b : DT) (δ : DS) : Bool → Sto → R Bool
 | true, S => b δ S
 | false, S => ok false S
def andT (a b : DT) (δ : DS) (S : Sto) : R Bool := bnd (a δ S) (andTK b δ)
def orTK (b : DT) (δ : DS) : Bool → Sto → R Bool
 | true, S => ok true S
 | false, S => b δ S
def orT (a b : DT) (δ : DS) (S : Sto) : R Bool := bnd (a δ S) (orTK b δ)
def notK (c : Bool) (S : Sto) : R Bool := ok (!c) S
def notT (a : DT) (δ : DS) (S : Sto) : R Bool := bnd (a δ S) notK
def andVB (b : DE) (δ : DS) : Bool → Sto → R D
 | true, S => b δ S
 | false, S => ok (.bl false) S
def andVK (b : DE) (δ : DS) (x : D) (S : Sto) : R D := bnd (truV x S) (andVB b δ)
def andV (a b : DE) (δ : DS) (S : Sto) : R D := bnd (a δ S) (andVK b δ)
def orVB (b : DE) (δ : DS) : Bool → Sto → R D
 | true, S => ok (.bl true) S
 | false, S => b δ S
def orVK (b : DE) (δ : DS) (x : D) (S : Sto) : R D := bnd (truV x S) (orVB b δ)
def orV (a b : DE) (δ : DS) (S : Sto) : R D := bnd (a δ S) (orVK b δ)
def notVB (c : Bool) (S : Sto) : R D := ok (.bl (!c)) S
def notVK (x : D) (S : Sto) : R D := bnd (truV x S) notVB
def notV (a : DE) (δ : DS) (S : Sto) : R D := bnd (a δ S) notVK
def nxS (δ : DS) (S : Sto) : R Fl := ok (.nx δ) S
def seqK (b : DSt) : Fl → Sto → R Fl
 | .nx δ, S => b δ S
 | .rt d, S => ok (.rt d) S
 | .bk δ, S => ok (.bk δ) S
 | .ct δ, S => ok (.ct δ) S
def seqS (a b : DSt) (δ : DS) (S : Sto) : R Fl := bnd (a δ S) (seqK b)
def dropK (δ : DS) (_ : D) (S : Sto) : R Fl := ok (.nx δ) S
def dropS (e : DE) (δ : DS) (S : Sto) : R Fl := bnd (e δ S) (dropK δ)
def retK (d : D) (S : Sto) : R Fl := ok (.rt d) S
def retS (e : DE) (δ : DS) (S : Sto) : R Fl := bnd (e δ S) retK
def ifK (a b : DSt) (δ : DS) : Bool → Sto → R Fl
 | true, S => a δ S
 | false, S => b δ S
def ifS (t : DT) (a b : DSt) (δ : DS) (S : Sto) : R Fl := bnd (t δ S) (ifK a b δ)
def brkS (δ : DS) (S : Sto) : R Fl := ok (.bk δ) S
def cntS (δ : DS) (S : Sto) : R Fl := ok (.ct δ) S
def setG (i : Nat) (d : D) (δ : DS) (S : Sto) : R DS := ok (δ.set i (some d)) S
def asgK (g : DG) (δ : DS) (d : D) (S : Sto) : R Fl := bnd (g d δ S) nxS
def asgS (e : DE) (g : DG) (δ : DS) (S : Sto) : R Fl := bnd (e δ S) (asgK g δ)
abbrev setS (i : Nat) (e : DE) : DSt := asgS e (setG i)
def parK2 (i j : Nat) (δ : DS) (x y : D) (S : Sto) : R Fl := ok (.nx ((δ.set i (some x)).set j (some y))) S
def parK (i j : Nat) (b : DE) (δ : DS) (x : D) (S : Sto) : R Fl := bnd (b δ S) (parK2 i j δ x)
def parS (i j : Nat) (a b : DE) (δ : DS) (S : Sto) : R Fl := bnd (a δ S) (parK i j b δ)
def tupGs : List DG → List D → DS → Sto → R DS
 | [], [], δ, S => ok δ S
 | g :: gs, d :: ds, δ, S => bnd (g d δ S) (tupGs gs ds)
 | _, _, _, _ => none
def tupG (gs : List DG) (d : D) (δ : DS) (S : Sto) : R DS := match d with
 | .tup ds => if ds.length = gs.length then tupGs gs ds δ S else none
 | _ => none
inductive Src where
 | fix (xs : List D) | one (a : Nat) | two (a b : Nat) | enm (a : Nat) | rev (a n : Nat)
def enm1 (i : Nat) : Option D → Option D
 | some x => some (.tup [.int i, x])
 | none => none
def two1 : Option D → Option D → Option D
 | some x, some y => some (.tup [x, y])
 | _, _ => none
def Src.get : Src → Sto → Nat → Option (Option D)
 | .fix xs, _, i => some xs[i]?
 | .one a, S, i => match zH S a with
  | some xs => some xs[i]?
  | none => none
 | .two a b, S, i => match zH S a, zH S b with
  | some xs, some ys => some (two1 xs[i]? ys[i]?)
  | _, _ => none
 | .enm a, S, i => match zH S a with
  | some xs => some (enm1 i xs[i]?)
  | none => none
 | .rev a n, S, i => match zH S a with
  | some xs => if i < n then (match xs[n - 1 - i]? with
    | some x => some (some x)
    | none => none) else some none
  | none => none
def Src.len : Src → Sto → Nat
 | .fix xs, _ => xs.length
 | .one a, S => match zH S a with
  | some xs => xs.length
  | none => 0
 | .two a _, S => match zH S a with
  | some xs => xs.length
  | none => 0
 | .enm a, S => match zH S a with
  | some xs => xs.length
  | none => 0
 | .rev _ n, _ => n
abbrev DI := DS → Sto → R Src
def loopK (k : DSt) : Fl → Sto → R Fl
 | .nx δ, S => k δ S
 | .ct δ, S => k δ S
 | .bk δ, S => ok (.nx δ) S
 | .rt d, S => ok (.rt d) S
def turnK (b k : DSt) (δ : DS) (S : Sto) : R Fl := bnd (b δ S) (loopK k)
def forD (src : Src) (g : DG) (b : DSt) : Nat → Nat → DSt
 | 0, i, δ, S => match src.get S i with
  | some none => ok (.nx δ) S
  | _ => none
 | n + 1, i, δ, S => match src.get S i with
  | some none => ok (.nx δ) S
  | some (some x) => bnd (g x δ S) (turnK b (forD src g b n (i + 1)))
  | none => none
def forK (g : DG) (b : DSt) (δ : DS) (src : Src) (S : Sto) : R Fl := forD src g b (src.len S) 0 δ S
def forS (it : DI) (g : DG) (b : DSt) (δ : DS) (S : Sto) : R Fl := bnd (it δ S) (forK g b δ)
def whK (b k : DSt) (δ : DS) : Bool → Sto → R Fl
 | true, S => turnK b k δ S
 | false, S => ok (.nx δ) S
def whileD (t : DT) (b : DSt) : Nat → DSt
 | 0, _, _ => none
 | n + 1, δ, S => bnd (t δ S) (whK b (whileD t b n) δ)
theorem whileD_succ (t : DT) (b : DSt) : ∀ (n : Nat) (δ : DS) (S : Sto) (r : Rs Fl), whileD t b n δ S = some r → whileD t b (n + 1) δ S = some r
 | 0, _, _, _, h => by cases h
 | n + 1, δ, S, r, h => by
  have h : bnd (t δ S) (whK b (whileD t b n) δ) = some r := h
  show bnd (t δ S) (whK b (whileD t b (n + 1)) δ) = some r
  rcases bnd_some h with ⟨c, S1, e, q⟩ | ⟨c, S1, e, q⟩
  ·rw [e]
   cases c with
   | false => exact q
   | true =>
    show bnd (b δ S1) (loopK (whileD t b (n + 1))) = some r
    rcases bnd_some (show bnd (b δ S1) (loopK (whileD t b n)) = some r from q) with ⟨f, S2, e2, q2⟩ | ⟨c, S2, e2, q2⟩
    ·rw [e2]
     cases f with
     | nx δ' => exact whileD_succ t b n δ' S2 r q2
     | ct δ' => exact whileD_succ t b n δ' S2 r q2
     | bk δ' => exact q2
     | rt d => exact q2
    ·rw [e2, q2]
     rfl
  ·rw [e, q]
   rfl
theorem whileD_le {t : DT} {b : DSt} {n m : Nat} {δ : DS} {S : Sto} {r : Rs Fl} (h : whileD t b n δ S = some r) (hm : n ≤ m) : whileD t b m δ S = some r := by
 obtain ⟨k, rfl⟩ := Nat.exists_eq_add_of_le hm
 induction k with
 | zero => exact h
 | succ k ih => exact whileD_succ t b (n + k) δ S r (ih (Nat.le_add_right _ _))
noncomputable def whileS (t : DT) (b : DSt) (δ : DS) (S : Sto) : R Fl := open Classical in if h : ∃ n r, whileD t b n δ S = some r then whileD t b (Classical.choose h) δ S else none
theorem whileS_of {t : DT} {b : DSt} {n : Nat} {δ : DS} {S : Sto} {r : Rs Fl} (h : whileD t b n δ S = some r) : whileS t b δ S = some r := by
 have hx : ∃ n r, whileD t b n δ S = some r := ⟨n, r, h⟩
 unfold whileS
 rw [dif_pos hx]
 obtain ⟨r', hr'⟩ := Classical.choose_spec hx
 have h1 := whileD_le hr' (Nat.le_max_left _ n)
 have h2 := whileD_le h (Nat.le_max_right (Classical.choose hx) n)
 rw [hr', ← h1, h2]
theorem whileS_some {t : DT} {b : DSt} {δ : DS} {S : Sto} {r : Rs Fl} (h : whileS t b δ S = some r) : ∃ n, whileD t b n δ S = some r := by
 unfold whileS at h
 split at h
 ·exact ⟨_, h⟩
 ·cases h
def nevS (_ : DS) (_ : Sto) : R Fl := none
def raiseS (c : Str) (_ : DS) (S : Sto) : R Fl := er c S
def tryEndK (j : Nat) : Fl → Sto → R Fl
 | .nx δ, S => ok (.nx (δ.set j none)) S
 | _, _ => none
def itL : D → Sto → R Src
 | .ref a, S => match zH S a with
  | some _ => ok (.one a) S
  | none => none
 | .scr xs, S => ok (.fix xs) S
 | _, _ => none
def intsD (lo : Int) : Nat → List D
 | 0 => []
 | n + 1 => .int lo :: intsD (lo + 1) n
theorem limEx : ∃ v : Int, v = 1000000 := ⟨_, rfl⟩
noncomputable def lim : Int := Classical.choose limEx
theorem lim_eq : lim = 1000000 := Classical.choose_spec limEx
noncomputable def rng1D : List D → Sto → R Src
 | [.int n], S => if n < lim ∧ -lim < n then ok (.fix (intsD 0 n.toNat)) S else none
 | _, _ => none
noncomputable def rng2D : List D → Sto → R Src
 | [.int a, .int b], S => if (a < lim ∧ -lim < a) ∧ b < lim ∧ -lim < b then ok (.fix (intsD a (b - a).toNat)) S else none
 | _, _ => none
def zip2D : List D → Sto → R Src
 | [.ref a, .ref b], S => match zH S a, zH S b with
  | some _, some _ => ok (.two a b) S
  | _, _ => none
 | _, _ => none
def enumD : List D → Sto → R Src
 | [.ref a], S => match zH S a with
  | some _ => ok (.enm a) S
  | none => none
 | _, _ => none
def itE (f : D → Sto → R Src) (e : DE) (δ : DS) (S : Sto) : R Src := bnd (e δ S) f
def itA (f : List D → Sto → R Src) (as : DA) (δ : DS) (S : Sto) : R Src := bnd (as δ S) f
def newO (o : O) (S : Sto) : R D := ok (.ref S.length) (S ++ [o])
def compK2 (k : DA) (δ : DS) (d : D) (S : Sto) : R (List D) := bnd (k δ S) (consK d)
def compK (e : DE) (k : DA) (δ : DS) (S : Sto) : R (List D) := bnd (e δ S) (compK2 k δ)
def compD (src : Src) (g : DG) (e : DE) : Nat → Nat → DA
 | 0, i, δ, S => match src.get S i with
  | some none => ok [] S
  | _ => none
 | n + 1, i, δ, S => match src.get S i with
  | some none => ok [] S
  | some (some x) => bnd (g x δ S) (compK e (compD src g e n (i + 1)))
  | none => none
def lstK (ds : List D) (S : Sto) : R D := newO (.lst ds) S
def noer {α : Type} : R α → R α
 | some (.ok a S) => ok a S
 | some (.er _ _) => none
 | none => none
def compL (g : DG) (e : DE) (δ : DS) (src : Src) (S : Sto) : R D := if src.len S ≤ 1000000 then bnd (noer (compD src g e (src.len S) 0 δ S)) lstK else none
def compE (it : DI) (k : Nat) (g : DG) (e : DE) (δ : DS) (S : Sto) : R D := bnd (it δ S) (compL g e (δ ++ List.replicate k none))
def outF : R Fl → R D
 | some (.ok (.nx _) S) => ok .non S
 | some (.ok (.rt d) S) => ok d S
 | some (.ok (.bk _) _) => none
 | some (.ok (.ct _) _) => none
 | some (.er c S) => er c S
 | none => none
def startD (n : Nat) (ds : List D) : DS := ds.map some ++ List.replicate (n - ds.length) none
def fnF (n k : Nat) (g : DSt) (ds : List D) (S : Sto) : R D := if ds.length = k then noer (outF (g (startD n ds) S)) else none
def noerS (g : DSt) (δ : DS) (S : Sto) : R Fl := noer (g δ S)
def fnX (n k : Nat) (g : DSt) (ds : List D) (S : Sto) : R D := if ds.length = k then outF (g (startD n ds) S) else none
def op3K2 (f : D → D → D → Sto → R D) (x y : D) (z : D) (S : Sto) : R D := f x y z S
def op3K (f : D → D → D → Sto → R D) (c : DE) (δ : DS) (x y : D) (S : Sto) : R D := bnd (c δ S) (op3K2 f x y)
def op3J (f : D → D → D → Sto → R D) (b c : DE) (δ : DS) (x : D) (S : Sto) : R D := bnd (b δ S) (op3K f c δ x)
def op3 (f : D → D → D → Sto → R D) (a b c : DE) (δ : DS) (S : Sto) : R D := bnd (a δ S) (op3J f b c δ)
def chnB (g : D → D → Sto → R D) (c : DE) (δ : DS) (y : D) : Bool → Sto → R D
 | true, S => bnd (c δ S) (g y)
 | false, S => ok (.bl false) S
def chnT (g : D → D → Sto → R D) (c : DE) (δ : DS) (y : D) (t : D) (S : Sto) : R D := bnd (truV t S) (chnB g c δ y)
def chnK2 (f g : D → D → Sto → R D) (c : DE) (δ : DS) (x y : D) (S : Sto) : R D := bnd (f x y S) (chnT g c δ y)
def chnK (f g : D → D → Sto → R D) (b c : DE) (δ : DS) (x : D) (S : Sto) : R D := bnd (b δ S) (chnK2 f g c δ x)
def chn (f g : D → D → Sto → R D) (a b c : DE) (δ : DS) (S : Sto) : R D := bnd (a δ S) (chnK f g b c δ)
@[simp] theorem outF_er (c : Str) (S : Sto) : outF (some (.er c S)) = er c S := rfl
@[simp] theorem truV_bl (b : Bool) (S : Sto) : truV (.bl b) S = ok b S := rfl
@[simp] theorem seqK_nx (b : DSt) (δ : DS) (S : Sto) : seqK b (.nx δ) S = b δ S := rfl
@[simp] theorem seqK_rt (b : DSt) (d : D) (S : Sto) : seqK b (.rt d) S = ok (.rt d) S := rfl
@[simp] theorem ifK_t (a b : DSt) (δ : DS) (S : Sto) : ifK a b δ true S = a δ S := rfl
@[simp] theorem ifK_f (a b : DSt) (δ : DS) (S : Sto) : ifK a b δ false S = b δ S := rfl
end Np
end
section
namespace Np
open PySem
def tupD (ds : List D) (S : Sto) : R D := if ds.length ≤ 1000 then ok (.tup ds) S else none
def lstD (ds : List D) (S : Sto) : R D := if ds.length ≤ 1000 then newO (.lst ds) S else none
def catD (a b : Option (List D)) (S : Sto) : R D := match a, b with
 | some xs, some ys => if xs.length + ys.length ≤ 1000000 then newO (.lst (xs ++ ys)) S else none
 | _, _ => none
def addD : D → D → Sto → R D
 | .int i, .int j, S => ok (.int (i + j)) S
 | .str x, .str y, S => if x.length + y.length ≤ 1000000 then ok (.str (x ++ y)) S else none
 | .ref a, .ref b, S => catD (zH S a) (zH S b) S
 | _, _, _ => none
def subD : D → D → Sto → R D
 | .int i, .int j, S => ok (.int (i - j)) S
 | _, _, _ => none
def repD (a : Option (List D)) (k : Int) (S : Sto) : R D := match a with
 | some xs => if xs.length * k.toNat ≤ 1000000 ∧ -1000000000 < k ∧ k < 1000000000 then newO (.lst (List.replicate k.toNat xs).flatten) S else none
 | none => none
def mulD : D → D → Sto → R D
 | .int i, .int j, S => if i.natAbs.log2 + j.natAbs.log2 ≤ 100000000 then ok (.int (i * j)) S else none
 | .ref a, .int k, S => repD (zH S a) k S
 | _, _, _ => none
def fdivD : D → D → Sto → R D
 | .int i, .int j, S => if j = 0 then none else ok (.int (i.fdiv j)) S
 | _, _, _ => none
def modD : D → D → Sto → R D
 | .int i, .int j, S => if j = 0 then none else ok (.int (i.fmod j)) S
 | _, _, _ => none
def powD : D → D → Sto → R D
 | .int i, .int j, S => if (0 ≤ j ∧ j ≤ 1000) ∧ i.natAbs < 1000000 then ok (.int (i ^ j.toNat)) S else none
 | _, _, _ => none
def negD : D → Sto → R D
 | .int i, S => ok (.int (-i)) S
 | _, _ => none
def absD : List D → Sto → R D
 | [.int i], S => ok (.int (if i < 0 then -i else i)) S
 | _, _ => none
inductive T where
 | non | bl (b : Bool) | int (i : Int) | str (x : Str) | tup (xs : List T) | lst (xs : List T)
mutual
def eqT : T → T → Bool
 | .non, .non => true
 | .bl a, .bl b => a == b
 | .bl a, .int j => (if a then 1 else 0) == j
 | .int i, .bl b => i == (if b then 1 else 0)
 | .int i, .int j => i == j
 | .str x, .str y => x == y
 | .lst xs, .lst ys => eqTs xs ys
 | .tup xs, .tup ys => eqTs xs ys
 | _, _ => false
def eqTs : List T → List T → Bool
 | [], [] => true
 | x :: xs, y :: ys => eqT x y && eqTs xs ys
 | _, _ => false
end
def rdl (f : D → Option T) : List D → Option (List T)
 | [] => some []
 | d :: ds => match f d, rdl f ds with
  | some t, some ts => some (t :: ts)
  | _, _ => none
def rd : Nat → Sto → D → Option T
 | _, _, .non => some .non
 | _, _, .bl b => some (.bl b)
 | _, _, .int i => some (.int i)
 | _, _, .str x => if x.cps.all (· < 0x110000) = true then some (.str x) else none
 | n + 1, S, .tup ds => (rdl (rd n S) ds).map .tup
 | n + 1, S, .ref a => match zH S a with
  | some ds => (rdl (rd n S) ds).map .lst
  | none => none
 | _, _, _ => none
def eqK (neg : Bool) (S : Sto) : Option T → Option T → R D
 | some t, some u => ok (.bl (if neg = true then !eqT t u else eqT t u)) S
 | _, _ => none
def eqD (x y : D) (S : Sto) : R D := eqK false S (rd 9 S x) (rd 9 S y)
def neD (x y : D) (S : Sto) : R D := eqK true S (rd 9 S x) (rd 9 S y)
def ltD : D → D → Sto → R D
 | .int i, .int j, S => ok (.bl (decide (i < j))) S
 | _, _, _ => none
def leD : D → D → Sto → R D
 | .int i, .int j, S => ok (.bl (decide (i ≤ j))) S
 | _, _, _ => none
def gtD : D → D → Sto → R D
 | .int i, .int j, S => ok (.bl (decide (j < i))) S
 | _, _, _ => none
def geD : D → D → Sto → R D
 | .int i, .int j, S => ok (.bl (decide (j ≤ i))) S
 | _, _, _ => none
def isNoneB : D → Bool
 | .non => true
 | _ => false
def isND (x y : D) (S : Sto) : R D := match y with
 | .non => ok (.bl (isNoneB x)) S
 | _ => none
def isNND (x y : D) (S : Sto) : R D := match y with
 | .non => ok (.bl (!isNoneB x)) S
 | _ => none
def ixA (n : Nat) (i : Int) : Option Nat := if 0 ≤ i then (if i < n then some i.toNat else none) else if -(n : Int) ≤ i then some (i + n).toNat else none
def ixK (xs : Option (List D)) (i : Int) (S : Sto) : R D := match xs with
 | some xs => match (ixA xs.length i).bind (fun j => xs[j]?) with
  | some d => ok d S
  | none => none
 | none => none
def ixD : D → D → Sto → R D
 | .tup xs, .int i, S => ixK (some xs) i S
 | .ref a, .int i, S => ixK (zH S a) i S
 | .scr xs, .int i, S => ixK (some xs) i S
 | _, _, _ => none
def lenK (xs : Option (List D)) (S : Sto) : R D := match xs with
 | some xs => ok (.int xs.length) S
 | none => none
def lenD : List D → Sto → R D
 | [.scr xs], S => lenK (some xs) S
 | [.tup xs], S => lenK (some xs) S
 | [.ref a], S => lenK (zH S a) S
 | [.str x], S => if x.length ≤ 1000000 then ok (.int x.length) S else none
 | _, _ => none
inductive Kd where
 | int | bool | str | lst | tup
 deriving DecidableEq
def isK : Kd → D → Sto → Option Bool
 | _, .exc _, _ => none
 | _, .scr _, _ => none
 | .lst, .ref a, S => match S[a]? with
  | some (.lst _) => some true
  | some (.dct _) => some false
  | _ => none
 | _, .ref a, S => match S[a]? with
  | some (.lst _) => some false
  | some (.dct _) => some false
  | _ => none
 | .int, .int _, _ => some true
 | .int, .bl _, _ => some true
 | .bool, .bl _, _ => some true
 | .str, .str _, _ => some true
 | .tup, .tup _, _ => some true
 | _, _, _ => some false
def isiD (k : Kd) (x : D) (S : Sto) : R D := match isK k x S with
 | some b => ok (.bl b) S
 | none => none
def sIxD (n d : Nat) : Option Int → Nat
 | none => d
 | some v => if v < 0 then (v + (n : Int)).toNat else min v.toNat n
def cutD (xs : List D) (lo hi : Option Int) : List D := (xs.drop (sIxD xs.length 0 lo)).take (sIxD xs.length xs.length hi - sIxD xs.length 0 lo)
abbrev DO := DS → Sto → R (Option Int)
def noP (_ : DS) (S : Sto) : R (Option Int) := ok none S
def atPK : D → Sto → R (Option Int)
 | .int i, S => ok (some i) S
 | _, _ => none
def atP (e : DE) (δ : DS) (S : Sto) : R (Option Int) := bnd (e δ S) atPK
def slD (x : D) (lo hi : Option Int) (S : Sto) : R D := match x with
 | .ref a => match zH S a with
  | some xs => newO (.lst (cutD xs lo hi)) S
  | none => none
 | .scr xs => newO (.lst (cutD xs lo hi)) S
 | .tup xs => if sIxD xs.length 0 lo = 0 ∧ sIxD xs.length xs.length hi = xs.length then none else ok (.tup (cutD xs lo hi)) S
 | _ => none
def slK2 (x : D) (lo : Option Int) (hi : Option Int) (S : Sto) : R D := slD x lo hi S
def slK1 (h : DO) (δ : DS) (x : D) (lo : Option Int) (S : Sto) : R D := bnd (h δ S) (slK2 x lo)
def slK (l h : DO) (δ : DS) (x : D) (S : Sto) : R D := bnd (l δ S) (slK1 h δ x)
def slE (e : DE) (l h : DO) (δ : DS) (S : Sto) : R D := bnd (e δ S) (slK l h δ)
def isxD (yes : List Str) (x : D) (S : Sto) : R D := match x with
 | .exc c => if yes.contains c = true then ok (.bl true) S else none
 | _ => none
def lofD : List D → Sto → R D
 | [.ref a], S => match zH S a with
  | some xs => newO (.lst xs) S
  | none => none
 | [.scr xs], S => newO (.lst xs) S
 | [.tup xs], S => newO (.lst xs) S
 | _, _ => none
def tofD : List D → Sto → R D
 | [.ref a], S => match zH S a with
  | some xs => ok (.tup xs) S
  | none => none
 | [.tup xs], S => ok (.tup xs) S
 | _, _ => none
def appD (x : D) (y : D) (S : Sto) : R D := match x with
 | .ref a => match zH S a with
  | some xs => if xs.length < 1000000 then ok .non (S.set a (.lst (xs ++ [y]))) else none
  | none => none
 | _ => none
def setXA (v : D) (δ : DS) (x y : D) (S : Sto) : R DS := match x, y with
 | .ref a, .int j => match zH S a with
  | some xs => match ixA xs.length j with
   | some k => ok δ (S.set a (.lst (xs.set k v)))
   | none => none
  | none => none
 | _, _ => none
def setXK (i : DE) (v : D) (δ : DS) (x : D) (S : Sto) : R DS := bnd (i δ S) (setXA v δ x)
def setXG (o i : DE) (v : D) (δ : DS) (S : Sto) : R DS := bnd (o δ S) (setXK i v δ)
def isL (x : D) (S : Sto) : Bool := match x with
 | .ref a => (zH S a).isSome
 | _ => false
def opMK (f : D → D → Sto → R D) (b : DE) (δ : DS) (x : D) (S : Sto) : R D := if isL x S = true then bnd (b δ S) (f x) else none
def opM (f : D → D → Sto → R D) (a b : DE) (δ : DS) (S : Sto) : R D := bnd (a δ S) (opMK f b δ)
def opM3K (f : D → D → D → Sto → R D) (b c : DE) (δ : DS) (x : D) (S : Sto) : R D := if isL x S = true then op3J f b c δ x S else none
def opM3 (f : D → D → D → Sto → R D) (a b c : DE) (δ : DS) (S : Sto) : R D := bnd (a δ S) (opM3K f b c δ)
def extD (x : D) (y : D) (S : Sto) : R D := match x, y with
 | .ref a, .ref b => match zH S a, zH S b with
  | some xs, some ys => if xs.length + ys.length ≤ 1000000 then ok .non (S.set a (.lst (xs ++ ys))) else none
  | _, _ => none
 | _, _ => none
def allB : List D → Option Bool
 | [] => some true
 | .bl b :: r => match allB r with
  | some c => some (b && c)
  | none => none
 | _ :: _ => none
def allD : List D → Sto → R D
 | [.ref a], S => match zH S a with
  | some xs => match allB xs with
   | some b => ok (.bl b) S
   | none => none
  | none => none
 | _, _ => none
def dvmD : List D → Sto → R D
 | [.int i, .int j], S => if j = 0 then none else ok (.tup [.int (i.fdiv j), .int (i.fmod j)]) S
 | _, _ => none
def maxD : List D → Sto → R D
 | [.int i, .int j], S => ok (.int (if j > i then j else i)) S
 | _, _ => none
def intD : List D → Sto → R D
 | [.int i], S => ok (.int i) S
 | [.bl b], S => ok (.int (if b = true then 1 else 0)) S
 | _, _ => none
end Np
end
section
namespace Np
open PySem
end Np
namespace Np
open PySem
def tryER (j : Nat) (hits : List Str) (h : DSt) (δ : DS) (r : R D) : R Fl := match r with
 | some (.ok _ S) => ok (.nx δ) S
 | some (.er c S) => if hits.contains c = true then bnd (h (δ.set j (some (.exc c))) S) (tryEndK j) else none
 | none => none
def tryEK (f : List D → Sto → R D) (j : Nat) (hits : List Str) (h : DSt) (δ : DS) (ds : List D) (S : Sto) : R Fl := tryER j hits h δ (f ds S)
def tryE (f : List D → Sto → R D) (as : DA) (j : Nat) (hits : List Str) (h : DSt) (δ : DS) (S : Sto) : R Fl := bnd (as δ S) (tryEK f j hits h δ)
end Np
namespace Np
open PySem
def dctN (_ : DS) (S : Sto) : R D := newO (.dct []) S
mutual
def flat : Nat → D → Bool
 | _, .non => true
 | _, .bl _ => true
 | _, .int _ => true
 | _, .str _ => true
 | n + 1, .tup ds => flats n ds
 | _, .ref _ => true
 | _, _ => false
def flats : Nat → List D → Bool
 | _, [] => true
 | n, d :: ds => flat n d && flats n ds
end
end Np
end
section
namespace Np
open PySem PySem.Spec PyProof.Rows L2
structure Gx where
 K : PySem.W.Frag
 mg : Str → Option Value
structure Wd where
 μ : Nat → Addr
 S : Sto
def excAt (a C : Addr) : Heap → Prop := fun h => ∃ o, h.get? a = some o ∧ o.cls = .ref C
def Sc (K : PySem.W.Frag) (H : Hp) (a : Addr) (xs : List V) : Prop := (∃ o, H a = some (.frz o (.lst xs))) ∨ SqL K (fun _ => none) a xs
theorem Sc.sq {K : PySem.W.Frag} {H : Hp} {a : Addr} {xs : List V} (h : Sc K H a xs) : SqL K H a xs := by
 rcases h with ⟨o, h⟩ | (h | h)
 ·exact .inl (.inr ⟨o, h⟩)
 ·rcases h with h | ⟨o, h⟩ <;> cases h
 ·exact .inr h
mutual
def Rep (G : Gx) (H : Hp) (W : Wd) : D → V → Prop
 | .non, v => v = .non
 | .bl b, v => v = .bl b
 | .int i, v => v = .int i
 | .str x, v => v = .str x
 | .tup ds, v => ∃ a xs, v = .ref a ∧ SqT G.K H a xs ∧ RepL G H W ds xs
 | .ref i, v => i < W.S.length ∧ v = .ref (W.μ i)
 | .exc c, v => ∃ a C, v = .ref a ∧ G.mg c = some (.ref C) ∧ H a = some (.ext (excAt a C))
 | .scr ds, v => ∃ a xs, v = .ref a ∧ Sc G.K H a xs ∧ RepL G H W ds xs
def RepL (G : Gx) (H : Hp) (W : Wd) : List D → List V → Prop
 | [], vs => vs = []
 | d :: ds, vs => ∃ v r, vs = v :: r ∧ Rep G H W d v ∧ RepL G H W ds r
end
def RepO (G : Gx) (H : Hp) (W : Wd) (a : Addr) : O → Prop
 | .lst ds => ∃ xs, H a = some (.lst xs) ∧ RepL G H W ds xs
 | .dct kvs => kvs = [] ∧ H a = some (.dK [])
 | .ins c fs => ∃ C dx ps, G.mg c = some (.ref C) ∧ H a = some (.ins C dx ps) ∧ ps.map (·.1) = fs.map (·.1) ∧ RepL G H W (fs.map (·.2)) (ps.map (·.2))
structure StOk (G : Gx) (H : Hp) (W : Wd) : Prop where
 inj : ∀ i j, i < W.S.length → j < W.S.length → W.μ i = W.μ j → i = j
 get : ∀ i o, W.S[i]? = some o → RepO G H W (W.μ i) o
def stB : HO → Bool
 | .lst _ => true
 | .dK _ => true
 | .ins _ _ _ => true
 | _ => false
theorem StOk.at {G : Gx} {H : Hp} {W : Wd} (h : StOk G H W) {i : Nat} (hi : i < W.S.length) : ∃ o, H (W.μ i) = some o ∧ stB o = true := by
 have := h.get i W.S[i] (by simp [hi])
 cases q : W.S[i] with
 | lst ds => rw [q] at this; obtain ⟨xs, e, _⟩ := this; exact ⟨_, e, rfl⟩
 | dct kvs => rw [q] at this; obtain ⟨_, e⟩ := this; exact ⟨_, e, rfl⟩
 | ins c fs => rw [q] at this; obtain ⟨_, _, _, _, e, _⟩ := this; exact ⟨_, e, rfl⟩
theorem StOk.apart {G : Gx} {H : Hp} {W : Wd} (h : StOk G H W) {b : Addr} {o : HO} (e : H b = some o) (ho : stB o = false) : ∀ i, i < W.S.length → W.μ i ≠ b := fun i hi z => by
 obtain ⟨u, eu, hu⟩ := h.at hi
 rw [z, e] at eu
 cases eu
 rw [ho] at hu
 cases hu
theorem StOk.new {G : Gx} {H : Hp} {W : Wd} (h : StOk G H W) {b : Addr} (e : H b = none) : ∀ i, i < W.S.length → W.μ i ≠ b := fun i hi z => by
 obtain ⟨u, eu, hu⟩ := h.at hi
 rw [z, e] at eu
 cases eu
structure Mv (H : Hp) (W : Wd) (H' : Hp) (W' : Wd) : Prop where
 len : W.S.length ≤ W'.S.length
 old : ∀ i, i < W.S.length → W'.μ i = W.μ i
 frm : ∀ b o, H b = some o → stB o = false → H' b = some o
theorem Mv.sqT {K : PySem.W.Frag} {H H' : Hp} {W W' : Wd} {a : Addr} {xs : List V} (e : Mv H W H' W') (h : SqT K H a xs) : SqT K H' a xs := by
 rcases h with (h | ⟨o, h⟩) | h
 ·exact .inl (.inl (e.frm _ _ h rfl))
 ·exact .inl (.inr ⟨o, e.frm _ _ h rfl⟩)
 ·exact .inr h
theorem Mv.sc {K : PySem.W.Frag} {H H' : Hp} {W W' : Wd} {a : Addr} {xs : List V} (e : Mv H W H' W') (h : Sc K H a xs) : Sc K H' a xs := by
 rcases h with ⟨o, h⟩ | h
 ·exact .inl ⟨o, e.frm _ _ h rfl⟩
 ·exact .inr h
mutual
theorem Rep.mv {G : Gx} {H H' : Hp} {W W' : Wd} (s : Mv H W H' W') : ∀ {d : D} {v : V}, Rep G H W d v → Rep G H' W' d v
 | .non, _, h => h
 | .bl _, _, h => h
 | .int _, _, h => h
 | .str _, _, h => h
 | .tup ds, _, h => by
  obtain ⟨a, xs, e, q, r⟩ := h
  exact ⟨a, xs, e, s.sqT q, RepL.mv s r⟩
 | .ref i, _, h => by
  obtain ⟨l, e⟩ := h
  exact ⟨Nat.lt_of_lt_of_le l s.len, by rw [e, s.old i l]⟩
 | .exc c, _, h => by
  obtain ⟨a, C, e, m, q⟩ := h
  exact ⟨a, C, e, m, s.frm _ _ q rfl⟩
 | .scr ds, _, h => by
  obtain ⟨a, xs, e, q, r⟩ := h
  exact ⟨a, xs, e, s.sc q, RepL.mv s r⟩
theorem RepL.mv {G : Gx} {H H' : Hp} {W W' : Wd} (s : Mv H W H' W') : ∀ {ds : List D} {vs : List V}, RepL G H W ds vs → RepL G H' W' ds vs
 | [], _, h => h
 | d :: ds, _, h => by
  obtain ⟨v, r, e, q, t⟩ := h
  exact ⟨v, r, e, Rep.mv s q, RepL.mv s t⟩
end
theorem RepL.length {G : Gx} {H : Hp} {W : Wd} : ∀ {ds : List D} {vs : List V}, RepL G H W ds vs → ds.length = vs.length
 | [], _, h => by cases h; rfl
 | d :: ds, _, h => by
  obtain ⟨v, r, e, q, t⟩ := h
  subst e
  simp [RepL.length t]
theorem RepL.get {G : Gx} {H : Hp} {W : Wd} : ∀ {ds : List D} {vs : List V} {i : Nat} {d : D}, RepL G H W ds vs → ds[i]? = some d → ∃ v, vs[i]? = some v ∧ Rep G H W d v
 | [], _, _, _, _, e => by simp at e
 | d :: ds, _, 0, _, h, e => by
  obtain ⟨v, r, rfl, q, t⟩ := h
  simp at e; subst e
  exact ⟨v, rfl, q⟩
 | d :: ds, _, i + 1, _, h, e => by
  obtain ⟨v, r, rfl, q, t⟩ := h
  obtain ⟨u, h1, h2⟩ := RepL.get (i := i) t (by simpa using e)
  exact ⟨u, by simpa using h1, h2⟩
theorem RepL.append {G : Gx} {H : Hp} {W : Wd} : ∀ {ds es : List D} {vs us : List V}, RepL G H W ds vs → RepL G H W es us → RepL G H W (ds ++ es) (vs ++ us)
 | [], _, _, _, h, k => by cases h; exact k
 | d :: ds, _, _, _, h, k => by
  obtain ⟨v, r, rfl, q, t⟩ := h
  exact ⟨v, _, rfl, q, RepL.append t k⟩
theorem RepL.take {G : Gx} {H : Hp} {W : Wd} : ∀ {ds : List D} {vs : List V} (n : Nat), RepL G H W ds vs → RepL G H W (ds.take n) (vs.take n)
 | _, _, 0, _ => by simp [RepL]
 | [], _, n + 1, h => by cases h; simp [RepL]
 | d :: ds, _, n + 1, h => by
  obtain ⟨v, r, rfl, q, t⟩ := h
  exact ⟨v, _, rfl, q, RepL.take n t⟩
theorem RepL.drop {G : Gx} {H : Hp} {W : Wd} : ∀ {ds : List D} {vs : List V} (n : Nat), RepL G H W ds vs → RepL G H W (ds.drop n) (vs.drop n)
 | _, _, 0, h => h
 | [], _, n + 1, h => by cases h; simp [RepL]
 | d :: ds, _, n + 1, h => by
  obtain ⟨v, r, rfl, q, t⟩ := h
  exact RepL.drop n t
theorem RepL.set {G : Gx} {H : Hp} {W : Wd} {d' : D} {v' : V} (q' : Rep G H W d' v') : ∀ {ds : List D} {vs : List V} (n : Nat), RepL G H W ds vs → RepL G H W (ds.set n d') (vs.set n v')
 | [], _, n, h => by cases h; simp [RepL]
 | d :: ds, _, 0, h => by
  obtain ⟨v, r, rfl, q, t⟩ := h
  exact ⟨v', _, rfl, q', t⟩
 | d :: ds, _, n + 1, h => by
  obtain ⟨v, r, rfl, q, t⟩ := h
  exact ⟨v, _, rfl, q, RepL.set q' n t⟩
theorem RepL.one {G : Gx} {H : Hp} {W : Wd} {d : D} {v : V} (h : Rep G H W d v) : RepL G H W [d] [v] := ⟨v, [], rfl, h, rfl⟩
theorem RepO.mv {G : Gx} {H H' : Hp} {W W' : Wd} {a : Addr} {o : O} (s : Mv H W H' W') (e : H' a = H a) (h : RepO G H W a o) : RepO G H' W' a o := by
 cases o with
 | lst ds => obtain ⟨xs, q, r⟩ := h; exact ⟨xs, by rw [e]; exact q, r.mv s⟩
 | dct kvs => obtain ⟨q, r⟩ := h; exact ⟨q, by rw [e]; exact r⟩
 | ins c fs => obtain ⟨C, dx, ps, m, q, n, r⟩ := h; exact ⟨C, dx, ps, m, by rw [e]; exact q, n, r.mv s⟩
theorem lstAt_some {S : Sto} {a : Nat} {xs : List D} (h : zH S a = some xs) : S[a]? = some (.lst xs) := by
 unfold zH at h
 split at h
 ·rename_i ys e
  cases h
  exact e
 ·cases h
theorem StOk.lst {G : Gx} {H : Hp} {W : Wd} {a : Nat} {v : V} {ds : List D} (h : StOk G H W) (r : Rep G H W (.ref a) v) (e : zH W.S a = some ds) : ∃ xs, v = .ref (W.μ a) ∧ H (W.μ a) = some (.lst xs) ∧ RepL G H W ds xs := by
 obtain ⟨xs, q, rl⟩ := h.get a _ (lstAt_some e)
 exact ⟨xs, r.2, q, rl⟩
structure Nxt (G : Gx) (H : Hp) (W : Wd) (H' : Hp) (W' : Wd) : Prop where
 ok : StOk G H' W'
 len : W.S.length ≤ W'.S.length
 old : ∀ i, i < W.S.length → W'.μ i = W.μ i
 new : ∀ i, W.S.length ≤ i → i < W'.S.length → H (W'.μ i) = none
 frm : ∀ b o, H b = some o → (∀ i, i < W.S.length → W.μ i ≠ b) → H' b = some o
theorem Nxt.mv {G : Gx} {H H' : Hp} {W W' : Wd} (h : Nxt G H W H' W') (s : StOk G H W) : Mv H W H' W' := ⟨h.len, h.old, fun b o e q => h.frm b o e (s.apart e q)⟩
theorem Nxt.rfl {G : Gx} {H : Hp} {W : Wd} (s : StOk G H W) : Nxt G H W H W := ⟨s, Nat.le_refl _, fun _ _ => by rfl, fun i h h' => absurd h' (Nat.not_lt.mpr h), fun _ _ e _ => e⟩
theorem Nxt.trans {G : Gx} {H H' H'' : Hp} {W W' W'' : Wd} (a : Nxt G H W H' W') (b : Nxt G H' W' H'' W'') : Nxt G H W H'' W'' := by
 refine ⟨b.ok, Nat.le_trans a.len b.len, fun i hi => (b.old i (Nat.lt_of_lt_of_le hi a.len)).trans (a.old i hi), fun i h1 h2 => ?_, fun c o e q => ?_⟩
 ·by_cases hi : i < W'.S.length
  ·rw [b.old i hi]
   exact a.new i h1 hi
  ·have hn := b.new i (Nat.le_of_not_lt hi) h2
   cases q : H (W''.μ i) with
   | none => rfl
   | some o =>
    by_cases hz : ∃ j, j < W.S.length ∧ W.μ j = W''.μ i
    ·obtain ⟨j, hj, ej⟩ := hz
     obtain ⟨o', e', _⟩ := a.ok.at (Nat.lt_of_lt_of_le hj a.len)
     rw [a.old j hj, ej, hn] at e'
     cases e'
    ·have := a.frm _ o q fun j hj ej => hz ⟨j, hj, ej⟩
     rw [hn] at this
     cases this
 ·refine b.frm c o (a.frm c o e q) fun i hi => ?_
  by_cases hl : i < W.S.length
  ·rw [a.old i hl]
   exact q i hl
  ·intro z
   have := a.new i (Nat.le_of_not_lt hl) hi
   rw [z, e] at this
   cases this
def Wd.push (W : Wd) (p : Addr) (o : O) : Wd := ⟨fun i => if i = W.S.length then p else W.μ i, W.S ++ [o]⟩
theorem Mv.push {G : Gx} {H : Hp} {W : Wd} {p : Addr} (hp : H p = none) (u : HO) (o : O) : Mv H W (upd H p u) (W.push p o) :=
 ⟨by simp [Wd.push], fun i hi => if_neg (Nat.ne_of_lt hi), fun b v e _ => by rw [zO (ne_of_none e hp)]; exact e⟩
theorem Nxt.alloc {G : Gx} {H : Hp} {W : Wd} {p : Addr} {u : HO} {o : O} (h : StOk G H W) (hp : H p = none) (hr : RepO G (upd H p u) (W.push p o) p o) : Nxt G H W (upd H p u) (W.push p o) := by
 have m := Mv.push (G := G) (W := W) hp u o
 have hμ : ∀ i, i < W.S.length → (W.push p o).μ i = W.μ i := fun i hi => if_neg (Nat.ne_of_lt hi)
 have hl : (W.push p o).S.length = W.S.length + 1 := by simp [Wd.push]
 have hn : (W.push p o).μ W.S.length = p := if_pos _root_.rfl
 refine ⟨⟨fun i j hi hj e => ?_, fun i o' e => ?_⟩, m.len, hμ, fun i h1 h2 => ?_, fun b v e _ => by rw [zO (ne_of_none e hp)]; exact e⟩
 ·rw [hl] at hi hj
  by_cases h1 : i < W.S.length
  ·by_cases h2 : j < W.S.length
   ·rw [hμ i h1, hμ j h2] at e
    exact h.inj i j h1 h2 e
   ·have : j = W.S.length := by omega
    subst this
    rw [hμ i h1, hn] at e
    exact absurd e (h.new hp i h1)
  ·have : i = W.S.length := by omega
   subst this
   by_cases h2 : j < W.S.length
   ·rw [hμ j h2, hn] at e
    exact absurd e.symm (h.new hp j h2)
   ·omega
 ·have e' : (W.S ++ [o])[i]? = some o' := e
  by_cases h1 : i < W.S.length
  ·rw [List.getElem?_append_left h1] at e'
   rw [hμ i h1]
   exact (h.get i o' e').mv m (zO (h.new hp i h1))
  ·have h2 : i < (W.S ++ [o]).length := (List.getElem?_eq_some_iff.mp e').1
   have : i = W.S.length := by simp at h2; omega
   subst this
   simp at e'
   subst e'
   rw [hn]
   exact hr
 ·rw [hl] at h2
  have : i = W.S.length := by omega
  subst this
  rw [hn]
  exact hp
def Wd.put (W : Wd) (i : Nat) (o : O) : Wd := ⟨W.μ, W.S.set i o⟩
theorem Mv.put {G : Gx} {H : Hp} {W : Wd} {i : Nat} (h : StOk G H W) (hi : i < W.S.length) (u : HO) (o : O) : Mv H W (upd H (W.μ i) u) (W.put i o) :=
 ⟨by simp [Wd.put], fun _ _ => by rfl, fun b v e q => by rw [zO fun z => h.apart e q i hi z.symm]; exact e⟩
theorem Nxt.write {G : Gx} {H : Hp} {W : Wd} {i : Nat} {u : HO} {o : O} (h : StOk G H W) (hi : i < W.S.length) (hr : RepO G (upd H (W.μ i) u) (W.put i o) (W.μ i) o) : Nxt G H W (upd H (W.μ i) u) (W.put i o) := by
 have m := Mv.put h hi u o
 have hl : (W.put i o).S.length = W.S.length := by simp [Wd.put]
 refine ⟨⟨fun a b ha hb e => h.inj a b (by rw [← hl]; exact ha) (by rw [← hl]; exact hb) e, fun j o' e => ?_⟩, m.len, m.old, fun j h1 h2 => by omega, fun b v e q => by rw [zO fun z => q i hi z.symm]; exact e⟩
 have e' : (W.S.set i o)[j]? = some o' := e
 by_cases hj : i = j
 ·subst hj
  rw [List.getElem?_set_self hi] at e'
  cases e'
  exact hr
 ·rw [List.getElem?_set_ne hj] at e'
  have hjl : j < W.S.length := (List.getElem?_eq_some_iff.mp e').1
  exact (h.get j o' e').mv m (zO fun z => hj (h.inj i j hi hjl z.symm))
theorem Nxt.heap {G : Gx} {H : Hp} {W : Wd} {p : Addr} (h : StOk G H W) (hp : H p = none) (u : HO) : Nxt G H W (upd H p u) W := by
 have m : Mv H W (upd H p u) W := ⟨Nat.le_refl _, fun _ _ => _root_.rfl, fun b v e _ => by rw [zO (ne_of_none e hp)]; exact e⟩
 exact ⟨⟨h.inj, fun i o e => (h.get i o e).mv m (zO (h.new hp i (List.getElem?_eq_some_iff.mp e).1))⟩, Nat.le_refl _, fun _ _ => _root_.rfl, fun i h1 h2 => by omega, fun b v e _ => by rw [zO (ne_of_none e hp)]; exact e⟩
def RepS (G : Gx) (H : Hp) (W : Wd) (δ : DS) (σ : L2.St) : Prop := δ.length = σ.length ∧ ∀ (i : Nat) (d : D), δ[i]? = some (some d) → ∃ v, σ[i]? = some (some v) ∧ Rep G H W d v
theorem RepS.mv {G : Gx} {H H' : Hp} {W W' : Wd} {δ : DS} {σ : L2.St} (h : RepS G H W δ σ) (s : Mv H W H' W') : RepS G H' W' δ σ :=
 ⟨h.1, fun i d e => let ⟨v, e1, r⟩ := h.2 i d e; ⟨v, e1, r.mv s⟩⟩
theorem RepS.set {G : Gx} {H : Hp} {W : Wd} {δ : DS} {σ : L2.St} {d : D} {v : V} (i : Nat) (h : RepS G H W δ σ) (r : Rep G H W d v) : RepS G H W (δ.set i (some d)) (σ.set i (some v)) := by
 refine ⟨by simpa using h.1, fun j e hj => ?_⟩
 by_cases ij : i = j
 ·subst ij
  have hl : i < δ.length := by
   have := (List.getElem?_eq_some_iff.mp hj).1
   simpa using this
  rw [List.getElem?_set_self hl] at hj
  cases hj
  exact ⟨v, List.getElem?_set_self (h.1 ▸ hl), r⟩
 ·rw [List.getElem?_set_ne ij] at hj
  obtain ⟨u, e1, q⟩ := h.2 j e hj
  exact ⟨u, by rw [List.getElem?_set_ne ij]; exact e1, q⟩
theorem RepS.start {G : Gx} {H : Hp} {W : Wd} {ds : List D} {vs : List V} (N : List Str) (h : RepL G H W ds vs) : RepS G H W (startD N.length ds) (start N vs) := by
 have hl := h.length
 refine ⟨by simp [startD, L2.start, hl], fun i d e => ?_⟩
 unfold startD at e
 by_cases hi : i < ds.length
 ·rw [List.getElem?_append_left (by simpa using hi), List.getElem?_map] at e
  cases q : ds[i]? with
  | none => rw [q] at e; cases e
  | some d' =>
   rw [q] at e; cases e
   obtain ⟨v, e1, r⟩ := h.get q
   refine ⟨v, ?_, r⟩
   unfold L2.start
   rw [List.getElem?_append_left (by rw [List.length_map]; omega), List.getElem?_map, e1] <;> rfl
 ·rw [List.getElem?_append_right (by simpa using hi), List.getElem?_replicate] at e
  split at e <;> cases e
def After {α : Type} (G : Gx) (E : XK) (H : Hp) (W : Wd) (r : Rs α) (P : α → Hp → Wd → Prop) : Prop := match r with
 | .ok a S' => ∀ H' W', W'.S = S' → Nxt G H W H' W' → P a H' W'
 | .er c S' => ∃ C, G.mg c = some (.ref C) ∧ ∀ H' W', W'.S = S' → Nxt G H W H' W' → E (.ref C) none H'
theorem After.nxt {α : Type} {G : Gx} {E : XK} {H H1 : Hp} {W W1 : Wd} {r : Rs α} {P : α → Hp → Wd → Prop} (h : After G E H W r P) (s : Nxt G H W H1 W1) : After G E H1 W1 r P := by
 cases r with
 | ok a S' => exact fun H' W' e s' => h H' W' e (s.trans s')
 | er c S' =>
  obtain ⟨C, m, q⟩ := h
  exact ⟨C, m, fun H' W' e s' => q H' W' e (s.trans s')⟩
theorem After.now {α : Type} {G : Gx} {E : XK} {H : Hp} {W : Wd} {a : α} {P : α → Hp → Wd → Prop} (h : After G E H W (.ok a W.S) P) (s : StOk G H W) : P a H W := h H W rfl (.rfl s)
abbrev VP (G : Gx) (Q : VK) : D → Hp → Wd → Prop := fun d H' W' => ∀ v, Rep G H' W' d v → Q v H'
abbrev AV (G : Gx) (Q : List V → Hp → Prop) : List D → Hp → Wd → Prop := fun ds H' W' => ∀ vs, RepL G H' W' ds vs → Q vs H'
abbrev BV (Q : Bool → Hp → Prop) : Bool → Hp → Wd → Prop := fun b H' _ => Q b H'
def SV (G : Gx) (D : Ends) : Fl → Hp → Wd → Prop := fun f H' W' => match f with
 | .nx δ => ∀ σ, RepS G H' W' δ σ → D.nx σ H'
 | .rt d => ∀ v, Rep G H' W' d v → D.rt v H'
 | .bk δ => ∀ σ, RepS G H' W' δ σ → D.bk σ H'
 | .ct δ => ∀ σ, RepS G H' W' δ σ → D.ct σ H'
def Go {α : Type} (G : Gx) (E : XK) (g : DS → Sto → R α) (P : α → Hp → Wd → Prop) (σ : L2.St) (H : Hp) : Prop := ∃ W δ r, StOk G H W ∧ RepS G H W δ σ ∧ g δ W.S = some r ∧ After G E H W r P
def tF (G : Gx) (E : XK) (g : DE) : TE := fun σ H Q => Go G E g (VP G Q) σ H
def tFT (G : Gx) (E : XK) (g : DT) : TT := fun σ H Q => Go G E g (BV Q) σ H
def tFA (G : Gx) (E : XK) (g : DA) : TA := fun σ H Q => Go G E g (AV G Q) σ H
def tFS (G : Gx) (E : XK) (g : DSt) : TS := fun D σ H => Go G E g (SV G D) σ H
def tFG (G : Gx) (E : XK) (g : DG) : TG := fun v σ H Q => ∃ W δ d r, StOk G H W ∧ RepS G H W δ σ ∧ Rep G H W d v ∧ g d δ W.S = some r ∧ After G E H W r (fun δ' H' W' => ∀ σ', RepS G H' W' δ' σ' → Q σ' H')
abbrev gx (X : Cx) : Gx := ⟨X.K, X.mg⟩
@[irreducible] def PDE (X : Cx) (E : XK) (e : Expr) (g : DE) : Prop := PE X e (tF (gx X) E g)
@[irreducible] def PDT (X : Cx) (E : XK) (e : Expr) (g : DT) : Prop := PT X e (tFT (gx X) E g)
@[irreducible] def PDW (X : Cx) (E : XK) (e : Expr) (g : DT) : Prop := PW X e (tFT (gx X) E g)
@[irreducible] def PDA (X : Cx) (E : XK) (es : List Expr) (g : DA) : Prop := PA X es (tFA (gx X) E g)
@[irreducible] def PDS (X : Cx) (E : XK) (st : Stmt) (g : DSt) : Prop := PS X st (tFS (gx X) E g)
@[irreducible] def PDSs (X : Cx) (E : XK) (sts : List Stmt) (g : DSt) : Prop := PSs X sts (tFS (gx X) E g)
@[irreducible] def PDG (X : Cx) (E : XK) (tg : Expr) (g : DG) : Prop := PG X tg (tFG (gx X) E g)
theorem PDA.o {X : Cx} {E : XK} {es : List Expr} {g : DA} (h : PDA X E es g) : PA X es (tFA (gx X) E g) := by
 unfold PDA at h
 exact h
theorem PDE.o {X : Cx} {E : XK} {e : Expr} {g : DE} (h : PDE X E e g) : PE X e (tF (gx X) E g) := by
 unfold PDE at h
 exact h
theorem PE.imp {X : Cx} {e : Expr} {t t' : TE} (h : PE X e t) (hi : ∀ σ H Q, t' σ H Q → t σ H Q) : PE X e t' := fun pins s σ H Q I q => h pins s σ H Q I (hi σ H Q q)
theorem PT.imp {X : Cx} {e : Expr} {t t' : TT} (h : PT X e t) (hi : ∀ σ H Q, t' σ H Q → t σ H Q) : PT X e t' := fun pins s σ H Q I q => h pins s σ H Q I (hi σ H Q q)
theorem PW.imp {X : Cx} {e : Expr} {t t' : TT} (h : PW X e t) (hi : ∀ σ H Q, t' σ H Q → t σ H Q) : PW X e t' := fun wh pins s σ H Q I q => h wh pins s σ H Q I (hi σ H Q q)
theorem PA.imp {X : Cx} {es : List Expr} {t t' : TA} (h : PA X es t) (hi : ∀ σ H Q, t' σ H Q → t σ H Q) : PA X es t' := fun p pins s σ H Q I q => h p pins s σ H Q I (hi σ H Q q)
theorem PS.imp {X : Cx} {st : Stmt} {t t' : TS} (h : PS X st t) (hi : ∀ D σ H, t' D σ H → t D σ H) : PS X st t' := fun pins s σ H D I q => h pins s σ H D I (hi D σ H q)
theorem PSs.imp {X : Cx} {st : List Stmt} {t t' : TS} (h : PSs X st t) (hi : ∀ D σ H, t' D σ H → t D σ H) : PSs X st t' := fun pins s σ H D I q => h pins s σ H D I (hi D σ H q)
section
variable {G : Gx} {E : XK} {σ : L2.St} {H : Hp} {δ : DS} {W : Wd}
theorem Go.thn {α β : Type} {ga : DS → Sto → R α} {k : α → Sto → R β} {r : Rs β} {P : β → Hp → Wd → Prop} {P1 : α → Hp → Wd → Prop} (hS : StOk G H W) (hδ : RepS G H W δ σ) (h : bnd (ga δ W.S) k = some r) (hA : After G E H W r P)
  (next : ∀ a H1 W1, Nxt G H W H1 W1 → RepS G H1 W1 δ σ → k a W1.S = some r → After G E H1 W1 r P → P1 a H1 W1) : Go G E ga P1 σ H := by
 rcases bnd_some h with ⟨a, S, e, q⟩ | ⟨c, S, e, q⟩
 ·exact ⟨W, δ, .ok a S, hS, hδ, e, fun H1 W1 e1 s => next a H1 W1 s (hδ.mv (s.mv hS)) (by rw [e1]; exact q) (hA.nxt s)⟩
 ·subst q
  exact ⟨W, δ, .er c S, hS, hδ, e, hA⟩
end
section
variable {X : Cx} {E : XK} {a b c e : Expr} {pos : Pos} {ga gb : DE}
theorem zA (i : Nat) {x : Str} (hN : X.N[i]? = some x := by rfl) (hv : Vis X.env.scope x := by first | exact Or.inl rfl | exact Or.inr (Or.inl rfl) | exact Or.inr (Or.inr rfl)) (hd : (x == ("__debug__" : Str)) = false := by decide +kernel)
  (hcd : (x == ("__classdict__" : Str)) = false := by decide +kernel) : PDE X E (.Name x pos) (vr i) := by
 try unfold PDE at *
 refine PE.imp (pe_var hN hv hd hcd) fun σ H Q ⟨W, δ, r, hS, hδ, hg, hA⟩ => ?_
 unfold vr at hg
 cases q : δ[i]? with
 | none => rw [q] at hg; cases hg
 | some o =>
  cases o with
  | none => rw [q] at hg; cases hg
  | some d =>
   rw [q] at hg
   obtain rfl : Rs.ok d W.S = r := Option.some.inj hg
   obtain ⟨v, e1, rv⟩ := hδ.2 i d q
   exact ⟨v, e1, hA.now hS v rv⟩
theorem pd_cst {t : TE} {d : D} {v : V} (h : PE X e t) (ht : ∀ σ H Q, Q v H → t σ H Q) (hr : ∀ H W, Rep (gx X) H W d v) : PDE X E e (cst d) := by
 try unfold PDE at *
 refine PE.imp h fun σ H Q ⟨W, δ, r, hS, hδ, hg, hA⟩ => ?_
 obtain rfl : Rs.ok d W.S = r := Option.some.inj hg
 exact ht σ H Q (hA.now hS v (hr H W))
theorem zF {i : Int} {j} : PDE X E (.Constant (.int i) j pos) (cst (.int i)) := by
 first
 | exact (
  pd_cst pe_int (fun _ _ _ q => q) fun _ _ => rfl)
 | ((try unfold PDE at *); exact (
  pd_cst pe_int (fun _ _ _ q => q) fun _ _ => rfl))
theorem pd_bl {i : Bool} {j} : PDE X E (.Constant (.bool i) j pos) (cst (.bl i)) := by
 first
 | exact (
  pd_cst pe_bl (fun _ _ _ q => q) fun _ _ => rfl)
 | ((try unfold PDE at *); exact (
  pd_cst pe_bl (fun _ _ _ q => q) fun _ _ => rfl))
theorem pd_non {j} : PDE X E (.Constant .none j pos) (cst .non) := by
 first
 | exact (
  pd_cst pe_non (fun _ _ _ q => q) fun _ _ => rfl)
 | ((try unfold PDE at *); exact (
  pd_cst pe_non (fun _ _ _ q => q) fun _ _ => rfl))
theorem pd_str {x : Str} {j} : PDE X E (.Constant (.str x) j pos) (cst (.str x)) := by
 first
 | exact (
  pd_cst pe_str (fun _ _ _ q => q) fun _ _ => rfl)
 | ((try unfold PDE at *); exact (
  pd_cst pe_str (fun _ _ _ q => q) fun _ _ => rfl))
theorem pd_glob {x : Str} {u : Value} {v : V} {d : D} (hg : Gl X x) (hm : X.mg x = some u) (r : RelV v u) (hr : ∀ H W, Rep (gx X) H W d v) (hd : (x == ("__debug__" : Str)) = false := by decide +kernel) : PDE X E (.Name x pos) (cst d) := by
 first
 | exact (
  pd_cst (pe_glob hg hm r hd) (fun _ _ _ q => q) hr)
 | ((try unfold PDE at *); exact (
  pd_cst (pe_glob hg hm r hd) (fun _ _ _ q => q) hr))
def CstAt (K : PySem.W.Frag) (mg : Str → Option Value) (x : Str) (d : D) : Prop := ∃ u v, mg x = some u ∧ RelV v u ∧ ∀ H W, Rep ⟨K, mg⟩ H W d v
theorem pd_C {x : Str} {d : D} (hg : Gl X x) (h : CstAt X.K X.mg x d) (hd : (x == ("__debug__" : Str)) = false := by decide +kernel) : PDE X E (.Name x pos) (cst d) := by
 obtain ⟨u, v, hm, r, hr⟩ := h
 exact pd_glob hg hm r hr hd
def OpD (G : Gx) (r : R2) (f : D → D → Sto → R D) : Prop :=
 ∀ (E : XK) (H : Hp) (W : Wd) (x y : V) (dx dy : D) (Q : VK) (rr : Rs D), StOk G H W → Rep G H W dx x → Rep G H W dy y → f dx dy W.S = some rr → After G E H W rr (VP G Q) → r x y H Q
theorem tF_op2 {r : R2} {f : D → D → Sto → R D} (hf : OpD (gx X) r f) : ∀ σ H Q, tF (gx X) E (op2 f ga gb) σ H Q → tOp r (tF (gx X) E ga) (tF (gx X) E gb) σ H Q := by
 intro σ H Q ⟨W, δ, rr, hS, hδ, hg, hA⟩
 refine Go.thn hS hδ hg hA fun dx H1 W1 s1 hδ1 hg1 hA1 x rx => ?_
 refine Go.thn s1.ok hδ1 hg1 hA1 fun dy H2 W2 s2 hδ2 hg2 hA2 y ry => ?_
 exact hf E H2 W2 x y dx dy Q rr s2.ok (rx.mv (s2.mv s1.ok)) ry hg2 hA2
theorem pd_op {op : Operator} {r : R2} {f : D → D → Sto → R D} (ho : OpR X (binaryOp op) r) (hf : OpD (gx X) r f) (ha : PDE X E a ga) (hb : PDE X E b gb) : PDE X E (.BinOp a op b pos) (op2 f ga gb) := by
 first
 | exact (
  PE.imp (pe_op ho ha hb) (tF_op2 hf))
 | ((try unfold PDE at *); exact (
  PE.imp (pe_op ho ha hb) (tF_op2 hf)))
theorem pd_cmp {op : CmpOp} {r : R2} {f : D → D → Sto → R D} (ho : OpR X (compareOp op) r) (hf : OpD (gx X) r f) (ha : PDE X E a ga) (hb : PDE X E b gb) (hm : behindInMarks op b = false) : PDE X E (.Compare a [op] [b] pos) (op2 f ga gb) := by
 first
 | exact (
  PE.imp (pe_cmpR ho ha hb hm) (tF_op2 hf))
 | ((try unfold PDE at *); exact (
  PE.imp (pe_cmpR ho ha hb hm) (tF_op2 hf)))
theorem tB_tF {t : TE} (ht : ∀ σ H Q, tF (gx X) E ga σ H Q → t σ H Q) : ∀ σ H Q, tFT (gx X) E (tv ga) σ H Q → t σ H fun x H1 => ∃ k, x = .bl k ∧ Q k H1 := by
 intro σ H Q ⟨W, δ, rr, hS, hδ, hg, hA⟩
 refine ht σ H _ (Go.thn hS hδ hg hA fun d H1 W1 s1 hδ1 hg1 hA1 v rv => ?_)
 cases d with
 | bl k =>
  obtain rfl : Rs.ok k W1.S = rr := Option.some.inj hg1
  exact ⟨k, rv, hA1.now s1.ok⟩
 | _ => cases hg1
theorem zY {op : CmpOp} {r : R2} {f : D → D → Sto → R D} (ho : OpR X (compareOp op) r) (hf : OpD (gx X) r f) (ha : PDE X E a ga) (hb : PDE X E b gb) (hm : behindInMarks op b = false) : PDT X E (.Compare a [op] [b] pos) (tv (op2 f ga gb)) := by
 first
 | exact (
  PT.imp (pt_cmpR ho ha hb hm) (tB_tF (tF_op2 hf)))
 | ((try unfold PDE at *); (try unfold PDT at *); exact (
  PT.imp (pt_cmpR ho ha hb hm) (tB_tF (tF_op2 hf))))
theorem pt_valD (ha : PDE X E a ga) (he : ∀ whole, isTrue a X.env whole = (do let v ← whole; standAt a.pos; holding [v] (truthy v)) := by intro _; rfl) : PDT X E a (tv ga) := by
 first
 | exact (
  PT.imp (pt_val ha he) (tB_tF fun _ _ _ q => q))
 | ((try unfold PDE at *); (try unfold PDT at *); exact (
  PT.imp (pt_val ha he) (tB_tF fun _ _ _ q => q)))
def UnD (G : Gx) (r : V → Hp → VK → Prop) (f : D → Sto → R D) : Prop :=
 ∀ (E : XK) (H : Hp) (W : Wd) (x : V) (dx : D) (Q : VK) (rr : Rs D), StOk G H W → Rep G H W dx x → f dx W.S = some rr → After G E H W rr (VP G Q) → r x H Q
theorem pd_un {op : UnaryOp} {r : V → Hp → VK → Prop} {f : D → Sto → R D} (ho : UnR X (unaryOp op) r) (hf : UnD (gx X) r f) (ha : PDE X E a ga) : PDE X E (.UnaryOp op a pos) (op1 f ga) := by
 try unfold PDE at *
 refine PE.imp (pe_un ho ha) fun σ H Q ⟨W, δ, rr, hS, hδ, hg, hA⟩ => ?_
 exact Go.thn hS hδ hg hA fun dx H1 W1 s1 hδ1 hg1 hA1 x rx => hf E H1 W1 x dx Q rr s1.ok rx hg1 hA1
variable {ta tb : DT} {rest : List Expr}
theorem pd_and1 (ha : PDT X E a ta) : PDW X E (.BoolOp .And [a] pos) ta := by
 first
 | exact (
  pw_and1 ha)
 | ((try unfold PDT at *); (try unfold PDW at *); exact (
  pw_and1 ha))
theorem pd_or1 (ha : PDT X E a ta) : PDW X E (.BoolOp .Or [a] pos) ta := by
 first
 | exact (
  pw_or1 ha)
 | ((try unfold PDT at *); (try unfold PDW at *); exact (
  pw_or1 ha))
theorem pd_and (ha : PDT X E a ta) (hb : PDW X E (.BoolOp .And (b :: rest) pos) tb) : PDW X E (.BoolOp .And (a :: b :: rest) pos) (andT ta tb) := by
 try unfold PDT at *
 try unfold PDW at *
 refine PW.imp (pw_and ha hb) fun σ H Q ⟨W, δ, rr, hS, hδ, hg, hA⟩ => ?_
 refine Go.thn hS hδ hg hA fun c H1 W1 s1 hδ1 hg1 hA1 => ?_
 cases c with
 | true => exact ⟨W1, δ, rr, s1.ok, hδ1, hg1, hA1⟩
 | false =>
  obtain rfl : Rs.ok false W1.S = rr := Option.some.inj hg1
  exact hA1.now s1.ok
theorem pd_or (ha : PDT X E a ta) (hb : PDW X E (.BoolOp .Or (b :: rest) pos) tb) : PDW X E (.BoolOp .Or (a :: b :: rest) pos) (orT ta tb) := by
 try unfold PDT at *
 try unfold PDW at *
 refine PW.imp (pw_or ha hb) fun σ H Q ⟨W, δ, rr, hS, hδ, hg, hA⟩ => ?_
 refine Go.thn hS hδ hg hA fun c H1 W1 s1 hδ1 hg1 hA1 => ?_
 cases c with
 | true =>
  obtain rfl : Rs.ok true W1.S = rr := Option.some.inj hg1
  exact hA1.now s1.ok
 | false => exact ⟨W1, δ, rr, s1.ok, hδ1, hg1, hA1⟩
theorem pd_wt (h : PDW X E a ta) : PDT X E a ta := by
 first
 | exact (
  PW.pt h)
 | ((try unfold PDT at *); (try unfold PDW at *); exact (
  PW.pt h))
theorem pd_not (ha : PDT X E a ta) : PDT X E (.UnaryOp .Not a pos) (notT ta) := by
 try unfold PDT at *
 refine PT.imp (pt_not ha) fun σ H Q ⟨W, δ, rr, hS, hδ, hg, hA⟩ => ?_
 refine Go.thn hS hδ hg hA fun c H1 W1 s1 hδ1 hg1 hA1 => ?_
 obtain rfl : Rs.ok (!c) W1.S = rr := Option.some.inj hg1
 exact hA1.now s1.ok
theorem pd_oneV {op} (ha : PDE X E a ga) : PDE X E (.BoolOp op [a] pos) ga := by
 first
 | exact (
  pe_one ha)
 | ((try unfold PDE at *); exact (
  pe_one ha))
theorem pd_andV (ha : PDE X E a ga) (hb : PDE X E (.BoolOp .And (b :: rest) pos) gb) : PDE X E (.BoolOp .And (a :: b :: rest) pos) (andV ga gb) := by
 try unfold PDE at *
 refine PE.imp (pe_and ha hb) fun σ H Q ⟨W, δ, rr, hS, hδ, hg, hA⟩ => ?_
 refine Go.thn hS hδ hg hA fun d H1 W1 s1 hδ1 hg1 hA1 v rv => ?_
 cases d with
 | bl k =>
  refine ⟨k, rv, ?_⟩
  cases k with
  | true => exact ⟨W1, δ, rr, s1.ok, hδ1, hg1, hA1⟩
  | false =>
   obtain rfl : Rs.ok (D.bl false) W1.S = rr := Option.some.inj hg1
   exact hA1.now s1.ok _ rfl
 | _ => cases hg1
theorem pd_notV (ha : PDE X E a ga) : PDE X E (.UnaryOp .Not a pos) (notV ga) := by
 try unfold PDE at *
 refine PE.imp (pe_not ha) fun σ H Q ⟨W, δ, rr, hS, hδ, hg, hA⟩ => ?_
 refine Go.thn hS hδ hg hA fun d H1 W1 s1 hδ1 hg1 hA1 v rv => ?_
 cases d with
 | bl k =>
  refine ⟨k, rv, ?_⟩
  obtain rfl : Rs.ok (D.bl (!k)) W1.S = rr := Option.some.inj hg1
  exact hA1.now s1.ok _ rfl
 | _ => cases hg1
variable {es : List Expr} {gs : DA}
theorem zE : PDA X E [] aNil := by
 try unfold PDA at *
 refine PA.imp pa_nil fun σ H Q ⟨W, δ, rr, hS, hδ, hg, hA⟩ => ?_
 obtain rfl : Rs.ok [] W.S = rr := Option.some.inj hg
 exact hA.now hS [] rfl
theorem zB (ha : PDE X E e ga) (hr : PDA X E es gs) (hs : starEach (e :: es) X.env = (false, eval e X.env) :: starEach es X.env := by rfl) : PDA X E (e :: es) (yF ga gs) := by
 try unfold PDE at *
 try unfold PDA at *
 refine PA.imp (pa_cons ha hr hs) fun σ H Q ⟨W, δ, rr, hS, hδ, hg, hA⟩ => ?_
 refine Go.thn hS hδ hg hA fun d H1 W1 s1 hδ1 hg1 hA1 v rv => ?_
 refine Go.thn s1.ok hδ1 hg1 hA1 fun ds H2 W2 s2 hδ2 hg2 hA2 vs rvs => ?_
 obtain rfl : Rs.ok (d :: ds) W2.S = rr := Option.some.inj hg2
 exact hA2.now s2.ok _ ⟨v, vs, rfl, rv.mv (s2.mv s1.ok), rvs⟩
theorem sz {n : Nat} (h : n ≤ 1000000) : n ≤ sizeLine := Nat.le_trans h (by decide)
theorem Mv.heap {H : Hp} {W : Wd} {p : Addr} (hp : H p = none) (u : HO) : Mv H W (upd H p u) W := ⟨Nat.le_refl _, fun _ _ => rfl, fun b v e _ => by rw [zO (ne_of_none e hp)]; exact e⟩
theorem pd_tup {x1} (h : PDA X E es gs) : PDE X E (.Tuple es x1 pos) (fnE tupD gs) := by
 try unfold PDE at *
 try unfold PDA at *
 refine PE.imp (pe_tup h) fun σ H Q ⟨W, δ, rr, hS, hδ, hg, hA⟩ => ?_
 refine Go.thn hS hδ hg hA fun ds H1 W1 s1 hδ1 hg1 hA1 vs rvs => ?_
 unfold tupD at hg1
 split at hg1
 ·rename_i hl
  obtain rfl : Rs.ok (D.tup ds) W1.S = rr := Option.some.inj hg1
  refine ⟨by rw [← rvs.length]; exact sz (by omega), fun p hp => hA1 _ W1 rfl (Nxt.heap s1.ok hp _) _ ?_⟩
  exact ⟨p, vs, rfl, SqT.of zW, rvs.mv (Mv.heap hp _)⟩
 ·cases hg1
theorem new_lst {G : Gx} {H : Hp} {W : Wd} {E : XK} {rr : Rs D} {Q : VK} {ds : List D} {vs : List V} {p : Addr} (hS : StOk G H W) (hg : newO (.lst ds) W.S = some rr) (hA : After G E H W rr (VP G Q)) (rl : RepL G H W ds vs) (hp : H p = none) : Q (.ref p) (upd H p (.lst vs)) := by
 obtain rfl : Rs.ok (D.ref W.S.length) (W.S ++ [O.lst ds]) = rr := Option.some.inj hg
 refine hA _ (W.push p (.lst ds)) rfl (Nxt.alloc hS hp ⟨vs, zW, rl.mv (Mv.push (G := G) hp _ _)⟩) _ ⟨?_, ?_⟩
 ·simp [Wd.push]
 ·show V.ref p = .ref (if W.S.length = W.S.length then p else _)
  rw [if_pos rfl]
theorem pd_lst (h : PDA X E es gs) : PDE X E (.List es pos) (fnE lstD gs) := by
 try unfold PDE at *
 try unfold PDA at *
 refine PE.imp (pe_lst h) fun σ H Q ⟨W, δ, rr, hS, hδ, hg, hA⟩ => ?_
 refine Go.thn hS hδ hg hA fun ds H1 W1 s1 hδ1 hg1 hA1 vs rvs => ?_
 unfold lstD at hg1
 split at hg1
 ·rename_i hl
  exact ⟨by rw [← rvs.length]; exact sz (by omega), fun p hp => new_lst s1.ok hg1 hA1 rvs hp⟩
 ·cases hg1
def CallD (G : Gx) (r : List V → Hp → VK → Prop) (f : List D → Sto → R D) : Prop :=
 ∀ (E : XK) (H : Hp) (W : Wd) (vs : List V) (ds : List D) (Q : VK) (rr : Rs D), StOk G H W → RepL G H W ds vs → f ds W.S = some rr → After G E H W rr (VP G Q) → r vs H Q
theorem tF_call {r : List V → Hp → VK → Prop} {f : List D → Sto → R D} (hf : CallD (gx X) r f) : ∀ σ H Q, tF (gx X) E (fnE f gs) σ H Q → tCB r (tFA (gx X) E gs) σ H Q := by
 intro σ H Q ⟨W, δ, rr, hS, hδ, hg, hA⟩
 exact Go.thn hS hδ hg hA fun ds H1 W1 s1 hδ1 hg1 hA1 vs rvs => hf E H1 W1 vs ds Q rr s1.ok rvs hg1 hA1
theorem yA {x : Str} {id : String} {p : Pos} {r : List V → Hp → VK → Prop} {f : List D → Sto → R D} (hc : CallR X (.builtin id) r) (hf : CallD (gx X) r f) (hg : Gl X x) (hm : X.mg x = none) (hv : bootBuiltins x = some (.builtin id)) (ha : PDA X E (e :: es) gs) (hn : x ≠ "__name__" := by decide +kernel)
  (hdb : (x == ("__debug__" : Str)) = false := by decide +kernel) (he : starEach (e :: es) X.env = (false, eval e X.env) :: starEach es X.env := by rfl) (hpl : (backTo pos (starEach es X.env)).any (·.1) = false := by rfl) : PDE X E (.Call (.Name x p) (e :: es) [] pos) (fnE f gs) := by
 first
 | exact (
  PE.imp (pe_callB hc hg hm hv ha hn hdb he hpl) (tF_call hf))
 | ((try unfold PDE at *); (try unfold PDA at *); exact (
  PE.imp (pe_callB hc hg hm hv ha hn hdb he hpl) (tF_call hf)))
theorem pd_callTy {x : Str} {T : String} {p : Pos} {r : List V → Hp → VK → Prop} {f : List D → Sto → R D} (hc : CallR X (.type T) r) (hf : CallD (gx X) r f) (hg : Gl X x) (hm : X.mg x = none) (hv : bootBuiltins x = some (.type T)) (ha : PDA X E (e :: es) gs) (hn : x ≠ "__name__" := by decide +kernel)
  (hdb : (x == ("__debug__" : Str)) = false := by decide +kernel) (he : starEach (e :: es) X.env = (false, eval e X.env) :: starEach es X.env := by rfl) (hpl : (backTo pos (starEach es X.env)).any (·.1) = false := by rfl) : PDE X E (.Call (.Name x p) (e :: es) [] pos) (fnE f gs) := by
 first
 | exact (
  PE.imp (pe_callTy hc hg hm hv ha hn hdb he hpl) (tF_call hf))
 | ((try unfold PDE at *); (try unfold PDA at *); exact (
  PE.imp (pe_callTy hc hg hm hv ha hn hdb he hpl) (tF_call hf)))
def spF (G : Gx) (f : List D → Sto → R D) : Sp := fun vs H Q E => ∃ W ds rr, StOk G H W ∧ RepL G H W ds vs ∧ f ds W.S = some rr ∧ After G E H W rr (VP G Q)
theorem pd_fn {CX : CXT} {k : Nat} {fa : Addr} {fd : FuncData} {ps : List Str} {x : Str} {p : Pos} {f : List D → Sto → R D} (F : FnOk X.prog X.w X.K X.mg X.base CX k fa fd ps (spF (gx X) f)) (hr : Room k X.A) (hg : Gl X x) (hm : X.mg x = some (.ref fa)) (hk : PySem.W.keepIn X.K (.ref fa) = true)
  (hb : zV X.K fd ps []) (hx : Passes CX X E) (ha : PDA X E (e :: es) gs) (hdb : (x == ("__debug__" : Str)) = false := by decide +kernel) (he : starEach (e :: es) X.env = (false, eval e X.env) :: starEach es X.env := by rfl)
  (hpl : (backTo pos (starEach es X.env)).any (·.1) = false := by rfl) : PDE X E (.Call (.Name x p) (e :: es) [] pos) (fnE f gs) := by
 try unfold PDE at *
 try unfold PDA at *
 refine PE.imp (pe_call F hr hg hm hk hb .nil hx ha hdb he hpl) fun σ H Q ⟨W, δ, rr, hS, hδ, hg, hA⟩ => ?_
 exact Go.thn hS hδ hg hA fun as H1 W1 s1 hδ1 hg1 hA1 vs rvs => ⟨W1, as, rr, s1.ok, by rw [List.append_nil]; exact rvs, hg1, hA1⟩
theorem pd_ix {r : R2} {f : D → D → Sto → R D} (hr : IxR X r) (hf : OpD (gx X) r f) (ha : PDE X E a ga) (hb : PDE X E b gb) (hs : PlainIx b) : PDE X E (.Subscript a b pos) (op2 f ga gb) := by
 first
 | exact (
  PE.imp (pe_ix hr ha hb hs) (tF_op2 hf))
 | ((try unfold PDE at *); exact (
  PE.imp (pe_ix hr ha hb hs) (tF_op2 hf)))
end
section
variable {X : Cx} {E : XK} {st : Stmt} {rest : List Stmt} {e : Expr} {pos : Pos} {ge : DE} {gs gr : DSt} {t : DT}
theorem pds_nil : PDSs X E [] nxS := by
 try unfold PDSs at *
 refine PSs.imp pss_nil fun D σ H ⟨W, δ, rr, hS, hδ, hg, hA⟩ => ?_
 obtain rfl : Rs.ok (Fl.nx δ) W.S = rr := Option.some.inj hg
 exact hA.now hS σ hδ
theorem zJ (h : PDS X E st gs) : PDSs X E [st] gs := by
 first
 | exact (
  pss_one h)
 | ((try unfold PDS at *); (try unfold PDSs at *); exact (
  pss_one h))
theorem zD (h : PDS X E st gs) (hr : PDSs X E rest gr) : PDSs X E (st :: rest) (seqS gs gr) := by
 try unfold PDS at *
 try unfold PDSs at *
 refine PSs.imp (pss_cons h hr) fun D σ H ⟨W, δ, rr, hS, hδ, hg, hA⟩ => ?_
 refine Go.thn hS hδ hg hA fun f H1 W1 s1 hδ1 hg1 hA1 => ?_
 cases f with
 | nx δ' => exact fun σ' hδ' => ⟨W1, δ', rr, s1.ok, hδ', hg1, hA1⟩
 | rt d =>
  obtain rfl : Rs.ok (Fl.rt d) W1.S = rr := Option.some.inj hg1
  exact hA1.now s1.ok
 | bk δ' =>
  obtain rfl : Rs.ok (Fl.bk δ') W1.S = rr := Option.some.inj hg1
  exact hA1.now s1.ok
 | ct δ' =>
  obtain rfl : Rs.ok (Fl.ct δ') W1.S = rr := Option.some.inj hg1
  exact hA1.now s1.ok
theorem zP (he : PDE X E e ge) : PDS X E (.Return (some e) pos) (retS ge) := by
 try unfold PDE at *
 try unfold PDS at *
 refine PS.imp (ps_ret he) fun D σ H ⟨W, δ, rr, hS, hδ, hg, hA⟩ => ?_
 refine Go.thn hS hδ hg hA fun d H1 W1 s1 hδ1 hg1 hA1 v rv => ?_
 obtain rfl : Rs.ok (Fl.rt d) W1.S = rr := Option.some.inj hg1
 exact hA1.now s1.ok v rv
theorem pd_expr (he : PDE X E e ge) (hs : swapsWith e none pos.line X.env = pure false := by rfl) : PDS X E (.Expr e pos) (dropS ge) := by
 try unfold PDE at *
 try unfold PDS at *
 refine PS.imp (ps_expr he hs) fun D σ H ⟨W, δ, rr, hS, hδ, hg, hA⟩ => ?_
 refine Go.thn hS hδ hg hA fun d H1 W1 s1 hδ1 hg1 hA1 v rv => ?_
 obtain rfl : Rs.ok (Fl.nx δ) W1.S = rr := Option.some.inj hg1
 exact hA1.now s1.ok σ hδ1
theorem pd_if {c : Expr} {a b : List Stmt} {gb : DSt} (hc : PDT X E c t) (ha : PDSs X E a gs) (hb : PDSs X E b gb) : PDS X E (.If c a b pos) (ifS t gs gb) := by
 try unfold PDT at *
 try unfold PDS at *
 try unfold PDSs at *
 refine PS.imp (ps_if hc ha hb) fun D σ H ⟨W, δ, rr, hS, hδ, hg, hA⟩ => ?_
 refine Go.thn hS hδ hg hA fun k H1 W1 s1 hδ1 hg1 hA1 => ?_
 cases k with
 | true => exact ⟨W1, δ, rr, s1.ok, hδ1, hg1, hA1⟩
 | false => exact ⟨W1, δ, rr, s1.ok, hδ1, hg1, hA1⟩
theorem pd_never : PDS X E st nevS := by
 first
 | exact (
  PS.imp ps_never fun D σ H ⟨W, δ, rr, hS, hδ, hg, hA⟩ => by cases hg)
 | ((try unfold PDS at *); exact (
  PS.imp ps_never fun D σ H ⟨W, δ, rr, hS, hδ, hg, hA⟩ => by cases hg))
theorem zS (i : Nat) {x : Str} {pos' : Pos} (hN : X.N.Nodup) (he : PDE X E e ge) (hi : X.N[i]? = some x := by rfl) (hx : Loc X.env.scope x := by first | exact Or.inl rfl | exact Or.inr rfl) (hs : swapsWith e (some (.Name x pos')) pos.line X.env = pure false := by rfl)
  (hf : X.fn x = true ∨ X.env.scope.names.lookup x = some .local := by first | exact .inl rfl | exact .inr rfl | assumption) : PDS X E (.Assign [.Name x pos'] e pos) (setS i ge) := by
 try unfold PDE at *
 try unfold PDS at *
 refine PS.imp (ps_set hN hi hx he hs hf) fun D σ H ⟨W, δ, rr, hS, hδ, hg, hA⟩ => ?_
 refine Go.thn hS hδ hg hA fun d H1 W1 s1 hδ1 hg1 hA1 v rv => ?_
 obtain rfl : Rs.ok (Fl.nx (δ.set i (some d))) W1.S = rr := Option.some.inj hg1
 exact hA1.now s1.ok _ (hδ1.set i rv)
theorem pd_par (i j : Nat) {x y : Str} {a b : Expr} {ga gb : DE} {px py pt : Pos} {kt k2 pt2} (hc : X.calm = true) (hN : X.N.Nodup) (ha : PDE X E a ga) (hb : PDE X E b gb) (hi : X.N[i]? = some x := by rfl) (hj : X.N[j]? = some y := by rfl) (hij : i ≠ j := by decide)
  (hx : X.env.scope.names.lookup x = some .local := by rfl) (hy : X.env.scope.names.lookup y = some .local := by rfl)
  (hst : starEach (a :: [b]) X.env = (false, eval a X.env) :: starEach [b] X.env := by rfl) (hst2 : starEach (b :: []) X.env = (false, eval b X.env) :: starEach [] X.env := by rfl)
  (hw : swappedStores [.Tuple [.Name x px, .Name y py] kt pt] (.Tuple [a, b] k2 pt2) X.env = pure (some [x, y]) := by rfl)
  (hs : swapsWithSole [.Tuple [.Name x px, .Name y py] kt pt] (.Tuple [a, b] k2 pt2) pos.line X.env = pure false := by rfl) :
  PDS X E (.Assign [.Tuple [.Name x px, .Name y py] kt pt] (.Tuple [a, b] k2 pt2) pos) (parS i j ga gb) := by
 try unfold PDE at *
 try unfold PDS at *
 refine PS.imp (ps_par hc hN hi hj hij hx hy (pa_cons ha (pa_cons hb pa_nil hst2) hst) hw hs) fun D σ H ⟨W, δ, rr, hS, hδ, hg, hA⟩ => ?_
 refine Go.thn hS hδ hg hA fun d1 H1 W1 s1 hδ1 hg1 hA1 v1 rv1 => ?_
 refine Go.thn s1.ok hδ1 hg1 hA1 fun d2 H2 W2 s2 hδ2 hg2 hA2 v2 rv2 => ?_
 obtain rfl : Rs.ok (Fl.nx ((δ.set i (some d1)).set j (some d2))) W2.S = rr := Option.some.inj hg2
 exact ⟨v1, v2, rfl, hA2.now s2.ok _ ((hδ2.set i (rv1.mv (s2.mv s1.ok))).set j rv2)⟩
theorem zL (i : Nat) {x : Str} (hN : X.N.Nodup) (hi : X.N[i]? = some x := by rfl) (hx : Loc X.env.scope x := by first | exact Or.inl rfl | exact Or.inr rfl) (hf : X.fn x = true ∨ X.env.scope.names.lookup x = some .local := by first | exact .inl rfl | exact .inr rfl | assumption) :
  PDG X E (.Name x pos) (setG i) := by
 try unfold PDG at *
 intro pins s σ H v u Q I rv h
 obtain ⟨W, δ, d, rr, hS, hδ, hd, hg, hA⟩ := h
 obtain rfl : Rs.ok (δ.set i (some d)) W.S = rr := Option.some.inj hg
 exact pg_name hN hi hx hf pins s σ H v u Q I rv (hA.now hS _ (hδ.set i hd))
def tFGs (G : Gx) (E : XK) (gs : List DG) : TGs := fun vs σ H Q => ∃ W δ ds r, StOk G H W ∧ RepS G H W δ σ ∧ RepL G H W ds vs ∧ tupGs gs ds δ W.S = some r ∧ After G E H W r (fun δ' H' W' => ∀ σ', RepS G H' W' δ' σ' → Q σ' H')
@[irreducible] def PDGs (X : Cx) (E : XK) (ts : List Expr) (gs : List DG) : Prop := PGs X ts (tFGs (gx X) E gs)
theorem pdgs_nil : PDGs X E [] [] := by
 try unfold PDGs at *
 intro pins s σ H vs us Q I rv h
 obtain ⟨W, δ, ds, rr, hS, hδ, hd, hg, hA⟩ := h
 cases ds with
 | nil =>
  obtain rfl : Rs.ok δ W.S = rr := Option.some.inj hg
  have e : vs = [] := hd
  exact pgs_nil pins s σ H vs us Q I rv ⟨e, hA.now hS σ hδ⟩
 | cons d ds => cases hg
theorem zX {tg : Expr} {ts : List Expr} {g : DG} {gs : List DG} (h : PDG X E tg g) (hr : PDGs X E ts gs) (hs : (assignEach (tg :: ts) X.env).map (·.2) = assign tg X.env :: (assignEach ts X.env).map (·.2) := by rfl) : PDGs X E (tg :: ts) (g :: gs) := by
 try unfold PDGs at *
 try unfold PDG at *
 intro pins s σ H vs us Q I rv h'
 obtain ⟨W, δ, ds, rr, hS, hδ, hd, hg, hA⟩ := h'
 cases ds with
 | nil => cases hg
 | cons d ds =>
  obtain ⟨v, r, rfl, q, tl⟩ := hd
  refine pgs_cons h hr hs pins s σ H _ us Q I rv ⟨v, r, rfl, ?_⟩
  rcases bnd_some (show bnd (g d δ W.S) (tupGs gs ds) = some rr from hg) with ⟨δ1, S1, e1, q1⟩ | ⟨c, S1, e1, q1⟩
  ·exact ⟨W, δ, d, .ok δ1 S1, hS, hδ, q, e1, fun H1 W1 e s1 σ1 hδ1 => ⟨W1, δ1, ds, rr, s1.ok, hδ1, tl.mv (s1.mv hS), by rw [e]; exact q1, hA.nxt s1⟩⟩
  ·subst q1
   exact ⟨W, δ, d, .er c S1, hS, hδ, q, e1, hA⟩
theorem pdg_tup {ts : List Expr} {k : Nat} {gs : List DG} (hc : X.calm = true) (h : PDGs X E ts gs) (hn : (assignEach ts X.env).length = gs.length := by rfl) (hst : (assignEach ts X.env).findIdx? (·.1) = none := by rfl) : PDG X E (.Tuple ts k pos) (tupG gs) := by
 try unfold PDGs at *
 try unfold PDG at *
 intro pins s σ H v u Q I rv h'
 obtain ⟨W, δ, d, rr, hS, hδ, hd, hg, hA⟩ := h'
 cases d with
 | tup ds =>
  obtain ⟨a, xs, e, q, r⟩ := hd
  have hg' : (if ds.length = gs.length then tupGs gs ds δ W.S else none) = some rr := hg
  split at hg'
  ·rename_i l
   exact pg_tup (n := gs.length) hc h hn hst pins s σ H v u Q I rv ⟨a, xs, e, q, by rw [← r.length]; exact l, W, δ, ds, rr, hS, hδ, r, hg', hA⟩
  ·cases hg'
 | _ => cases hg
theorem pd_asg {tg : Expr} {g : DG} (he : PDE X E e ge) (hg : PDG X E tg g) (hs : swapsWithSole [tg] e pos.line X.env = pure false := by rfl) (hw : swappedStores [tg] e X.env = pure none := by rfl)
  (h1 : (assignEach [tg] X.env).map (·.2) = [assign tg X.env] := by rfl) : PDS X E (.Assign [tg] e pos) (asgS ge g) := by
 try unfold PDE at *
 try unfold PDS at *
 try unfold PDG at *
 refine PS.imp (ps_asg he hg hs hw h1) fun D σ H ⟨W, δ, rr, hS, hδ, hg, hA⟩ => ?_
 refine Go.thn hS hδ hg hA fun d H1 W1 s1 hδ1 hg1 hA1 v rv => ?_
 rcases bnd_some (show bnd (g d δ W1.S) nxS = some rr from hg1) with ⟨δ', S', e1, q⟩ | ⟨c, S', e1, q⟩
 ·obtain rfl : Rs.ok (Fl.nx δ') S' = rr := Option.some.inj q
  exact ⟨W1, δ, d, .ok δ' S', s1.ok, hδ1, rv, e1, fun H2 W2 e s2 σ2 hδ2 => hA1 H2 W2 e s2 σ2 hδ2⟩
 ·subst q
  exact ⟨W1, δ, d, .er c S', s1.ok, hδ1, rv, e1, hA1⟩
theorem pd_while {c : Expr} {body : List Stmt} (hp : PassesOwn (model X.prog X.w) X.A X.env X.xe) (hc : PDT X E c t) (hb : PDSs X E body gs) : PDS X E (.While c body [] pos) (whileS t gs) := by
 try unfold PDT at *
 try unfold PDS at *
 try unfold PDSs at *
 refine PS.imp (ps_while hp hc hb) fun D σ H ⟨W, δ, rr, hS, hδ, hg, hA⟩ => ?_
 obtain ⟨n, hg⟩ := whileS_some hg
 refine ⟨fun m σ1 H1 => ∃ W1 δ1, StOk (gx X) H1 W1 ∧ RepS (gx X) H1 W1 δ1 σ1 ∧ whileD t gs m δ1 W1.S = some rr ∧ After (gx X) E H1 W1 rr (SV (gx X) D), ⟨n, W, δ, hS, hδ, hg, hA⟩, ?_⟩
 rintro m σ1 H1 ⟨W1, δ1, hS1, hδ1, hg1, hA1⟩
 cases m with
 | zero => cases hg1
 | succ m =>
  refine Go.thn hS1 hδ1 hg1 hA1 fun k H2 W2 s2 hδ2 hg2 hA2 => ?_
  cases k with
  | false =>
   obtain rfl : Rs.ok (Fl.nx δ1) W2.S = rr := Option.some.inj hg2
   exact hA2.now s2.ok σ1 hδ2
  | true =>
   refine ⟨fun σ3 H3 => ∃ W3 δ3, StOk (gx X) H3 W3 ∧ RepS (gx X) H3 W3 δ3 σ3 ∧ whileD t gs m δ3 W3.S = some rr ∧ After (gx X) E H3 W3 rr (SV (gx X) D), fun σ3 H3 h3 => ⟨m, Nat.lt_succ_self m, h3⟩, ?_⟩
   refine Go.thn s2.ok hδ2 hg2 hA2 fun f H3 W3 s3 hδ3 q hA3 => ?_
   cases f with
   | nx δ3 => exact fun σ3 h3 => ⟨W3, δ3, s3.ok, h3, q, hA3⟩
   | ct δ3 => exact fun σ3 h3 => ⟨W3, δ3, s3.ok, h3, q, hA3⟩
   | bk δ3 =>
    obtain rfl : Rs.ok (Fl.nx δ3) W3.S = rr := Option.some.inj q
    exact fun σ3 h3 => hA3.now s3.ok σ3 h3
   | rt d =>
    obtain rfl : Rs.ok (Fl.rt d) W3.S = rr := Option.some.inj q
    exact fun v rv => hA3.now s3.ok v rv
def Walks (G : Gx) (J : It) (H : Hp) (W : Wd) (src : Src) : Prop :=
 ∀ (i : Nat) (H1 : Hp) (W1 : Wd), Nxt G H W H1 W1 → (src.get W1.S i = some none → J.stop i H1) ∧ ∀ d, src.get W1.S i = some (some d) → J.go i H1 ∧ ∀ x H2, J.yld i H1 x H2 → ∃ W2, W2.S = W1.S ∧ Nxt G H1 W1 H2 W2 ∧ Rep G H2 W2 d x
def tFI (G : Gx) (E : XK) (g : DI) : TI := fun σ H R => Go G E g (fun src H' W' => ∀ J, Walks G J H' W' src → R J H') σ H
@[irreducible] def PDI (X : Cx) (E : XK) (tg iter : Expr) (g : DI) : Prop := PI X tg iter (tFI (gx X) E g)
theorem forD_cases {src : Src} {g : DG} {b : DSt} {n i : Nat} {δ : DS} {S : Sto} {r : Rs Fl} (h : forD src g b n i δ S = some r) :
  (src.get S i = some none ∧ r = .ok (.nx δ) S) ∨ ∃ x m, n = m + 1 ∧ src.get S i = some (some x) ∧ bnd (g x δ S) (turnK b (forD src g b m (i + 1))) = some r := by
 cases n with
 | zero =>
  unfold forD at h
  split at h
  ·rename_i e
   exact .inl ⟨e, (Option.some.inj h).symm⟩
  ·cases h
 | succ n =>
  unfold forD at h
  split at h
  ·rename_i e
   exact .inl ⟨e, (Option.some.inj h).symm⟩
  ·rename_i x e
   exact .inr ⟨x, n, rfl, e, h⟩
  ·cases h
theorem pd_for {tg iter : Expr} {body : List Stmt} {gi : DI} {g : DG} (hp : PassesOwn (model X.prog X.w) X.A X.env X.xe) (hc : X.calm = true) (hi : PDI X E tg iter gi) (hg : PDG X E tg g) (hb : PDSs X E body gs)
  (hs : ∀ x, foldedSetIterable iter X.env x = pure x := by intro _; rfl) : PDS X E (.For tg iter body [] pos) (forS gi g gs) := by
 try unfold PDS at *
 try unfold PDSs at *
 try unfold PDG at *
 try unfold PDI at *
 refine PS.imp (ps_for hp hc hi hg hb hs) fun D σ H ⟨W, δ, rr, hS, hδ, hg, hA⟩ => ?_
 refine Go.thn hS hδ hg hA fun src H1 W1 s1 hδ1 q hA1 J hJ => ?_
 refine ⟨fun i m σ2 H2 => ∃ W2, Nxt (gx X) H1 W1 H2 W2 ∧ ∃ δ2, RepS (gx X) H2 W2 δ2 σ2 ∧ forD src g gs m i δ2 W2.S = some rr ∧ After (gx X) E H2 W2 rr (SV (gx X) D), ⟨src.len W1.S, W1, .rfl s1.ok, δ, hδ1, q, hA1⟩, ?_⟩
 rintro i m σ2 H2 ⟨W2, s2, δ2, hδ2, hg2, hA2⟩
 obtain ⟨w1, w2⟩ := hJ i H2 W2 s2
 rcases forD_cases hg2 with ⟨e, rfl⟩ | ⟨d, m, rfl, e, hg2⟩
 ·exact .inl ⟨w1 e, hA2.now s2.ok σ2 hδ2⟩
 ·obtain ⟨wg, wy⟩ := w2 d e
  refine .inr ⟨wg, fun σ' H' => ∃ W', Nxt (gx X) H1 W1 H' W' ∧ ∃ δ', RepS (gx X) H' W' δ' σ' ∧ forD src g gs m (i + 1) δ' W'.S = some rr ∧ After (gx X) E H' W' rr (SV (gx X) D), fun σ' H' h' => ⟨m, Nat.lt_succ_self m, h'⟩, fun x H3 y => ?_⟩
  obtain ⟨W3, e3, s3, rx⟩ := wy x H3 y
  rcases bnd_some hg2 with ⟨δ4, S4, e4, q4⟩ | ⟨c, S4, e4, q4⟩
  ·refine ⟨W3, δ2, d, .ok δ4 S4, s3.ok, hδ2.mv (s3.mv s2.ok), rx, by rw [e3]; exact e4, fun H4 W4 eS4 s4 σ4 hδ4 => ?_⟩
   refine Go.thn s4.ok hδ4 (by rw [eS4]; exact q4) ((hA2.nxt s3).nxt s4) fun f H5 W5 s5 hδ5 q5 hA5 => ?_
   have s15 := (s2.trans s3).trans (s4.trans s5)
   cases f with
   | nx δ5 => exact fun σ5 h5 => ⟨W5, s15, δ5, h5, q5, hA5⟩
   | ct δ5 => exact fun σ5 h5 => ⟨W5, s15, δ5, h5, q5, hA5⟩
   | bk δ5 =>
    obtain rfl : Rs.ok (Fl.nx δ5) W5.S = rr := Option.some.inj q5
    exact fun σ5 h5 => hA5.now s5.ok σ5 h5
   | rt d =>
    obtain rfl : Rs.ok (Fl.rt d) W5.S = rr := Option.some.inj q5
    exact fun v rv => hA5.now s5.ok v rv
  ·subst q4
   exact ⟨W3, δ2, d, .er c S4, s3.ok, hδ2.mv (s3.mv s2.ok), rx, by rw [e3]; exact e4, hA2.nxt s3⟩
theorem Src.one_some {a : Nat} {S : Sto} {i : Nat} {o : Option D} (h : (Src.one a).get S i = some o) : ∃ ds, zH S a = some ds ∧ ds[i]? = o := by
 have h' : (match zH S a with | some xs => some xs[i]? | none => none) = some o := h
 cases q : zH S a with
 | none => rw [q] at h'; cases h'
 | some ds => rw [q] at h'; exact ⟨ds, rfl, Option.some.inj h'⟩
theorem walks_list {G : Gx} {H : Hp} {W : Wd} {a : Nat} (ha : a < W.S.length) : Walks G (Itl G.K (W.μ a)) H W (.one a) := fun i H1 W1 s1 => by
 refine ⟨fun h => ?_, fun d hd => ?_⟩
 ·obtain ⟨ds, e, hn⟩ := Src.one_some h
  obtain ⟨xs, ex, q, rl⟩ := s1.ok.lst (v := .ref (W1.μ a)) ⟨Nat.lt_of_lt_of_le ha s1.len, rfl⟩ e
  rw [s1.old a ha] at q
  exact ⟨xs, .inl (.inl q), by rw [← rl.length]; exact List.getElem?_eq_none_iff.mp hn⟩
 ·obtain ⟨ds, e, hn⟩ := Src.one_some hd
  obtain ⟨xs, ex, q, rl⟩ := s1.ok.lst (v := .ref (W1.μ a)) ⟨Nat.lt_of_lt_of_le ha s1.len, rfl⟩ e
  rw [s1.old a ha] at q
  obtain ⟨x, hx, rx⟩ := rl.get hn
  refine ⟨⟨xs, x, .inl (.inl q), hx⟩, fun y H3 hy => ?_⟩
  obtain ⟨e3, hy⟩ := hy
  subst e3
  have := hy xs (.inl (.inl q))
  rw [hx] at this
  cases this
  exact ⟨W1, rfl, .rfl s1.ok, rx⟩
theorem walks_scr {G : Gx} {H : Hp} {W : Wd} {a : Addr} {ds : List D} {xs : List V} (hS : StOk G H W) (q : Sc G.K H a xs) (rl : RepL G H W ds xs) : Walks G (Itl G.K a) H W (.fix ds) := fun i H1 W1 s1 => by
 have q1 : Sc G.K H1 a xs := (s1.mv hS).sc q
 have rl1 := rl.mv (s1.mv hS)
 refine ⟨fun h => ?_, fun d hd => ?_⟩
 ·have h : ds[i]? = none := Option.some.inj h
  exact ⟨xs, q1.sq, by rw [← rl.length]; exact List.getElem?_eq_none_iff.mp h⟩
 ·have hd : ds[i]? = some d := Option.some.inj hd
  obtain ⟨x, hx, rx⟩ := rl1.get hd
  refine ⟨⟨xs, x, q1.sq, hx⟩, fun y H3 hy => ?_⟩
  obtain ⟨e3, hy⟩ := hy
  subst e3
  have := hy xs q1.sq
  rw [hx] at this
  cases this
  exact ⟨W1, rfl, .rfl s1.ok, rx⟩
theorem pdi_list {tg l : Expr} {gl : DE} (hl : PDE X E l gl) : PDI X E tg l (itE itL gl) := by
 try unfold PDE at *
 try unfold PDI at *
 intro pins s σ H R I ⟨W, δ, rr, hS, hδ, hg, hA⟩
 refine pi_list hl pins s σ H R I (Go.thn hS hδ hg hA fun d H1 W1 s1 hδ1 hg1 hA1 v rv => ?_)
 cases d with
 | ref a =>
  have hg1 : (match zH W1.S a with | some _ => ok (.one a) W1.S | none => none) = some rr := hg1
  cases q : zH W1.S a with
  | none => rw [q] at hg1; cases hg1
  | some ds =>
   rw [q] at hg1
   obtain rfl : Rs.ok (Src.one a) W1.S = rr := Option.some.inj hg1
   obtain ⟨xs, ex, qx, rl⟩ := s1.ok.lst rv q
   exact ⟨W1.μ a, ex, ⟨xs, .inl (.inl qx)⟩, hA1.now s1.ok _ (walks_list rv.1)⟩
 | scr ds =>
  obtain rfl : Rs.ok (Src.fix ds) W1.S = rr := Option.some.inj hg1
  obtain ⟨a, xs, e, q, rl⟩ := rv
  exact ⟨a, e, ⟨xs, q.sq⟩, hA1.now s1.ok _ (walks_scr s1.ok q rl)⟩
 | _ => cases hg1
theorem intsD_get : ∀ (n : Nat) (lo : Int) (i : Nat) (d : D), (intsD lo n)[i]? = some d → i < n ∧ d = .int (lo + i)
 | 0, _, _, _, h => by simp [intsD] at h
 | n + 1, lo, 0, d, h => by
  simp [intsD] at h
  exact ⟨Nat.succ_pos n, by rw [← h]; simp⟩
 | n + 1, lo, i + 1, d, h => by
  simp only [intsD, List.getElem?_cons_succ] at h
  obtain ⟨h1, h2⟩ := intsD_get n (lo + 1) i d h
  refine ⟨Nat.succ_lt_succ h1, ?_⟩
  rw [h2]
  congr 1
  omega
theorem intsD_length : ∀ (n : Nat) (lo : Int), (intsD lo n).length = n
 | 0, _ => rfl
 | n + 1, lo => by simp [intsD, intsD_length n]
theorem walks_ints {G : Gx} {H : Hp} {W : Wd} (lo : Int) (n : Nat) : Walks G (Itr lo n) H W (.fix (intsD lo n)) := fun i H1 W1 s1 =>
 ⟨fun h => by
  have h : (intsD lo n)[i]? = none := Option.some.inj h
  have := List.getElem?_eq_none_iff.mp h
  rw [intsD_length] at this
  exact this, fun d hd => by
  obtain ⟨h1, h2⟩ := intsD_get n lo i d (Option.some.inj hd)
  refine ⟨h1, fun x H2 hy => ?_⟩
  obtain ⟨e, hx⟩ := hy
  subst e
  subst h2
  exact ⟨W1, rfl, .rfl s1.ok, hx⟩⟩
theorem pdi_range1 {tg a : Expr} {ga : DE} {p pos : Pos} (hg : Gl X "range") (hm : X.mg "range" = none) (ha : PDE X E a ga) (hs : starEach [a] X.env = [(false, eval a X.env)] := by rfl) (hst : starEach (a :: []) X.env = (false, eval a X.env) :: starEach [] X.env := by rfl) :
  PDI X E tg (.Call (.Name "range" p) [a] [] pos) (itA rng1D (yF ga aNil)) := by
 try unfold PDI at *
 intro pins s σ H R I ⟨W, δ, rr, hS, hδ, hg', hA⟩
 refine pi_range1 hg hm (zB ha zE hst).o hs pins s σ H R I (Go.thn hS hδ hg' hA fun ds H1 W1 s1 hδ1 hg1 hA1 vs rv => ?_)
 have hlim := lim_eq
 unfold rng1D at hg1
 split at hg1
 ·rename_i n
  split at hg1
  ·obtain ⟨v, r, e, q, t⟩ := rv
   have q : v = .int n := q
   have t : r = [] := t
   subst e q t
   obtain rfl : Rs.ok (Src.fix (intsD 0 n.toNat)) W1.S = rr := Option.some.inj hg1
   exact ⟨n, rfl, by omega, by omega, hA1.now s1.ok _ (walks_ints 0 n.toNat)⟩
  ·cases hg1
 ·cases hg1
end
mutual
def Bd (n : Nat) : D → Prop
 | .ref i => i < n
 | .tup ds => BdL n ds
 | .scr ds => BdL n ds
 | _ => True
def BdL (n : Nat) : List D → Prop
 | [] => True
 | d :: ds => Bd n d ∧ BdL n ds
end
mutual
def mapD (ρ : Nat → Nat) : D → D
 | .ref i => .ref (ρ i)
 | .tup ds => .tup (mapL ρ ds)
 | .scr ds => .scr (mapL ρ ds)
 | .non => .non
 | .bl b => .bl b
 | .int i => .int i
 | .str x => .str x
 | .exc c => .exc c
def mapL (ρ : Nat → Nat) : List D → List D
 | [] => []
 | d :: ds => mapD ρ d :: mapL ρ ds
end
def BdO (n : Nat) : O → Prop
 | .lst ds => BdL n ds
 | .dct kvs => kvs = []
 | .ins _ fs => BdL n (fs.map (·.2))
def mapO (ρ : Nat → Nat) : O → O
 | .lst ds => .lst (mapL ρ ds)
 | .dct kvs => .dct kvs
 | .ins c fs => .ins c (fs.map fun p => (p.1, mapD ρ p.2))
mutual
theorem Rep.bd {G : Gx} {H : Hp} {W : Wd} : ∀ {d : D} {v : V}, Rep G H W d v → Bd W.S.length d
 | .ref i, _, h => h.1
 | .tup ds, _, h => by obtain ⟨a, xs, _, _, r⟩ := h; exact RepL.bd r
 | .scr ds, _, h => by obtain ⟨a, xs, _, _, r⟩ := h; exact RepL.bd r
 | .non, _, _ => trivial
 | .bl _, _, _ => trivial
 | .int _, _, _ => trivial
 | .str _, _, _ => trivial
 | .exc _, _, _ => trivial
theorem RepL.bd {G : Gx} {H : Hp} {W : Wd} : ∀ {ds : List D} {vs : List V}, RepL G H W ds vs → BdL W.S.length ds
 | [], _, _ => trivial
 | d :: ds, _, h => by obtain ⟨v, r, _, q, t⟩ := h; exact ⟨Rep.bd q, RepL.bd t⟩
end
theorem RepO.bd {G : Gx} {H : Hp} {W : Wd} {a : Addr} {o : O} (h : RepO G H W a o) : BdO W.S.length o := by
 cases o with
 | lst ds => obtain ⟨xs, _, r⟩ := h; exact r.bd
 | dct kvs => exact h.1
 | ins c fs => obtain ⟨_, _, _, _, _, _, r⟩ := h; exact r.bd
mutual
theorem Rep.back {G : Gx} {H : Hp} {W : Wd} {S' : Sto} (ρ : Nat → Nat) : ∀ {d : D} {v : V}, Bd S'.length d → Rep G H W (mapD ρ d) v → Rep G H ⟨fun i => W.μ (ρ i), S'⟩ d v
 | .ref i, _, b, h => ⟨b, h.2⟩
 | .tup ds, _, b, h => by obtain ⟨a, xs, e, q, r⟩ := h; exact ⟨a, xs, e, q, RepL.back ρ b r⟩
 | .scr ds, _, b, h => by obtain ⟨a, xs, e, q, r⟩ := h; exact ⟨a, xs, e, q, RepL.back ρ b r⟩
 | .non, _, _, h => h
 | .bl _, _, _, h => h
 | .int _, _, _, h => h
 | .str _, _, _, h => h
 | .exc _, _, _, h => h
theorem RepL.back {G : Gx} {H : Hp} {W : Wd} {S' : Sto} (ρ : Nat → Nat) : ∀ {ds : List D} {vs : List V}, BdL S'.length ds → RepL G H W (mapL ρ ds) vs → RepL G H ⟨fun i => W.μ (ρ i), S'⟩ ds vs
 | [], _, _, h => h
 | d :: ds, _, b, h => by obtain ⟨v, r, e, q, t⟩ := h; exact ⟨v, r, e, Rep.back ρ b.1 q, RepL.back ρ b.2 t⟩
end
theorem mapL_map (ρ : Nat → Nat) : ∀ ds : List D, mapL ρ ds = ds.map (mapD ρ)
 | [] => by simp [mapL]
 | d :: ds => by simp [mapL, mapL_map ρ ds]
theorem RepO.back {G : Gx} {H : Hp} {W : Wd} {S' : Sto} {a : Addr} (ρ : Nat → Nat) {o : O} (b : BdO S'.length o) (h : RepO G H W a (mapO ρ o)) : RepO G H ⟨fun i => W.μ (ρ i), S'⟩ a o := by
 cases o with
 | lst ds => obtain ⟨xs, e, r⟩ := h; exact ⟨xs, e, r.back ρ b⟩
 | dct kvs => exact h
 | ins c fs =>
  obtain ⟨C, dx, ps, m, e, n, r⟩ := h
  refine ⟨C, dx, ps, m, e, by rw [n, List.map_map]; rfl, RepL.back ρ b ?_⟩
  rw [mapL_map]
  rw [List.map_map] at r ⊢
  exact r
structure Emb (n : Nat) (ρ : Nat → Nat) (S' S1 : Sto) : Prop where
 len : n ≤ S'.length
 fix : ∀ i, i < n → ρ i = i
 inj : ∀ i j, i < S'.length → j < S'.length → ρ i = ρ j → i = j
 get : ∀ i o, S'[i]? = some o → S1[ρ i]? = some (mapO ρ o) ∧ BdO S'.length o
def Em (n : Nat) : Rs D → Rs D → Prop
 | .ok d S', .ok d1 S1 => ∃ ρ, Emb n ρ S' S1 ∧ Bd S'.length d ∧ d1 = mapD ρ d
 | .er c S', .er c1 S1 => c1 = c ∧ ∃ ρ, Emb n ρ S' S1
 | _, _ => False
theorem Emb.nxt {G : Gx} {H H1 : Hp} {W W1 : Wd} {S' : Sto} {ρ : Nat → Nat} (e : Emb W.S.length ρ S' W1.S) (s : Nxt G H W H1 W1) : Nxt G H W H1 ⟨fun i => W1.μ (ρ i), S'⟩ := by
 have hlt : ∀ i, i < S'.length → ρ i < W1.S.length := fun i hi => by
  have := (e.get i S'[i] (by simp [hi])).1
  exact (List.getElem?_eq_some_iff.mp this).1
 refine ⟨⟨fun i j hi hj h => e.inj i j hi hj (s.ok.inj _ _ (hlt i hi) (hlt j hj) h), fun i o h => ?_⟩, e.len, fun i hi => ?_, fun i h1 h2 => ?_, s.frm⟩
 ·obtain ⟨g1, g2⟩ := e.get i o h
  exact (s.ok.get _ _ g1).back ρ g2
 ·show W1.μ (ρ i) = _
  rw [e.fix i hi]
  exact s.old i hi
 ·show H (W1.μ (ρ i)) = none
  refine s.new _ ?_ (hlt i h2)
  by_cases hz : ρ i < W.S.length
  ·have h3 := e.fix _ hz
   have := e.inj (ρ i) i (Nat.lt_of_lt_of_le hz e.len) h2 h3
   omega
  ·exact Nat.le_of_not_lt hz
def Wf (S : Sto) (ds : List D) : Prop := (∀ (i : Nat) (o : O), S[i]? = some o → BdO S.length o) ∧ BdL S.length ds
structure FunG (K : PySem.W.Frag) (x qual : Str) (st : Stmt) (f : Addr) (fd : FuncData) : Prop where
 ex : ∃ (dV oc : Value) (od : Option Addr) (kV doc pm : Value) (an : Option Addr) (cdv ct : Value) (osl : Array (Option Value)),
  fd = PySem.W.fnOf x qual (zI st) (zG st) (zC st) dV kV doc pm an cdv ct ∧ K.lookup f = some ⟨oc, od, .func fd, osl⟩ ∧ PySem.W.codeIn K cdv qual = true
theorem FunG.ok {P : Program} {w : World} {K : PySem.W.Frag} {mg : Str → Option Value} {base : Heap} {x qual : Str} {st : Stmt} {f : Addr} {fd : FuncData} {N ps : List Str} {k : Nat} {sp : Sp} (F : FunG K x qual st f fd) (S : zN N ps (zC st)) (len : ∀ vs H Q E, sp vs H Q E → vs.length = ps.length)
  (hbody : ∀ (cdv : Value) (A : Around) (outer : List Env) (s : Shared) (H : Hp) (vs : List V) (Q : VK) (E : XK), Room k (A.deeper (envOfC qual (zC st) s.heap.objs.size f cdv)) → sp vs H Q E →
   ∃ t, PSs (cxOf CX0 P w K mg base N qual (zC st) f cdv A outer s H E).nox (zG st) t ∧ t { nx := fun _ H' => Q .non H', rt := Q } (start N vs) H) : FnOk P w K mg base CX0 (k + 1) f fd ps sp := by
 obtain ⟨dV, oc, od, kV, doc, pm, an, cdv, ct, osl, rfl, lk, hcd⟩ := F.ex
 refine fn_of lk hcd S len fun A outer s H vs Q E hr hsp => ?_
 obtain ⟨t, h, q⟩ := hbody cdv A outer s H vs Q E hr hsp
 exact ⟨t, h.nox, q⟩
theorem _root_.L2.Fun.g {K : PySem.W.Frag} {x qual : Str} {st : Stmt} {f : Addr} {fd : FuncData} (F : Fun K x qual st f fd) : FunG K x qual st f fd :=
 ⟨let ⟨oc, od, kV, doc, pm, an, cdv, ct, osl, h1, h2, h3⟩ := F.ex; ⟨.none, oc, od, kV, doc, pm, an, cdv, ct, osl, h1, h2, h3⟩⟩
structure FunD (K : PySem.W.Frag) (x qual : Str) (st : Stmt) (f : Addr) (fd : FuncData) (T : Addr) (items : Array Value) : Prop where
 ex : ∃ (oc : Value) (od : Option Addr) (kV doc pm : Value) (an : Option Addr) (cdv ct : Value) (osl : Array (Option Value)),
  fd = PySem.W.fnOf x qual (zI st) (zG st) (zC st) (.ref T) kV doc pm an cdv ct ∧ K.lookup f = some ⟨oc, od, .func fd, osl⟩ ∧ PySem.W.codeIn K cdv qual = true
 tup : ∃ o n, K.lookup T = some o ∧ o.data = .seq items n
theorem FunD.g {K : PySem.W.Frag} {x qual : Str} {st : Stmt} {f : Addr} {fd : FuncData} {T : Addr} {items : Array Value} (F : FunD K x qual st f fd T items) : FunG K x qual st f fd :=
 ⟨let ⟨oc, od, kV, doc, pm, an, cdv, ct, osl, h1, h2, h3⟩ := F.ex; ⟨.ref T, oc, od, kV, doc, pm, an, cdv, ct, osl, h1, h2, h3⟩⟩
theorem fn_den {P : Program} {w : World} {K : PySem.W.Frag} {mg : Str → Option Value} {base : Heap} {x qual : Str} {st : Stmt} {fa : Addr} {fd : FuncData} {N ps : List Str} {k : Nat} {f : List D → Sto → R D} {g : DSt} (F : FunG K x qual st fa fd) (S : zN N ps (zC st))
  (hlen : ∀ ds S rr, f ds S = some rr → ds.length = ps.length)
  (hg : ∀ ds S r, Wf S ds → f ds S = some r → ∃ r1, outF (g (startD N.length ds) S) = some r1 ∧ (r1 = r ∨ Em S.length r r1)) (hno : ∀ ds S c S', f ds S ≠ er c S')
  (hbody : ∀ (cdv : Value) (A : Around) (outer : List Env) (s : Shared) (H : Hp), Room k (A.deeper (envOfC qual (zC st) s.heap.objs.size fa cdv)) →
   PDSs (cxOf CX0 P w K mg base N qual (zC st) fa cdv A outer s H E0).nox E0 (zG st) g) : FnOk P w K mg base CX0 (k + 1) fa fd ps (spF ⟨K, mg⟩ f) := by
 try unfold PDSs at *
 refine F.ok S (fun vs H Q E h => ?_) (fun cdv A outer s H vs Q E hr h => ?_)
 ·obtain ⟨W, ds, rr, _, rl, e, _⟩ := h
  rw [← rl.length]
  exact hlen ds _ rr e
 ·obtain ⟨W, ds, rr, hS, rl, e, hA⟩ := h
  refine ⟨_, hbody cdv A outer s H hr, ?_⟩
  cases rr with
  | er c S' => exact absurd e (hno ds _ c S')
  | ok d S' =>
   obtain ⟨r1, q, hem⟩ := hg ds W.S _ ⟨fun i o h => (hS.get i o h).bd, rl.bd⟩ e
   have fin : ∀ d1 S1, r1 = .ok d1 S1 → ∀ H1 W1, W1.S = S1 → Nxt ⟨K, mg⟩ H W H1 W1 → ∀ v, Rep ⟨K, mg⟩ H1 W1 d1 v → Q v H1 := by
    intro d1 S1 e1 H1 W1 eS s1 v rv
    subst e1
    rcases hem with hem | hem
    ·cases hem
     exact hA H1 W1 eS s1 v rv
    ·obtain ⟨ρ, em, bd, rfl⟩ := hem
     subst eS
     exact hA H1 ⟨fun i => W1.μ (ρ i), S'⟩ rfl (em.nxt s1) v (rv.back ρ bd)
   cases z : g (startD N.length ds) W.S with
   | none => rw [z] at q; cases q
   | some r =>
    refine ⟨W, startD N.length ds, r, hS, RepS.start N rl, z, ?_⟩
    rw [z] at q
    cases r with
    | er c S1 =>
     cases q
     rcases hem with hem | hem
     ·cases hem
     ·exact hem.elim
    | ok fl S1 =>
     cases fl with
     | nx δ =>
      obtain rfl : Rs.ok D.non S1 = r1 := Option.some.inj q
      exact fun H1 W1 eS s1 σ1 hδ1 => fin _ _ rfl H1 W1 eS s1 .non rfl
     | rt d' =>
      obtain rfl : Rs.ok d' S1 = r1 := Option.some.inj q
      exact fun H1 W1 eS s1 v rv => fin _ _ rfl H1 W1 eS s1 v rv
     | bk δ => cases q
     | ct δ => cases q
theorem noer_some {α : Type} {m : R α} {r : Rs α} (h : noer m = some r) : ∃ a S, m = ok a S ∧ r = .ok a S := by
 cases m with
 | none => cases h
 | some m =>
  cases m with
  | ok a S => cases h; exact ⟨a, S, rfl, rfl⟩
  | er c S => cases h
theorem fn_F {P : Program} {w : World} {K : PySem.W.Frag} {mg : Str → Option Value} {base : Heap} {x qual : Str} {st : Stmt} {fa : Addr} {fd : FuncData} {N ps : List Str} {k : Nat} {g : DSt} (F : FunG K x qual st fa fd) (S : zN N ps (zC st))
  (hbody : ∀ (cdv : Value) (A : Around) (outer : List Env) (s : Shared) (H : Hp), Room k (A.deeper (envOfC qual (zC st) s.heap.objs.size fa cdv)) →
   PDSs (cxOf CX0 P w K mg base N qual (zC st) fa cdv A outer s H E0).nox E0 (zG st) g) : FnOk P w K mg base CX0 (k + 1) fa fd ps (spF ⟨K, mg⟩ (fnF N.length ps.length g)) := by
 refine fn_den (g := g) F S (fun ds S rr e => ?_) (fun ds S r _ e => ?_) (fun ds S c S' e => ?_) hbody
 ·unfold fnF at e
  split at e
  ·assumption
  ·cases e
 ·unfold fnF at e
  split at e
  ·obtain ⟨a, S1, e1, e2⟩ := noer_some e
   exact ⟨_, e1, .inl e2.symm⟩
  ·cases e
 ·unfold fnF at e
  split at e
  ·obtain ⟨a, S1, e1, e2⟩ := noer_some e
   cases e2
  ·cases e
theorem fn_N {P : Program} {w : World} {K : PySem.W.Frag} {mg : Str → Option Value} {base : Heap} {x qual : Str} {st : Stmt} {fa : Addr} {fd : FuncData} {N ps : List Str} {k : Nat} (n m : Nat) (g : DSt) {f : List D → Sto → R D} (hf : f = fnF n m g) (F : FunG K x qual st fa fd) (S : zN N ps (zC st)) (hn : N.length = n) (hm : ps.length = m)
  (hbody : ∀ (cdv : Value) (A : Around) (outer : List Env) (s : Shared) (H : Hp), Room k (A.deeper (envOfC qual (zC st) s.heap.objs.size fa cdv)) →
   PDSs (cxOf CX0 P w K mg base N qual (zC st) fa cdv A outer s H E0).nox E0 (zG st) g) : FnOk P w K mg base CX0 (k + 1) fa fd ps (spF ⟨K, mg⟩ f) := by
 subst hf hn hm
 exact fn_F F S hbody
end Np
end
section
namespace Np
open PySem PySem.Spec PyProof.Rows L2
section
variable {X : Cx} {E : XK} {G : Gx}
theorem opD_int {C : Int → Int → Prop} {g : Int → Int → Int} {f : D → D → Sto → R D} (hf : ∀ dx dy S rr, f dx dy S = some rr → ∃ i j, dx = .int i ∧ dy = .int j ∧ C i j ∧ rr = .ok (.int (g i j)) S) : OpD G (rI C fun i j => .int (g i j)) f := by
 intro E H W x y dx dy Q rr hS rx ry e hA
 obtain ⟨i, j, rfl, rfl, c, rfl⟩ := hf dx dy _ rr e
 exact ⟨i, j, rx, ry, c, hA.now hS _ rfl⟩
theorem opD_cmp {g : Int → Int → Bool} {f : D → D → Sto → R D} (hf : ∀ dx dy S rr, f dx dy S = some rr → ∃ i j, dx = .int i ∧ dy = .int j ∧ rr = .ok (.bl (g i j)) S) : OpD G (rI0 fun i j => .bl (g i j)) f := by
 intro E H W x y dx dy Q rr hS rx ry e hA
 obtain ⟨i, j, rfl, rfl, rfl⟩ := hf dx dy _ rr e
 exact ⟨i, j, rx, ry, hA.now hS _ rfl⟩
def rAddD : R2 := fun x y H Q => rI0 (fun i j => .int (i + j)) x y H Q ∨ (∃ i j, x = .str i ∧ y = .str j ∧ i.length + j.length ≤ sizeLine ∧ Q (.str (i ++ j)) H) ∨ rCat x y H Q
theorem op_addX : OpR X (binaryOp .Add) rAddD := OpR.or op_add (OpR.or op_add_str op_cat)
theorem od_add : OpD G rAddD addD := by
 intro E H W x y dx dy Q rr hS rx ry e hA
 unfold addD at e
 split at e
 ·rename_i i j
  obtain rfl : Rs.ok (D.int (i + j)) W.S = rr := Option.some.inj e
  exact .inl ⟨i, j, rx, ry, hA.now hS _ rfl⟩
 ·rename_i i j
  split at e
  ·rename_i hl
   obtain rfl : Rs.ok (D.str (i ++ j)) W.S = rr := Option.some.inj e
   exact .inr (.inl ⟨i, j, rx, ry, sz hl, hA.now hS _ rfl⟩)
  ·cases e
 ·rename_i a b
  unfold catD at e
  split at e
  ·rename_i xs ys hx hy
   split at e
   ·rename_i hl
    obtain ⟨us, ea, qa, ra⟩ := hS.lst rx hx
    obtain ⟨ws, eb, qb, rb⟩ := hS.lst ry hy
    exact .inr (.inr ⟨_, _, us, ws, ea, eb, .inl qa, .inl qb, by rw [← ra.length, ← rb.length]; exact sz hl, fun p hp => new_lst hS e hA (ra.append rb) hp⟩)
   ·cases e
  ·cases e
 ·cases e
theorem od_sub : OpD G (rI0 fun i j => .int (i - j)) subD := by
 intro E H W x y dx dy Q rr hS rx ry e hA
 unfold subD at e
 split at e
 ·rename_i i j
  obtain rfl : Rs.ok (D.int (i - j)) W.S = rr := Option.some.inj e
  exact ⟨i, j, rx, ry, hA.now hS _ rfl⟩
 ·cases e
def CBits (i j : Int) : Prop := i.natAbs.log2 + j.natAbs.log2 ≤ 100000000
theorem CBits.ok {i j : Int} (h : CBits i j) : IntMulOk i j := by
 have hb : ∀ k : Int, Builtin.Int.intBits k ≤ k.natAbs.log2 + 1 := fun k => by
  unfold Builtin.Int.intBits
  split <;> omega
 refine PyProof.Rows.mulOk_of_bits (m := i.natAbs.log2 + 1) (n := j.natAbs.log2 + 1) (hb i) (hb j) ?_
 have h' : i.natAbs.log2 + j.natAbs.log2 ≤ 100000000 := h
 omega
theorem op_mulB : OpR X (binaryOp .Mult) (rI CBits fun i j => .int (i * j)) := opI fun _ _ _ _ _ _ _ hc q => mul_int q hc.ok
def rMulD : R2 := fun x y H Q => rI CBits (fun i j => .int (i * j)) x y H Q ∨ rRep x y H Q
theorem op_mulX : OpR X (binaryOp .Mult) rMulD := OpR.or op_mulB op_rep
theorem RepL.rep {H : Hp} {W : Wd} {ds : List D} {vs : List V} (h : RepL G H W ds vs) : ∀ k : Nat, RepL G H W (List.replicate k ds).flatten (List.replicate k vs).flatten
 | 0 => rfl
 | k + 1 => by
  rw [List.replicate_succ, List.replicate_succ, List.flatten_cons, List.flatten_cons]
  exact h.append (RepL.rep h k)
theorem od_mul : OpD G rMulD mulD := by
 intro E H W x y dx dy Q rr hS rx ry e hA
 unfold mulD at e
 split at e
 ·rename_i i j
  split at e
  ·rename_i hl
   obtain rfl : Rs.ok (D.int (i * j)) W.S = rr := Option.some.inj e
   exact .inl ⟨i, j, rx, ry, hl, hA.now hS _ rfl⟩
  ·cases e
 ·rename_i a k
  unfold repD at e
  split at e
  ·rename_i xs hx
   split at e
   ·rename_i hl
    obtain ⟨hl, h1, h2⟩ := hl
    obtain ⟨us, ea, qa, ra⟩ := hS.lst rx hx
    exact .inr ⟨_, k, us, ea, ry, .inl qa, by omega, by omega, by rw [← ra.length]; exact sz hl, fun p hp => new_lst hS e hA (ra.rep k.toNat) hp⟩
   ·cases e
  ·cases e
 ·cases e
theorem room_pylong {k : Nat} {pins : List (Addr × Obj)} {σ : L2.St} {H : Hp} {s : Shared} (I : Inv X pins σ H s) (hr : Room k X.A) (ht : X.prog.given.tree = none) (hst : X.stack = X.env :: X.outer) (hgen : X.env.scope.isGenerator = false) (hco : X.env.scope.isCoroutine = false) :
  PySem.PylongRoom (model X.prog X.w) X.A s := by
 refine PySem.PylongRoom.of (I.mod.nolimit.keeps I.bk) ?_ (PySem.SeerAt.of (I.mod.seer.keeps I.bk) ht (by rw [I.ok.frames, hst]) hgen hco I.ok.blt I.ok.glob)
 have := hr.dp
 show X.A.depth + 100 < recursionLimit
 omega
theorem op_fdivX {k : Nat} (hr : Room k X.A) (ht : X.prog.given.tree = none) (hst : X.stack = X.env :: X.outer) (hgen : X.env.scope.isGenerator = false) (hco : X.env.scope.isCoroutine = false) : OpR X (binaryOp .FloorDiv) (rI (fun _ j => j ≠ 0) fun i j => .int (i.fdiv j)) := by
 intro pins s σ H x y v u Q I rx ry h
 obtain ⟨i, j, rfl, rfl, hc, q⟩ := h
 obtain ⟨t, rfl⟩ := rx
 obtain ⟨t', rfl⟩ := ry
 exact floordiv_int hc ⟨.int _, H, I.tok _, ⟨_, rfl⟩, q⟩ (.inr (room_pylong I hr ht hst hgen hco))
theorem od_fdiv : OpD G (rI (fun _ j => j ≠ 0) fun i j => .int (i.fdiv j)) fdivD := opD_int fun dx dy S rr e => by
 unfold fdivD at e
 split at e
 ·rename_i i j
  split at e
  ·cases e
  ·rename_i h
   exact ⟨i, j, rfl, rfl, h, (Option.some.inj e).symm⟩
 ·cases e
theorem od_mod : OpD G (rI (fun _ j => j ≠ 0) fun i j => .int (i.fmod j)) modD := opD_int fun dx dy S rr e => by
 unfold modD at e
 split at e
 ·rename_i i j
  split at e
  ·cases e
  ·rename_i h
   exact ⟨i, j, rfl, rfl, h, (Option.some.inj e).symm⟩
 ·cases e
theorem od_pow : OpD G (rI CPow fun i j => .int (i ^ j.toNat)) powD := opD_int fun dx dy S rr e => by
 unfold powD at e
 split at e
 ·rename_i i j
  split at e
  ·rename_i h
   exact ⟨i, j, rfl, rfl, ⟨h.1.1, by omega, by omega⟩, (Option.some.inj e).symm⟩
  ·cases e
 ·cases e
theorem ud_neg : UnD G (rU fun i => .int (-i)) negD := by
 intro E H W x dx Q rr hS rx e hA
 unfold negD at e
 split at e
 ·rename_i i
  obtain rfl : Rs.ok (D.int (-i)) W.S = rr := Option.some.inj e
  exact ⟨i, rx, hA.now hS _ rfl⟩
 ·cases e
theorem cd_abs : CallD G (fun xs H Q => ∃ i, xs = [.int i] ∧ Q (.int (if i < 0 then -i else i)) H) absD := by
 intro E H W vs ds Q rr hS rl e hA
 unfold absD at e
 split at e
 ·rename_i i
  obtain rfl : Rs.ok (D.int (if i < 0 then -i else i)) W.S = rr := Option.some.inj e
  obtain ⟨v, r, rfl, q, t⟩ := rl
  have q : v = .int i := q
  have t : r = [] := t
  subst q t
  exact ⟨i, rfl, hA.now hS _ rfl⟩
 ·cases e
mutual
def toPy : T → PyData
 | .non => .none
 | .bl b => .bool b
 | .int i => .int i
 | .str x => .str x
 | .tup ds => .tuple (toPys ds)
 | .lst ds => .list (toPys ds)
def toPys : List T → List PyData
 | [] => []
 | d :: ds => toPy d :: toPys ds
end
mutual
theorem eqT_py : ∀ (d e : T), PyData.eqv (toPy d) (toPy e) = eqT d e
 | .non, e => by cases e <;> simp [toPy, PyData.eqv, eqT]
 | .bl _, e => by cases e <;> simp [toPy, PyData.eqv, eqT]
 | .int _, e => by cases e <;> simp [toPy, PyData.eqv, eqT]
 | .str _, e => by cases e <;> simp [toPy, PyData.eqv, eqT]
 | .tup ds, e => by
  cases e with
  | tup es => simp only [toPy, PyData.eqv, eqT]; exact eqTs_py ds es
  | _ => simp [toPy, PyData.eqv, eqT]
 | .lst ds, e => by
  cases e with
  | lst es => simp only [toPy, PyData.eqv, eqT]; exact eqTs_py ds es
  | _ => simp [toPy, PyData.eqv, eqT]
theorem eqTs_py : ∀ (ds es : List T), PyData.eqvAll (toPys ds) (toPys es) = eqTs ds es
 | [], [] => by simp [toPys, PyData.eqvAll, eqTs]
 | [], _ :: _ => by simp [toPys, PyData.eqvAll, eqTs]
 | _ :: _, [] => by simp [toPys, PyData.eqvAll, eqTs]
 | d :: ds, e :: es => by simp only [toPys, PyData.eqvAll, eqTs, eqT_py d e, eqTs_py ds es]
end
def Seen (s : Shared) (n : Nat) (t : T) (u : Value) : Prop := (toPy t).canLay0 = true ∧ (toPy t).depth ≤ n ∧ ∃ as, Reads s.heap u (toPy t) as
def Seens (s : Shared) (n : Nat) (ts : List T) (us : List Value) : Prop := PyData.canLayAll0 (toPys ts) = true ∧ PyData.depthAll (toPys ts) ≤ n ∧ ∃ as, ReadsAll s.heap us (toPys ts) as
theorem seens {pins : List (Addr × Obj)} {σ : L2.St} {H : Hp} {W : Wd} {s : Shared} (I : Inv X pins σ H s) {n : Nat} {S : Sto} (ih : ∀ {d : D} {v : V} {u : Value} {t : T}, rd n S d = some t → Rep (gx X) H W d v → RelV v u → Seen s n t u) :
  ∀ {ds : List D} {vs : List V} {us : List Value} {ts : List T}, rdl (rd n S) ds = some ts → RepL (gx X) H W ds vs → Vals vs us → Seens s n ts us
 | [], _, _, _, h, r, q => by
  cases r; cases q
  obtain rfl := Option.some.inj h
  exact ⟨by simp [toPys, PyData.canLayAll0], by simp [toPys, PyData.depthAll], _, ReadsAll.nil⟩
 | d :: ds, _, _, _, h, r, q => by
  obtain ⟨v, vs, rfl, rd1, rl⟩ := r
  cases q with
  | cons q1 q2 =>
   unfold rdl at h
   split at h
   ·rename_i t ts h1 h2
    obtain rfl := Option.some.inj h
    obtain ⟨a1, a2, as, a3⟩ := ih h1 rd1 q1
    obtain ⟨b1, b2, bs, b3⟩ := seens I ih h2 rl q2
    refine ⟨?_, ?_, _, ReadsAll.cons a3 b3⟩
    ·simp only [toPys, PyData.canLayAll0, a1, b1, Bool.and_self]
    ·simp only [toPys, PyData.depthAll]
     omega
   ·cases h
theorem seen {pins : List (Addr × Obj)} {σ : L2.St} {H : Hp} {W : Wd} {s : Shared} (I : Inv X pins σ H s) (hS : StOk (gx X) H W) : ∀ {n : Nat} {d : D} {v : V} {u : Value} {t : T}, rd n W.S d = some t → Rep (gx X) H W d v → RelV v u → Seen s n t u
 | n, .non, _, _, t0, h, r, q => by
  cases r; cases q
  have h : some T.non = some t0 := by cases n <;> exact h
  obtain rfl := Option.some.inj h
  exact ⟨by simp [toPy, PyData.canLay0], by simp [toPy, PyData.depth], _, Reads.none⟩
 | n, .bl b, _, _, t0, h, r, q => by
  cases r; cases q
  have h : some (T.bl b) = some t0 := by cases n <;> exact h
  obtain rfl := Option.some.inj h
  exact ⟨by simp [toPy, PyData.canLay0], by simp [toPy, PyData.depth], _, Reads.bool b⟩
 | n, .int i, _, _, t0, h, r, q => by
  cases r
  obtain ⟨t, rfl⟩ := q
  have h : some (T.int i) = some t0 := by cases n <;> exact h
  obtain rfl := Option.some.inj h
  exact ⟨by simp [toPy, PyData.canLay0], by simp [toPy, PyData.depth], _, Reads.int i t⟩
 | n, .str i, _, _, t0, h, r, q => by
  cases r
  obtain ⟨t, rfl⟩ := q
  have h : (if i.cps.all (· < 0x110000) = true then some (T.str i) else none) = some t0 := by cases n <;> exact h
  split at h
  ·rename_i hc
   obtain rfl := Option.some.inj h
   have h' : PyData.strOk i = true := by simpa [PyData.strOk] using hc
   exact ⟨by simp [toPy, PyData.canLay0, h'], by simp [toPy, PyData.depth], _, Reads.str i t⟩
  ·cases h
 | 0, .tup _, _, _, _, h, _, _ => by cases h
 | 0, .ref _, _, _, _, h, _, _ => by cases h
 | n + 1, .tup ds, _, _, t0, h, r, q => by
  obtain ⟨a, xs, rfl, hq, rl⟩ := r
  cases q
  obtain ⟨its, rv, ⟨o, ho, hc, k, hd⟩, hz⟩ := I.tuple hq
  have h : (rdl (rd n W.S) ds).map T.tup = some t0 := h
  cases hts : rdl (rd n W.S) ds with
  | none => rw [hts] at h; cases h
  | some ts =>
   rw [hts] at h
   obtain rfl := Option.some.inj h
   obtain ⟨b1, b2, as, b3⟩ := seens I (fun h r q => seen I hS h r q) hts rl rv
   refine ⟨?_, ?_, _, reads_tuple_at ho hc hd (by simpa using b3)⟩
   ·simp only [toPy, PyData.canLay0, b1]
   ·simp only [toPy, PyData.depth]
    omega
 | n + 1, .ref i, _, _, t0, h, r, q => by
  have h : (match zH W.S i with | some ds => (rdl (rd n W.S) ds).map T.lst | none => none) = some t0 := h
  cases hl : zH W.S i with
  | none => rw [hl] at h; cases h
  | some ds =>
   rw [hl] at h
   have h : (rdl (rd n W.S) ds).map T.lst = some t0 := h
   obtain ⟨xs, ex, hq, rl⟩ := hS.lst r hl
   subst ex
   cases q
   obtain ⟨z, its, k, rv, hl', e⟩ := I.lstM hq
   cases hts : rdl (rd n W.S) ds with
   | none => rw [hts] at h; cases h
   | some ts =>
    rw [hts] at h
    obtain rfl := Option.some.inj h
    obtain ⟨b1, b2, as, b3⟩ := seens I (fun h r q => seen I hS h r q) hts rl rv
    refine ⟨?_, ?_, _, reads_list_at e rfl rfl (by simpa using b3)⟩
    ·simp only [toPy, PyData.canLay0, b1]
    ·simp only [toPy, PyData.depth]
     omega
 | n, .exc _, _, _, _, h, _, _ => by cases n <;> cases h
 | n, .scr _, _, _, _, h, _, _ => by cases n <;> cases h
theorem Seen.shaped {s : Shared} {t : T} {u : Value} (h : Seen s 9 t u) : SeqAt.shaped (toPy t) = true := by
 unfold SeqAt.shaped
 rw [h.1, Bool.true_and]
 exact decide_eq_true (by have := h.2.1; omega)
def rEqD (G : Gx) (neg : Bool) : R2 := fun x y H Q => ∃ W d e t u, StOk G H W ∧ Rep G H W d x ∧ Rep G H W e y ∧ rd 9 W.S d = some t ∧ rd 9 W.S e = some u ∧ Q (.bl (if neg = true then !eqT t u else eqT t u)) H
theorem op_eqX {k : Nat} (hr : Room k X.A) : OpR X (compareOp .Eq) (rEqD (gx X) false) := by
 intro pins s σ H x y v u Q I rx ry h
 obtain ⟨W, d, e, t, t', hS, rd1, re, pd, pe, q⟩ := h
 have sa := seen I hS pd rd1 rx
 have sb := seen I hS pe re ry
 obtain ⟨as, ra⟩ := sa.2.2
 obtain ⟨bs, rb⟩ := sb.2.2
 refine eq_dataH ra rb sa.shaped sb.shaped hr.units ?_
 rw [eqT_py]
 exact ⟨.bl _, H, I, rfl, q⟩
theorem op_neX {k : Nat} (hr : Room k X.A) : OpR X (compareOp .NotEq) (rEqD (gx X) true) := by
 intro pins s σ H x y v u Q I rx ry h
 obtain ⟨W, d, e, t, t', hS, rd1, re, pd, pe, q⟩ := h
 have sa := seen I hS pd rd1 rx
 have sb := seen I hS pe re ry
 obtain ⟨as, ra⟩ := sa.2.2
 obtain ⟨bs, rb⟩ := sb.2.2
 refine ne_dataH ra rb sa.shaped sb.shaped hr.units ?_
 rw [eqT_py]
 exact ⟨.bl _, H, I, rfl, q⟩
theorem od_eqK (neg : Bool) : OpD G (rEqD G neg) (fun x y S => eqK neg S (rd 9 S x) (rd 9 S y)) := by
 intro E H W x y dx dy Q rr hS rx ry e hA
 have e : eqK neg W.S (rd 9 W.S dx) (rd 9 W.S dy) = some rr := e
 cases h1 : rd 9 W.S dx with
 | none => rw [h1] at e; cases e
 | some t =>
  cases h2 : rd 9 W.S dy with
  | none => rw [h1, h2] at e; cases e
  | some u =>
   rw [h1, h2] at e
   obtain rfl : Rs.ok (D.bl (if neg = true then !eqT t u else eqT t u)) W.S = rr := Option.some.inj e
   exact ⟨W, dx, dy, t, u, hS, rx, ry, h1, h2, hA.now hS _ rfl⟩
theorem od_eq : OpD G (rEqD G false) eqD := od_eqK false
theorem od_ne : OpD G (rEqD G true) neD := od_eqK true
theorem od_lt : OpD G (rI0 fun i j => .bl (decide (i < j))) ltD := opD_cmp fun dx dy S rr e => by
 unfold ltD at e
 split at e
 ·exact ⟨_, _, rfl, rfl, (Option.some.inj e).symm⟩
 ·cases e
theorem od_le : OpD G (rI0 fun i j => .bl (decide (i ≤ j))) leD := opD_cmp fun dx dy S rr e => by
 unfold leD at e
 split at e
 ·exact ⟨_, _, rfl, rfl, (Option.some.inj e).symm⟩
 ·cases e
theorem od_gt : OpD G (rI0 fun i j => .bl (decide (j < i))) gtD := opD_cmp fun dx dy S rr e => by
 unfold gtD at e
 split at e
 ·exact ⟨_, _, rfl, rfl, (Option.some.inj e).symm⟩
 ·cases e
theorem od_ge : OpD G (rI0 fun i j => .bl (decide (j ≤ i))) geD := opD_cmp fun dx dy S rr e => by
 unfold geD at e
 split at e
 ·exact ⟨_, _, rfl, rfl, (Option.some.inj e).symm⟩
 ·cases e
def rIxD (K : PySem.W.Frag) : R2 := fun x y H Q => rIxL K x y H Q ∨ rIxT K x y H Q
theorem ix_X : IxR X (rIxD X.K) := ix_list.or ix_tup
theorem ixA_at {α : Type} {xs : List α} {i : Int} : (ixA xs.length i).bind (fun j => xs[j]?) = atI xs i := by
 unfold atI ixA ixN
 rfl
theorem at_rep {H : Hp} {W : Wd} {ds : List D} {vs : List V} {i : Int} {d : D} (rl : RepL G H W ds vs) (h : (ixA ds.length i).bind (fun j => ds[j]?) = some d) : ∃ v, atI vs i = some v ∧ Rep G H W d v := by
 rw [← ixA_at]
 rw [rl.length] at h
 cases z : ixA vs.length i with
 | none => rw [z] at h; cases h
 | some j =>
  rw [z] at h
  obtain ⟨v, hv, rv⟩ := rl.get (i := j) (d := d) h
  exact ⟨v, hv, rv⟩
theorem ixK_some {o : Option (List D)} {i : Int} {S : Sto} {rr : Rs D} (h : ixK o i S = some rr) : ∃ xs d, o = some xs ∧ (ixA xs.length i).bind (fun j => xs[j]?) = some d ∧ rr = .ok d S := by
 unfold ixK at h
 split at h
 ·rename_i xs
  split at h
  ·rename_i d hd
   exact ⟨xs, d, rfl, hd, (Option.some.inj h).symm⟩
  ·cases h
 ·cases h
theorem zU : OpD G (rIxD G.K) ixD := by
 intro E H W x y dx dy Q rr hS rx ry e hA
 unfold ixD at e
 split at e
 ·rename_i xs i
  obtain ⟨xs', d, e0, hd, rfl⟩ := ixK_some e
  cases e0
  obtain ⟨a, us, ea, qa, ra⟩ := rx
  obtain ⟨v, hv, rv⟩ := at_rep ra hd
  exact .inr ⟨a, us, i, v, ea, ry, qa, hv, hA.now hS _ rv⟩
 ·rename_i a i
  obtain ⟨xs', d, e0, hd, rfl⟩ := ixK_some e
  obtain ⟨us, ea, qa, ra⟩ := hS.lst rx e0
  obtain ⟨v, hv, rv⟩ := at_rep ra hd
  exact .inl ⟨_, us, i, v, ea, ry, .inl (.inl qa), hv, hA.now hS _ rv⟩
 ·rename_i xs i
  obtain ⟨xs', d, e0, hd, rfl⟩ := ixK_some e
  cases e0
  obtain ⟨a, us, ea, qa, ra⟩ := rx
  obtain ⟨v, hv, rv⟩ := at_rep ra hd
  exact .inl ⟨a, us, i, v, ea, ry, qa.sq, hv, hA.now hS _ rv⟩
 ·cases e
def rLenD (K : PySem.W.Frag) : List V → Hp → VK → Prop := fun xs H Q => (∃ p ys, xs = [.ref p] ∧ (SqL K H p ys ∨ SqT K H p ys) ∧ Q (.int ys.length) H) ∨ ∃ z, xs = [.str z] ∧ z.length ≤ sizeLine ∧ Q (.int z.length) H
theorem call_lenX : CallR X (.builtin "len") (rLenD X.K) := CallR.or call_len_seq call_len_str
theorem cd_len : CallD G (rLenD G.K) lenD := by
 intro E H W vs ds Q rr hS rl e hA
 unfold lenD at e
 split at e
 ·rename_i xs
  obtain rfl : Rs.ok (D.int xs.length) W.S = rr := Option.some.inj e
  obtain ⟨v, r, rfl, ⟨a, us, rfl, qa, ra⟩, t⟩ := rl
  have t : r = [] := t
  subst t
  exact .inl ⟨a, us, rfl, .inl qa.sq, by rw [← ra.length]; exact hA.now hS _ rfl⟩
 ·rename_i xs
  obtain rfl : Rs.ok (D.int xs.length) W.S = rr := Option.some.inj e
  obtain ⟨v, r, rfl, ⟨a, us, rfl, qa, ra⟩, t⟩ := rl
  have t : r = [] := t
  subst t
  exact .inl ⟨a, us, rfl, .inr qa, by rw [← ra.length]; exact hA.now hS _ rfl⟩
 ·rename_i a
  unfold lenK at e
  split at e
  ·rename_i xs hx
   obtain rfl : Rs.ok (D.int xs.length) W.S = rr := Option.some.inj e
   obtain ⟨v, r, rfl, rx, t⟩ := rl
   obtain ⟨us, ea, qa, ra⟩ := hS.lst rx hx
   have t : r = [] := t
   subst t ea
   exact .inl ⟨_, us, rfl, .inl (.inl (.inl qa)), by rw [← ra.length]; exact hA.now hS _ rfl⟩
  ·cases e
 ·rename_i z
  split at e
  ·rename_i hl
   obtain rfl : Rs.ok (D.int z.length) W.S = rr := Option.some.inj e
   obtain ⟨v, r, rfl, q, t⟩ := rl
   have q : v = .str z := q
   have t : r = [] := t
   subst q t
   exact .inr ⟨z, rfl, sz hl, hA.now hS _ rfl⟩
  ·cases e
 ·cases e
def kdT : Kd → String
 | .int => "int"
 | .bool => "bool"
 | .str => "str"
 | .lst => "list"
 | .tup => "tuple"
theorem call_isi (k : Kd) : CallR X (.builtin "isinstance") (fun xs H Q => ∃ W x d b, xs = [x, .ty (kdT k)] ∧ StOk (gx X) H W ∧ Rep (gx X) H W d x ∧ isK k d W.S = some b ∧ Q (.bl b) H) := by
 intro pins s σ H xs us Q I r h
 obtain ⟨W, x, d, b, rfl, hS, rd, hb, q⟩ := h
 obtain ⟨u, w, rfl, rx, rw'⟩ := Vals.two r
 cases rw'
 have qT : ∀ tk, EP X pins σ Q (.bool b) { s with toks := tk } := fun tk => ⟨.bl b, H, I.tok tk, rfl, q⟩
 have qS : EP X pins σ Q (.bool b) s := ⟨.bl b, H, I, rfl, q⟩
 cases d with
 | non =>
  cases rd; cases rx
  cases k <;> cases hb <;> first
   | exact PySem.IsiNone.NoneType_int (qT _)
   | exact PySem.IsiNone.NoneType_bool (qT _)
   | exact PySem.IsiNone.NoneType_str (qT _)
   | exact PySem.IsiNone.NoneType_list (qT _)
   | exact PySem.IsiNone.NoneType_tuple (qT _)
   | exact PySem.IsiPair.NoneType_int (qT _)
   | exact PySem.IsiPair.NoneType_bool (qT _)
   | exact PySem.IsiPair.NoneType_str (qT _)
   | exact PySem.IsiPair.NoneType_list (qT _)
   | exact PySem.IsiPair.NoneType_tuple (qT _)
 | bl c =>
  cases rd; cases rx
  cases k <;> cases hb <;> first
   | exact PySem.IsiPair.bool_int qS
   | exact PySem.IsiPair.bool_bool qS
   | exact PySem.IsiPair.bool_str (qT _)
   | exact PySem.IsiPair.bool_list (qT _)
   | exact PySem.IsiPair.bool_tuple (qT _)
 | int i =>
  cases rd
  obtain ⟨t, rfl⟩ := rx
  cases k <;> cases hb <;> first
   | exact PySem.IsiPair.int_int qS
   | exact PySem.IsiPair.int_bool (qT _)
   | exact PySem.IsiPair.int_str (qT _)
   | exact PySem.IsiPair.int_list (qT _)
   | exact PySem.IsiPair.int_tuple (qT _)
 | str i =>
  cases rd
  obtain ⟨t, rfl⟩ := rx
  cases k <;> cases hb <;> first
   | exact PySem.IsiPair.str_int (qT _)
   | exact PySem.IsiPair.str_bool (qT _)
   | exact PySem.IsiPair.str_str qS
   | exact PySem.IsiPair.str_list (qT _)
   | exact PySem.IsiPair.str_tuple (qT _)
 | tup ds =>
  obtain ⟨a, ys, rfl, hq, rl⟩ := rd
  cases rx
  obtain ⟨its, rv, ⟨o, ho, hc, kk, hd⟩, hz⟩ := I.tuple hq
  have ty : s.TypeIs (.ref a) "tuple" := ⟨o, ho, hc⟩
  cases k <;> cases hb <;> first
   | exact call_isinstance (isinstance_true (Tx := "tuple") F.isi_meta_tuple F.sub_tuple_tuple) ⟨ty, qS⟩
   | exact call_isinstance (isinstance_true (Tx := "tuple") F.isi_meta_tuple isi_sub_tuple) ⟨ty, qS⟩
   | exact call_isinstance (isinstance_false_tuple (by decide +kernel) F.isi_meta_int F.sub_tuple_int) ⟨ty, qT _⟩
   | exact call_isinstance (isinstance_false_tuple (by decide +kernel) F.isi_meta_bool F.sub_tuple_bool) ⟨ty, qT _⟩
   | exact call_isinstance (isinstance_false_tuple (by decide +kernel) F.isi_meta_str F.sub_tuple_str) ⟨ty, qT _⟩
   | exact call_isinstance (isinstance_false_tuple (by decide +kernel) F.isi_meta_list F.sub_tuple_list) ⟨ty, qT _⟩
 | ref a =>
  have hl : (∃ ds, zH W.S a = some ds ∧ b = decide (k = .lst)) ∨ ∃ kvs, W.S[a]? = some (.dct kvs) ∧ b = false := by
   unfold zH
   cases k <;> (simp only [isK] at hb; split at hb <;> first | (rename_i heq; cases hb; first | (refine .inl ?_; rw [heq]; exact ⟨_, rfl, by decide⟩) | exact .inr ⟨_, heq, rfl⟩) | cases hb)
  rcases hl with hl | ⟨kvs, hl, eb⟩
  rotate_left
  ·obtain ⟨_, hq⟩ := hS.get a _ hl
   have ea : x = .ref (W.μ a) := rd.2
   subst ea
   cases rx
   obtain ⟨_, _, vs, _, p⟩ := (show ObjOk X.prog X.w H s.heap (W.μ a) (.dK []) from I.hok _ _ hq)
   obtain ⟨o, es, ep, h1, h2, _⟩ := p
   have ty : s.TypeIs (.ref (W.μ a)) "dict" := ⟨o, h1, h2.1⟩
   subst eb
   cases k <;> first
    | exact call_isinstance (isinstance_false_dict (by decide +kernel) F.isi_meta_int F.sub_dict_int) ⟨ty, qT _⟩
    | exact call_isinstance (isinstance_false_dict (by decide +kernel) F.isi_meta_bool F.sub_dict_bool) ⟨ty, qT _⟩
    | exact call_isinstance (isinstance_false_dict (by decide +kernel) F.isi_meta_str F.sub_dict_str) ⟨ty, qT _⟩
    | exact call_isinstance (isinstance_false_dict (by decide +kernel) F.isi_meta_list F.sub_dict_list) ⟨ty, qT _⟩
    | exact call_isinstance (isinstance_false_dict (by decide +kernel) F.isi_meta_tuple F.sub_dict_tuple) ⟨ty, qT _⟩
  obtain ⟨ds, hl, eb⟩ := hl
  obtain ⟨ys, ea, hq, rl⟩ := hS.lst rd hl
  subst ea
  cases rx
  obtain ⟨z, its, kk, rv, hl, e⟩ := I.lstM hq
  have ty : s.TypeIs (.ref (W.μ a)) "list" := ⟨_, e, rfl⟩
  subst eb
  cases k <;> first
   | exact call_isinstance (isinstance_true (Tx := "list") F.isi_meta_list F.sub_list_list) ⟨ty, qS⟩
   | exact call_isinstance (isinstance_false_list (by decide +kernel) F.isi_meta_int F.sub_list_int) ⟨ty, qT _⟩
   | exact call_isinstance (isinstance_false_list (by decide +kernel) F.isi_meta_bool F.sub_list_bool) ⟨ty, qT _⟩
   | exact call_isinstance (isinstance_false_list (by decide +kernel) F.isi_meta_str F.sub_list_str) ⟨ty, qT _⟩
   | exact call_isinstance (isinstance_false_list (by decide +kernel) F.isi_meta_tuple F.sub_list_tuple) ⟨ty, qT _⟩
 | exc c => cases k <;> cases hb
 | scr _ => cases k <;> cases hb
theorem pd_isi (k : Kd) {e : Expr} {ge : DE} {p p2 pos : Pos} {T : Str} (hT : bootBuiltins T = some (.type (kdT k))) (hg : Gl X "isinstance") (hm : X.mg "isinstance" = none) (hgT : Gl X T) (hmT : X.mg T = none) (he : PDE X E e ge)
  (hv : bootBuiltins "isinstance" = some (.builtin "isinstance") := by decide +kernel) (hnT : T ≠ "__name__" := by decide +kernel) (hdT : (T == ("__debug__" : Str)) = false := by decide +kernel)
  (hst : starEach (e :: [.Name T p2]) X.env = (false, eval e X.env) :: starEach [.Name T p2] X.env := by rfl) (hst2 : starEach (.Name T p2 :: []) X.env = (false, eval (.Name T p2) X.env) :: starEach [] X.env := by rfl)
  (hpl : (backTo pos (starEach [.Name T p2] X.env)).any (·.1) = false := by rfl) :
  PDE X E (.Call (.Name "isinstance" p) [e, .Name T p2] [] pos) (op1 (isiD k) ge) := by
 try unfold PDE at *
 refine PE.imp (pe_callB (call_isi k) hg hm hv (pa_cons he (pa_cons (pe_bltn (v := .ty (kdT k)) hgT hmT hT rfl hnT hdT) pa_nil hst2) hst) (by decide +kernel) (by decide +kernel) hst hpl) fun σ H Q ⟨W, δ, rr, hS, hδ, hg', hA⟩ => ?_
 refine Go.thn hS hδ hg' hA fun d H1 W1 s1 hδ1 hg1 hA1 v rv => ?_
 unfold isiD at hg1
 split at hg1
 ·rename_i b hb
  obtain rfl : Rs.ok (D.bl b) W1.S = rr := Option.some.inj hg1
  exact ⟨W1, v, d, b, rfl, s1.ok, rv, hb, hA1.now s1.ok _ rfl⟩
 ·cases hg1
end
end Np
end
section
namespace Np
open PySem PySem.Spec PyProof.Rows L2
def clOf : List (Str × NameKind) → List (Str × Addr) → List (Str × Addr) → List (Str × Addr)
 | [], _, cs => cs
 | (n, k) :: r, cells, cs => clOf r cells (if k = .free then (match cells.lookup n with | some c => (n, c) :: cs | none => cs) else cs)
theorem clOf_get (cells : List (Str × Addr)) : ∀ (names : List (Str × NameKind)) (cs : List (Str × Addr)) (x : Str) (c : Addr), (clOf names cells cs).lookup x = some c → cs.lookup x = some c ∨ (cells.lookup x = some c ∧ (x, NameKind.free) ∈ names)
 | [], cs, x, c, h => .inl h
 | (n, k) :: r, cs, x, c, h => by
  rcases clOf_get cells r _ x c h with q | ⟨q, m⟩
  ·split at q
   ·rename_i hk
    split at q
    ·rename_i d hd
     rw [List.lookup_cons] at q
     cases e : x == n with
     | true =>
      rw [e] at q
      have e' : x = n := beq_iff_eq.mp e
      subst e' hk
      cases q
      exact .inr ⟨hd, .head _⟩
     | false =>
      rw [e] at q
      exact .inl q
    ·exact .inl q
   ·exact .inl q
  ·exact .inr ⟨q, .tail _ m⟩
theorem clOf_old (cells : List (Str × Addr)) : ∀ (names : List (Str × NameKind)) (cs : List (Str × Addr)) (x : Str), (∃ c, cs.lookup x = some c) → ∃ c, (clOf names cells cs).lookup x = some c
 | [], cs, x, h => h
 | (n, k) :: r, cs, x, h => by
  refine clOf_old cells r _ x ?_
  split
  ·split
   ·rw [List.lookup_cons]
    cases x == n with
    | true => exact ⟨_, rfl⟩
    | false => exact h
   ·exact h
  ·exact h
theorem clOf_has (cells : List (Str × Addr)) : ∀ (names : List (Str × NameKind)) (cs : List (Str × Addr)) (x : Str), (x, NameKind.free) ∈ names → (∃ c, cells.lookup x = some c) → ∃ c, (clOf names cells cs).lookup x = some c
 | (n, k) :: r, cs, x, hm, hc => by
  rcases List.mem_cons.mp hm with e | hm
  ·obtain ⟨rfl, rfl⟩ := Prod.mk.inj e
   obtain ⟨c, hc⟩ := hc
   refine clOf_old cells r _ _ ?_
   rw [if_pos rfl, hc]
   exact ⟨c, by simp [List.lookup_cons]⟩
  ·exact clOf_has cells r _ x hm hc
theorem forIn_clos {env : Env} : ∀ (names : List (Str × NameKind)) (cs : List (Str × Addr)), (∀ y ∈ names, y.2 = .free → ∃ c, env.cells.lookup y.1 = some c) →
  (forIn names cs (fun (x : Str × NameKind) (r : List (Str × Addr)) => do
   if (x.2 == NameKind.free) = true then do let c ← cellOf env x.1; pure (ForInStep.yield ((x.1, c) :: r)) else pure (ForInStep.yield r)) : Sem (List (Str × Addr))) = pure (clOf names env.cells cs)
 | [], cs, _ => rfl
 | (n, k) :: r, cs, h => by
  rw [List.forIn_cons]
  by_cases hk : k = .free
  ·subst hk
   obtain ⟨c, hc⟩ := h (n, .free) (.head _) rfl
   have e : cellOf env n = pure c := by unfold cellOf; rw [hc]
   have ih := forIn_clos (env := env) r ((n, c) :: cs) fun y hy => h y (.tail _ hy)
   have e2 : clOf ((n, NameKind.free) :: r) env.cells cs = clOf r env.cells ((n, c) :: cs) := by
    show clOf r env.cells (if NameKind.free = NameKind.free then (match env.cells.lookup n with | some c => (n, c) :: cs | none => cs) else cs) = _
    rw [if_pos rfl, hc]
   rw [e2, ← ih]
   simp only [beq_self_eq_true, if_true, e, pure_bind]
  ·have ih := forIn_clos (env := env) r cs fun y hy => h y (.tail _ hy)
   have hb : (k == NameKind.free) = false := by simpa using hk
   have e2 : clOf ((n, k) :: r) env.cells cs = clOf r env.cells cs := by
    show clOf r env.cells (if k = NameKind.free then (match env.cells.lookup n with | some c => (n, c) :: cs | none => cs) else cs) = _
    rw [if_neg hk]
   rw [e2, ← ih]
   simp only [hb, Bool.false_eq_true, if_false, pure_bind]
theorem closureFor_eq {scope : Scope} {env : Env} (h : ∀ y ∈ scope.names, y.2 = .free → ∃ c, env.cells.lookup y.1 = some c) : closureFor scope env = pure (clOf scope.names env.cells []) := by
 have := forIn_clos (env := env) scope.names [] h
 unfold closureFor
 simp only [bind_pure]
 exact this
theorem lookup_map (f : Str → NameKind → NameKind) : ∀ (names : List (Str × NameKind)) (x : Str), (names.map fun y => (y.1, f y.1 y.2)).lookup x = (names.lookup x).map (f x)
 | [], x => rfl
 | (n, k) :: r, x => by
  rw [List.map_cons, List.lookup_cons, List.lookup_cons, lookup_map f r x]
  cases e : x == n with
  | true =>
   have e' : x = n := beq_iff_eq.mp e
   subst e'
   rfl
  | false => rfl
theorem relabel_names (scope : Scope) (env : Env) (x : Str) : (relabel scope env).names.lookup x = (scope.names.lookup x).map fun k => if (k == .free && env.scope.kind == .function && env.kindOf x == some .cell) = true then .cell else k := by
 have := lookup_map (fun n k => if (k == .free && env.scope.kind == .function && env.kindOf n == some .cell) = true then .cell else k) scope.names x
 rw [← this]
 unfold relabel
 congr 1
 refine List.map_congr_left fun y _ => ?_
 obtain ⟨n, k⟩ := y
 dsimp only
 split <;> rfl
theorem relabel_look {scope : Scope} {env : Env} {x : Str} {kd : NameKind} (h : (relabel scope env).names.lookup x = some kd) : scope.names.lookup x = some kd ∨ (scope.names.lookup x = some .free ∧ kd = .cell) := by
 rw [relabel_names] at h
 cases q : scope.names.lookup x with
 | none => rw [q] at h; cases h
 | some k =>
  rw [q, Option.map_some] at h
  have h' := Option.some.inj h
  split at h'
  ·rename_i hc
   have hk : k = .free := by
    have := (Bool.and_eq_true_iff.mp (Bool.and_eq_true_iff.mp hc).1).1
    simpa using this
   exact .inr ⟨by rw [hk], h'.symm⟩
  ·exact .inl (by rw [h'])
structure CompOk (N : List Str) (fsc : Scope) (N' : List Str) (scope : Scope) : Prop where
 kind : scope.kind = .function
 names : ∀ x ∈ scope.names, x.2 = .local → scope.names.lookup x.1 = some .local
 celu : ∀ x ∈ scope.names, x.2 = .cell → scope.names.lookup x.1 = some .cell
 free : ∀ x ∈ scope.names, x.2 = .free → scope.names.lookup x.1 = some .free ∧ (fsc.names.lookup x.1 = some .cell ∨ fsc.names.lookup x.1 = some .free)
 pre : ((List.range N.length).all fun i => match N'[i]? with
  | some x => (match scope.names.lookup x with
   | some .local => false
   | some .cell => false
   | some .free => N[i]? == some x
   | _ => true)
  | none => true) = true
 len : N.length ≤ N'.length
 nd : N'.Nodup
def ownOf (scope : Scope) (x : Str) : Bool := scope.names.lookup x == some .local || scope.names.lookup x == some .cell
def cellsC (scope : Scope) (C : Addr) (cells : List (Str × Addr)) : List (Str × Addr) := cellsFrom (C + 1) scope.names (clOf scope.names cells [])
theorem cellsFrom_get : ∀ (names : List (Str × NameKind)) (h : Heap) (acc : List (Str × Addr)) (x : Str) (c : Addr), (cellsFrom h.objs.size names acc).lookup x = some c →
  acc.lookup x = some c ∨ ((x, NameKind.cell) ∈ names ∧ h.objs.size ≤ c ∧ (pushCells h names).IsCell c none)
 | [], h, acc, x, c, e => .inl e
 | (n, k) :: r, h, acc, x, c, e => by
  unfold cellsFrom at e
  unfold pushCells
  split at e
  ·rename_i hk
   rw [if_pos hk]
   have hk' : k = .cell := by simpa using hk
   have z : (h.push { cls := .type "cell", data := .cell none }).objs.size = h.objs.size + 1 := Heap.size_push ..
   rw [← z] at e
   rcases cellsFrom_get r _ _ x c e with q | ⟨q1, q2, q3⟩
   ·rw [List.lookup_cons] at q
    cases en : x == n with
    | true =>
     rw [en] at q
     have en' : x = n := beq_iff_eq.mp en
     cases q
     refine .inr ⟨by rw [en', hk']; exact .head _, Nat.le_refl _, { cls := .type "cell", data := .cell none }, pushCells_keeps _ _ _ _ (Heap.get?_push_size _ rfl), rfl⟩
    | false =>
     rw [en] at q
     exact .inl q
   ·exact .inr ⟨.tail _ q1, by omega, q3⟩
  ·rename_i hk
   rw [if_neg hk]
   rcases cellsFrom_get r _ _ x c e with q | ⟨q1, q2⟩
   ·exact .inl q
   ·exact .inr ⟨.tail _ q1, q2⟩
theorem cellsFrom_at : ∀ (names : List (Str × NameKind)) (n : Nat) (acc : List (Str × Addr)) (x : Str) (c : Addr), (cellsFrom n names acc).lookup x = some c → acc.lookup x = some c ∨ ((x, NameKind.cell) ∈ names ∧ n ≤ c)
 | [], n, acc, x, c, e => .inl e
 | (y, k) :: r, n, acc, x, c, e => by
  unfold cellsFrom at e
  split at e
  ·rename_i hk
   have hk' : k = .cell := by simpa using hk
   rcases cellsFrom_at r _ _ x c e with q | ⟨q1, q2⟩
   ·rw [List.lookup_cons] at q
    cases en : x == y with
    | true =>
     rw [en] at q
     have en' : x = y := beq_iff_eq.mp en
     cases q
     exact .inr ⟨by rw [en', hk']; exact .head _, Nat.le_refl _⟩
    | false =>
     rw [en] at q
     exact .inl q
   ·exact .inr ⟨.tail _ q1, by omega⟩
  ·rcases cellsFrom_at r _ _ x c e with q | ⟨q1, q2⟩
   ·exact .inl q
   ·exact .inr ⟨.tail _ q1, q2⟩
theorem cellsFrom_old : ∀ (names : List (Str × NameKind)) (n : Nat) (acc : List (Str × Addr)) (x : Str), (∃ c, acc.lookup x = some c) → ∃ c, (cellsFrom n names acc).lookup x = some c
 | [], n, acc, x, e => e
 | (y, k) :: r, n, acc, x, e => by
  unfold cellsFrom
  split
  ·refine cellsFrom_old r _ _ x ?_
   rw [List.lookup_cons]
   cases x == y with
   | true => exact ⟨_, rfl⟩
   | false => exact e
  ·exact cellsFrom_old r _ _ x e
theorem cellsFrom_inj : ∀ (names : List (Str × NameKind)) (n : Nat) (acc : List (Str × Addr)), (∀ x c, acc.lookup x = some c → c < n) → (∀ x y c, acc.lookup x = some c → acc.lookup y = some c → x = y) →
  ∀ x y c, (cellsFrom n names acc).lookup x = some c → (cellsFrom n names acc).lookup y = some c → x = y
 | [], n, acc, _, h2 => h2
 | (z, k) :: r, n, acc, h1, h2 => by
  unfold cellsFrom
  split
  ·refine cellsFrom_inj r _ _ (fun x c e => ?_) fun x y c e1 e2 => ?_
   ·rw [List.lookup_cons] at e
    cases en : x == z with
    | true => rw [en] at e; cases e; exact Nat.lt_succ_self _
    | false => rw [en] at e; exact Nat.lt_succ_of_lt (h1 x c e)
   ·rw [List.lookup_cons] at e1 e2
    cases en : x == z with
    | true =>
     rw [en] at e1
     cases e1
     cases en2 : y == z with
     | true => rw [beq_iff_eq.mp en, beq_iff_eq.mp en2]
     | false => rw [en2] at e2; exact absurd (h1 y _ e2) (Nat.lt_irrefl _)
    | false =>
     rw [en] at e1
     cases en2 : y == z with
     | true => rw [en2] at e2; cases e2; exact absurd (h1 x _ e1) (Nat.lt_irrefl _)
     | false => rw [en2] at e2; exact h2 x y c e1 e2
  ·exact cellsFrom_inj r _ _ h1 h2
theorem newEnv_comp {M : Model} {A : Around} {E : Value → Shared → Prop} {s : Shared} {scope : Scope} {globals : Addr} {closure : List (Str × Addr)} {qual : Str} {env : Env} {Q : Env → Shared → Prop}
  (hQ : ∀ h', h'.Ns s.heap.objs.size (fun _ => none) → (∀ b o, s.heap.get? b = some o → h'.get? b = some o) →
   (∀ x c, (cellsFrom (s.heap.objs.size + 1) scope.names closure).lookup x = some c → closure.lookup x = some c ∨ ((x, NameKind.cell) ∈ scope.names ∧ s.heap.objs.size + 1 ≤ c ∧ h'.IsCell c none)) →
   Q (newEnv scope s.heap.objs.size globals (cellsFrom (s.heap.objs.size + 1) scope.names closure) qual none .none (some env) builtinsNs) { s with heap := h' }) :
  wpAny M A (newFunctionEnv scope globals closure [] qual none .none (some env)) Q E s := by
 simp only [newFunctionEnv, Option.isSome_some, if_true]
 refine wpAny_bind (wpAny_alloc ?_)
 refine wpAny_bind (wpAny_layCells _ (fun name kind cells => by cases hkc : kind == NameKind.cell <;> simp [hkc]) _ _ _ _ ?_)
 have z : (s.heap.push { cls := .type "dict", data := .dict #[] }).objs.size = s.heap.objs.size + 1 := Heap.size_push ..
 rw [List.forIn_nil]
 refine wpAny_bind (wpAny_pure (wpAny_pure ?_))
 have := hQ (pushCells (s.heap.push { cls := .type "dict", data := .dict #[] }) scope.names) ((Heap.Ns.new s.heap (.type "dict")).keeps (pushCells_keeps _ _)) (fun b o e => pushCells_keeps _ _ b o (Heap.get?_push_of_some _ e)) (fun x c e => by
  rw [← z] at e ⊢
  exact cellsFrom_get _ _ _ _ _ e)
 rw [← z] at this
 exact this
def compCx (X : Cx) (N' : List Str) (scope : Scope) (C : Addr) (s₃ : Shared) (H₃ : Hp) (ex : List Addr) (pn : List (Addr × Obj)) : Cx where
 prog := X.prog
 w := X.w
 K := X.K
 mg := X.mg
 base := X.base
 A := X.A
 N := N'
 s₀ := s₃
 H₀ := H₃
 env := compEnvC scope (cellsC scope C X.env.cells) C X.env
 outer := X.stack
 stack := X.stack
 ex := ex
 fn := ownOf scope
 calm := X.calm
 pn := pn
 xe := fun _ _ => False
section
variable {X : Cx} {N' : List Str} {scope : Scope}
theorem cl_sub {x : Str} {c : Addr} (h : (clOf scope.names X.env.cells []).lookup x = some c) : X.env.cells.lookup x = some c ∧ (x, NameKind.free) ∈ scope.names := by
 rcases clOf_get _ _ _ _ _ h with z | z
 ·cases z
 ·exact z
theorem cellsC_get {C : Addr} {x : Str} {c : Addr} (h : (cellsC scope C X.env.cells).lookup x = some c) : (X.env.cells.lookup x = some c ∧ (x, NameKind.free) ∈ scope.names) ∨ ((x, NameKind.cell) ∈ scope.names ∧ C < c) := by
 rcases cellsFrom_at _ _ _ _ _ h with q | ⟨q1, q2⟩
 ·exact .inl (cl_sub q)
 ·exact .inr ⟨q1, q2⟩
theorem cells_lt {pins : List (Addr × Obj)} {σ : L2.St} {H₃ : Hp} {s₃ : Shared} (I : Inv X pins σ H₃ s₃) {x : Str} {c : Addr} (h : X.env.cells.lookup x = some c) : c < s₃.heap.objs.size := by
 obtain ⟨v, o, ho, _⟩ := I.cell x c h
 exact Heap.lt_size ho
theorem comp_ok {pins : List (Addr × Obj)} {σ : L2.St} {H₃ : Hp} {s₃ : Shared} {C : Addr} {fp : List Addr} (O : CompOk X.N X.env.scope N' scope) (I : Inv X pins σ H₃ s₃) (hC : s₃.heap.objs.size ≤ C) (hf : ∀ b ∈ fp, FpOk X pins H₃ b) (hfl : ∀ b ∈ fp, b < s₃.heap.objs.size) :
  (compCx X N' scope C s₃ H₃ fp (X.pn ++ pins)).Ok where
 mod := I.ok.mod
 kind := by show (relabel scope X.env).kind = _; exact O.kind
 glob := I.ok.glob
 blt := I.ok.blt
 above := hC
 inj := fun x y c h1 h2 => cellsFrom_inj scope.names (C + 1) (clOf scope.names X.env.cells []) (fun x c h => Nat.lt_succ_of_lt (Nat.lt_of_lt_of_le (cells_lt I (cl_sub h).1) hC)) (fun x y c h1 h2 => I.ok.inj x y c (cl_sub h1).1 (cl_sub h2).1) x y c h1 h2
 has := fun x hx => by
  have hx' : (relabel scope X.env).names.lookup x = some .cell ∨ (relabel scope X.env).names.lookup x = some .free := hx
  have hfree : scope.names.lookup x = some .cell ∨ scope.names.lookup x = some .free := by
   rcases hx' with z | z
   ·rcases relabel_look z with y | ⟨y, _⟩
    ·exact .inl y
    ·exact .inr y
   ·rcases relabel_look z with y | ⟨y, y2⟩
    ·exact .inr y
    ·cases y2
  rcases hfree with hfree | hfree
  ·exact Option.isSome_iff_exists.mp (PySem.W.cellsFrom_some scope.names (C + 1) _ (.inl hfree))
  ·have hm := PySem.mem_of_lookup hfree
   have hcell : ∃ c, X.env.cells.lookup x = some c := I.ok.has x (O.free _ hm rfl).2
   exact cellsFrom_old _ _ _ _ (clOf_has _ _ _ _ hm hcell)
 cab := fun x c h1 h2 => by
  rcases cellsC_get (X := X) h2 with ⟨_, hm⟩ | ⟨_, hc⟩
  ·have q := (O.free _ hm rfl).1
   have h1' : (scope.names.lookup x == some .local || scope.names.lookup x == some .cell) = true := h1
   rw [q] at h1'
   cases h1'
  ·exact Nat.le_of_lt (Nat.lt_of_le_of_lt hC hc)
 hd := I.ok.hd
 frames := I.ok.frames
 stk := .inl rfl
 exf := fun b hb => ⟨Nat.ne_of_lt (Nat.lt_of_lt_of_le (hfl b hb) hC), fun x c h => by
  rcases cellsC_get (X := X) h with ⟨q, _⟩ | ⟨_, q⟩
  ·exact (hf b hb).2.2.2.2.1 x c q
  ·exact Nat.ne_of_gt (Nat.lt_trans (Nat.lt_of_lt_of_le (hfl b hb) hC) q)⟩
 bs := I.bs
 bsz := Nat.le_trans I.ok.bsz I.sz
 noex := fun b o e hb => by
  rcases (hf b hb).2.2.2.1 with z | z
  ·exact I.ok.noex b o e z
  ·exact absurd (Nat.lt_of_lt_of_le (Heap.lt_size (I.ok.bs b o e).1) z) (Nat.lt_irrefl _)
 exfs := fun b hb z => by
  rcases List.mem_cons.mp (I.stkSub b z) with e | e
  ·exact (hf b hb).2.1 e
  ·exact (hf b hb).2.2.1 e
 funs := I.stack
 frf := I.stkFree
theorem inv_comp {pins : List (Addr × Obj)} {σ : L2.St} {H₃ : Hp} {s₃ s₄ : Shared} {C : Addr} {fp : List Addr} {m : Str → Option Value} {k : Nat} (O : CompOk X.N X.env.scope N' scope) (I : Inv X pins σ H₃ s₃) (hC : s₃.heap.objs.size ≤ C) (hf : ∀ b ∈ fp, FpOk X pins H₃ b) (hfl : ∀ b ∈ fp, b < s₃.heap.objs.size)
  (hs : ∃ h' t', s₄ = { s₃ with heap := h', toks := t' }) (hk : ∀ b o, s₃.heap.get? b = some o → s₄.heap.get? b = some o) (hn : s₄.heap.Ns C m)
  (hce : ∀ x c, (cellsC scope C X.env.cells).lookup x = some c → (clOf scope.names X.env.cells []).lookup x = some c ∨ ((x, NameKind.cell) ∈ scope.names ∧ C + 1 ≤ c ∧ s₄.heap.IsCell c none)) (hlen : X.N.length + k = N'.length) : Inv (compCx X N' scope C s₃ H₃ fp (X.pn ++ pins)) [] (σ ++ List.replicate k none) H₃ s₄ := by
 obtain ⟨h', t', rfl⟩ := hs
 have hHC : H₃ C = none := I.hok.fresh hC
 refine ⟨comp_ok O I hC hf hfl, rfl, I.bare, Un.kept hk, ⟨m, hn, fun i x v h1 h2 h3 => ?_⟩, fun x c h => ?_, hHC, fun x c h => ?_, fun p hp => ?_, I.hok.kept hk, ?_⟩
 ·have hi : i < σ.length := by
   by_cases hi : i < σ.length
   ·exact hi
   ·rw [List.getElem?_append_right (by omega), List.getElem?_replicate] at h2
    split at h2 <;> cases h2
  rw [List.getElem?_append_left hi] at h2
  have hiN : i < X.N.length := by rw [← I.len]; exact hi
  have hp := List.all_eq_true.mp O.pre i (List.mem_range.mpr hiN)
  have h1' : N'[i]? = some x := h1
  rw [h1'] at hp
  have h3' : (relabel scope X.env).names.lookup x = some .local ∨ (relabel scope X.env).names.lookup x = some .cell ∨ (relabel scope X.env).names.lookup x = some .free := h3
  have hp2 : (match scope.names.lookup x with
   | some .local => false
   | some .cell => false
   | some .free => X.N[i]? == some x
   | _ => true) = true := hp
  have hfree : scope.names.lookup x = some .free := by
   rcases h3' with z | z | z
   ·rcases relabel_look z with y | ⟨y, y2⟩
    ·rw [y] at hp2; cases hp2
    ·cases y2
   ·rcases relabel_look z with y | ⟨y, _⟩
    ·rw [y] at hp2; cases hp2
    ·exact y
   ·rcases relabel_look z with y | ⟨y, y2⟩
    ·exact y
    ·cases y2
  have hm := PySem.mem_of_lookup hfree
  rw [hfree] at hp2
  have hNx : X.N[i]? = some x := by simpa using hp2
  have hkx := (O.free _ hm rfl).2
  obtain ⟨m0, hn0, hl0⟩ := I.loc
  have vis : Vis X.env.scope x := by
   rcases hkx with z | z
   ·exact .inr (.inl z)
   ·exact .inr (.inr z)
  obtain ⟨u, r, l⟩ := hl0 i x v hNx h2 vis
  refine ⟨u, r, .inr ⟨?_, ?_⟩⟩
  ·rcases h3' with z | z | z
   ·exfalso
    rcases relabel_look z with y | ⟨y, y2⟩
    ·rw [hfree] at y; cases y
    ·cases y2
   ·exact .inl z
   ·exact .inr z
  ·rcases l with ⟨z, _⟩ | ⟨_, c, hc, hcell⟩
   ·exfalso
    have z' : X.env.scope.names.lookup x = some .local := z
    rcases hkx with y | y
    ·rw [z'] at y; cases y
    ·rw [z'] at y; cases y
   ·obtain ⟨c', hc'⟩ := cellsFrom_old scope.names (C + 1) _ x (clOf_has X.env.cells scope.names [] x hm ⟨c, hc⟩)
    have hcc : X.env.cells.lookup x = some c' := by
     rcases cellsC_get (X := X) (C := C) hc' with ⟨q, _⟩ | ⟨q, _⟩
     ·exact q
     ·have := O.celu _ q rfl
      rw [hfree] at this
      cases this
    rw [hc] at hcc
    cases hcc
    obtain ⟨o, ho, hd⟩ := hcell
    exact ⟨c, hc', o, hk _ _ ho, hd⟩
 ·rcases hce x c h with q | ⟨_, _, q⟩
  ·obtain ⟨v, o, ho, hd⟩ := I.cell x c (cl_sub q).1
   exact ⟨v, o, hk _ _ ho, hd⟩
  ·exact ⟨_, q⟩
 ·rcases cellsC_get (X := X) h with ⟨q, _⟩ | ⟨_, q⟩
  ·exact I.freeC x c q
  ·exact I.hok.fresh (Nat.le_of_lt (Nat.lt_of_le_of_lt hC q))
 ·have hp' : p ∈ X.pn ++ pins := by
   have q : p ∈ (X.pn ++ pins) ++ [] := hp
   rwa [List.append_nil] at q
  obtain ⟨e, n, ne, nf, d⟩ := I.pin p hp'
  refine ⟨hk _ _ e, n, Nat.ne_of_lt (Nat.lt_of_lt_of_le (Heap.lt_size e) hC), fun z => ?_, d⟩
  rcases List.mem_cons.mp (I.stkSub p.1 z) with y | y
  ·exact ne y
  ·exact nf y
 ·show _ = N'.length
  rw [List.length_append, List.length_replicate, I.len, hlen]
end
section
variable {prog : Program} {w : World} {A : Around} {R : Result → Shared → Prop} {s : Shared}
theorem compLoop_any {elt target iter : Expr} {scope : Scope} {pos : Pos} {it acc : Value} {env : Env} (I : Nat → Shared → Prop)
  (turn : ∀ n s, I n s → wpAny (model prog w) A (pyNext it) (fun r s₁ => match r with
   | none => R (.ok .next) s₁
   | some v => wpAny (model prog w) A (letOwnedTupleGo target it v) (fun _ s₂ => wpAny (model prog w) A (assign target env v) (fun _ s₃ => wpAny (model prog w) A (eval elt env) (fun x s₄ =>
     wpAny (model prog w) A (call (.builtin "list.append") [acc, x]) (fun _ s₅ => ∃ m, m < n ∧ I m s₅) (fun _ _ => False) s₄) (fun _ _ => False) s₃) (fun _ _ => False) s₂) (fun _ _ => False) s₁) (fun _ _ => False) s)
  (n : Nat) (h : I n s) :
  codeAny (model prog w) A (.compLoop (.ListComp elt [⟨target, iter, [], 0⟩] scope pos) 0 it acc env) R s := by
 refine codeAny_loop rfl I (fun n s hI => ?_) n h
 show wpAny _ _ ((compTurn (.ListComp elt [⟨target, iter, [], 0⟩] scope pos) 0 it acc env).onRaise (fun x => do noteFrame x env; theTreesLotGoes x)) _ _ s
 refine wpAny_noted ?_
 rw [compTurn_list1]
 refine wpAny_bind (wpAny_standAt (wpAny_bind (wpAny_mono (turn n s hI) (fun r s₁ h₁ => ?_) fun _ _ h' => h'.elim)))
 cases r with
 | none => exact wpAny_pure h₁
 | some v =>
  refine wpAny_bind (wpAny_mono h₁ (fun _ s₂ h₂ => ?_) fun _ _ h' => h'.elim)
  exact wpAny_bind (wpAny_mono h₂ (fun _ s₂ h₂ => wpAny_bind (wpAny_bind (wpAny_mono h₂ (fun x s₃ h₃ => wpAny_bind (wpAny_mono h₃
   (fun _ s₄ h₄ => wpAny_pure (wpAny_pure ⟨rfl, h₄⟩)) fun _ _ h' => h'.elim)) fun _ _ h' => h'.elim))) fun _ _ h' => h'.elim)
end
def tComp (wi : TI) (g : TG) (te : TE) (k : Nat) : TE := fun σ H Q => wi σ H fun J H1 => ∃ W : Nat → Nat → List V → L2.St → Hp → Prop, (∃ n, W 0 n [] (σ ++ List.replicate k none) H1) ∧ ∀ i n vs σ H, W i n vs σ H →
 (J.stop i H ∧ ∀ p, H p = none → Q (.ref p) (upd H p (.lst vs))) ∨ (J.go i H ∧ vs.length < sizeLine ∧ ∀ x H', J.yld i H x H' → g x σ H' fun σ2 H2 => te σ2 H2 fun v H3 => ∃ n', n' < n ∧ W (i + 1) n' (vs ++ [v]) σ2 H3)
section
variable {X : Cx} {N' : List Str} {scope : Scope}
theorem Inv.adopt {pins : List (Addr × Obj)} {σ : L2.St} {H : Hp} {s : Shared} {a : Addr} {vs : List V} {its : List Value} {n : Nat} (I : Inv X pins σ H s) (f : FpOk X pins H a) (e : s.heap.get? a = some { cls := .type "list", data := .seq its.toArray n }) (rv : Vals vs its) (hz : vs.length ≤ sizeLine) :
  Inv X pins σ (upd H a (.lst vs)) s := by
 have hn := f.1
 have ne : ∀ b u, H b = some u → b ≠ a := fun b u q => ne_of_none q hn
 have J := I.step (h' := s.heap) (H' := upd H a (.lst vs)) (g' := s.gens) (t' := s.toks) (d' := s.drawn) (ch := [a]) (fun b hb => by
   have z : b = a := by simpa using hb
   subst z
   exact ⟨f.2.2.2.1, f.2.1, f.2.2.2.2.1, f.2.2.2.2.2⟩) (fun b o _ _ _ q _ => q) (fun b o _ _ _ q _ => ⟨o.slots, q⟩) (fun b o hc _ q => by rw [zO (by simpa using hc)]; exact q) (fun b o _ q => ⟨o, q⟩)
  (fun b xs q => by rw [zO (ne b _ q)]; exact q) (fun b o u q => by rw [zO (ne b _ q)]; exact q) (fun b ps q => ⟨#[], by rw [zO (ne b _ q), q]; simp⟩) (fun m hm => hm) (fun b u q => ?_) I.bare
 ·exact J
 ·by_cases hb : b = a
  ·subst hb
   rw [zW] at q
   cases q
   exact ⟨hz, its, n, rv, e⟩
  ·rw [zO hb] at q
   exact (I.hok b u q).stay (fun c v _ z => z) (fun c z => by rw [zO (ne c _ z)]; exact z) fun c xs z => by rw [zO (ne c _ z)]; exact z
end
section
variable {X : Cx} {N' : List Str} {scope : Scope}
theorem comp_run {elt iter tg : Expr} {pos : Pos} {wi : TI} {g : TG} {te : TE} {k : Nat} (O : CompOk X.N X.env.scope N' scope) (hlen : X.N.length + k = N'.length) (hcal : X.calm = true) (hi : PI X tg iter wi)
  (hg : ∀ C s₃ H₃ ex pn, PG (compCx X N' scope C s₃ H₃ ex pn) tg g) (he : ∀ C s₃ H₃ ex pn, PE (compCx X N' scope C s₃ H₃ ex pn) elt te)
  {use : Option (Value → Sem Unit)} {Qf : Value → Shared → Prop} {pins : List (Addr × Obj)} {s : Shared} {σ : L2.St} {H : Hp} {Q : VK} (I : Inv X pins σ H s) (h : tComp wi g te k σ H Q)
  (fin : ∀ (C acc : Addr) (H' : Hp) (s' : Shared) (m : Str → Option Value), Inv X pins σ H' s' → s'.heap.Ns C m → FpOk X pins H' C → Q (.ref acc) H' → compPost (model X.prog X.w) X.A X.xe use Qf (.ref acc) C (.ok .next) s')
  (hs : ∀ x, foldedSetIterable iter X.env x = pure x := by intro _; rfl) :
  wpAny (model X.prog X.w) X.A (comprehension (.ListComp elt [⟨tg, iter, [], 0⟩] scope pos) scope X.env (firstIterPos [⟨tg, iter, [], 0⟩] pos) (newList []) false (eval iter X.env) use) Qf X.xe s := by
 have hclos : closureFor scope X.env = pure (clOf scope.names X.env.cells []) := closureFor_eq fun y hy hf => I.ok.has y.1 (O.free y hy hf).2
 refine wpAny_comprehension_free (use := use) rfl hs hclos O.kind O.names (thn (hi pins s σ H _ I h) fun xv s1 h1 => thn h1 fun itv s2 h2 => ?_)
 obtain ⟨it, fp, tn, J, H2, rfl, I2, T, st2, f2, hW⟩ := h2
 refine wpAny_newObj_type (newEnv_comp fun h₁ hns₁ hk₁ hce₁ => ?_)
 have hfp2 : ∀ b ∈ fp, b < s2.heap.objs.size := fun b hb => by
  obtain ⟨o, e, _⟩ := T.obj 0 _ st2 b hb
  exact Heap.lt_size e
 have hpn : H2 s2.heap.objs.size = none := I2.hok.fresh (Nat.le_refl _)
 have I3 : Inv X pins σ H2 { s2 with heap := s2.heap.push { cls := .type "list", data := .seq ([] : List Value).toArray } } := I2.kept (t' := s2.toks) fun b o e => Heap.get?_push_of_some _ e
 have facc : FpOk X pins H2 s2.heap.objs.size := I2.fpOk (Nat.le_refl _) hpn
 have gacc : (s2.heap.push { cls := .type "list", data := .seq ([] : List Value).toArray }).get? s2.heap.objs.size = some { cls := .type "list", data := .seq ([] : List Value).toArray } := Heap.get?_push_size _ rfl
 obtain ⟨W, ⟨n0, w0⟩, turn⟩ := hW
 generalize hs3 : ({ s2 with heap := s2.heap.push { cls := .type "list", data := .seq ([] : List Value).toArray } } : Shared) = s3 at I3
 have hh3 : s3.heap = s2.heap.push { cls := .type "list", data := .seq ([] : List Value).toArray } := by rw [← hs3]
 rw [← hh3] at gacc
 have z3 : s3.heap.objs.size = s2.heap.objs.size + 1 := by rw [hh3, Heap.size_push]
 generalize hacc : s2.heap.objs.size = acc at *
 have f3 : ∀ b ∈ acc :: fp, FpOk X pins H2 b := fun b hb => by
  rcases List.mem_cons.mp hb with e | hb
  ·rw [e]; exact facc
  ·exact f2 b hb
 have hfp3 : ∀ b ∈ acc :: fp, b < s3.heap.objs.size := fun b hb => by
  rw [z3]
  rcases List.mem_cons.mp hb with e | hb
  ·rw [e]; exact Nat.lt_succ_self _
  ·exact Nat.lt_succ_of_lt (hfp2 b hb)
 have hk4 : ∀ b o, s3.heap.get? b = some o → h₁.get? b = some o := fun b o e => hk₁ b o (by rw [hh3] at e; exact e)
 have hCe : (s2.heap.push { cls := .type "list", dict := none, data := .seq ([] : List Value).toArray }).objs.size = s3.heap.objs.size := by rw [hh3]
 generalize hC : (s2.heap.push { cls := .type "list", dict := none, data := .seq ([] : List Value).toArray }).objs.size = C at *
 have st3 : tn 0 h₁ := T.keep 0 _ _ st2 fun b hb o e => hk4 b o (by rw [hh3]; exact Heap.get?_push_of_some _ e)
 have okx := comp_ok (fp := acc :: fp) O I3 (show s3.heap.objs.size ≤ C by rw [hCe]; exact Nat.le_refl _) f3 hfp3
 have pinOk : ∀ {H' : Hp} {its : List Value} {kk : Nat} {h' : Heap}, H' acc = none → h'.get? acc = some { cls := .type "list", data := .seq its.toArray kk } → ∀ p ∈ [(acc, ({ cls := .type "list", data := .seq its.toArray kk } : Obj))], h'.get? p.1 = some p.2 ∧ H' p.1 = none ∧ p.1 ≠ (compCx X N' scope C s3 H2 (acc :: fp) (X.pn ++ pins)).env.locals ∧ p.1 ∉ (compCx X N' scope C s3 H2 (acc :: fp) (X.pn ++ pins)).fs ∧ ∀ v, p.2.data ≠ .cell v := fun {H' its kk h'} hn e p hp => by
  have z : p = (acc, ({ cls := .type "list", data := .seq its.toArray kk } : Obj)) := by simpa using hp
  subst z
  exact ⟨e, hn, (okx.exf acc (.head _)).1, okx.exfs acc (.head _), fun v q => by cases q⟩
 have I4 : Inv (compCx X N' scope C s3 H2 (acc :: fp) (X.pn ++ pins)) [] (σ ++ List.replicate k none) H2 { s3 with heap := h₁ } :=
  inv_comp O I3 (by rw [hCe]; exact Nat.le_refl _) f3 hfp3 ⟨h₁, _, rfl⟩ hk4 hns₁ hce₁ hlen
 have I4' : Inv (compCx X N' scope C s3 H2 (acc :: fp) (X.pn ++ pins)) [(acc, { cls := .type "list", data := .seq ([] : List Value).toArray 0 })] (σ ++ List.replicate k none) H2 { s3 with heap := h₁ } :=
  I4.pins_of (pinOk facc.1 (hk4 _ _ gacc))
 have loop : codeAny (model X.prog X.w) X.A (.compLoop (.ListComp elt [⟨tg, iter, [], 0⟩] scope pos) 0 (.ref it) (.ref acc) (compEnvC scope (cellsC scope C X.env.cells) C X.env)) (compPost (model X.prog X.w) X.A X.xe use Qf (.ref acc) C) { s3 with heap := h₁ } := by
  have fpx : ∀ {H' : Hp} {ob : Obj}, (∀ b ∈ fp, H' b = none) → ∀ b ∈ fp, FpOk (compCx X N' scope C s3 H2 (acc :: fp) (X.pn ++ pins)) [(acc, ob)] H' b := fun {H' ob} hn b hb => by
   have hb' : b ∈ acc :: fp := .tail _ hb
   refine ⟨hn b hb, (okx.exf b hb').1, okx.exfs b hb', .inl hb', fun x c h => (okx.exf b hb').2 x c h, fun p hp => ?_⟩
   have hp' : p ∈ (X.pn ++ pins) ++ [(acc, ob)] := hp
   rcases List.mem_append.mp hp' with z | z
   ·exact (f3 b hb').2.2.2.2.2 p z
   ·have e : p = (acc, ob) := by simpa using z
    rw [e]
    exact Nat.ne_of_gt (hfp2 b hb)
  refine compLoop_any (fun n s' => ∃ i vs its kk σ' H', Inv (compCx X N' scope C s3 H2 (acc :: fp) (X.pn ++ pins)) [(acc, { cls := .type "list", data := .seq its.toArray kk })] σ' H' s' ∧ Vals vs its ∧ vs.length ≤ sizeLine ∧ tn i s'.heap ∧ (∀ b ∈ fp, H' b = none) ∧ W i n vs σ' H') ?_ n0 ⟨0, [], [], 0, _, _, I4', .nil, Nat.zero_le _, st3, fun b hb => (f2 b hb).1, w0⟩
  rintro n s5 ⟨i, vs, its, kk, σ5, H5, I5, rv, hz, st5, fr5, w5⟩
  rcases turn i n vs σ5 H5 w5 with ⟨stop, qn⟩ | ⟨go, hlt, step⟩
  ·refine thn (T.done (compCx X N' scope C s3 H2 (acc :: fp) (X.pn ++ pins)) rfl rfl rfl hcal i _ s5 σ5 H5 _ I5 (fpx fr5) st5 stop) fun r s6 ⟨hr, I6⟩ => ?_
   subst hr
   have back : Inv X pins σ H5 s6 := by
    have e : s6.os = s3.os := I6.os
    refine I3.call' e (ch := acc :: fp) I6.base I6.hok I6.bare fun b hb => ?_
    obtain ⟨a1, a2, a3, a4, a5, a6⟩ := f3 b hb
    exact ⟨a4, a2, a5, a6⟩
   obtain ⟨m6, hn6, _⟩ := I6.loc
   have hn6' : s6.heap.Ns C m6 := hn6
   obtain ⟨e6, n6, _⟩ := I6.pin (acc, { cls := .type "list", data := .seq its.toArray kk }) (List.mem_append_right _ (.head _))
   have fa : FpOk X pins H5 acc := ⟨n6, facc.2⟩
   have hCa : C ≠ acc := Nat.ne_of_gt (by rw [hCe]; exact hfp3 acc (.head _))
   refine fin C acc _ s6 m6 (Inv.adopt back fa e6 rv hz) hn6' ?_ (qn acc n6)
   exact I3.fpOk (by rw [hCe]; exact Nat.le_refl _) (by rw [zO hCa]; exact I6.free)
  ·refine thn (T.item (compCx X N' scope C s3 H2 (acc :: fp) (X.pn ++ pins)) rfl rfl rfl hcal i _ s5 σ5 H5 _ I5 (fpx fr5) st5 go) fun r s6 ⟨u, hr, h6⟩ => ?_
   subst hr
   refine thn h6 fun _ s7 ⟨x, H7, I7, r7, y7, st7, fr7⟩ => ?_
   have I7' := I7.pinned (fpx fr7) (T.obj _ _ st7)
   refine thn (hg _ _ _ _ _ _ s7 σ5 H7 x u _ I7' r7 (step x H7 y7)) fun _ s8 ⟨σ8, H8, I8, q8⟩ => ?_
   refine thn (he _ _ _ _ _ _ s8 σ8 H8 _ I8 q8) fun xv s9 ⟨v, H9, I9, r9, q9⟩ => ?_
   obtain ⟨n', hn', w9⟩ := q9
   obtain ⟨e9, n9, l9, f9, _⟩ := I9.pin (acc, { cls := .type "list", data := .seq its.toArray kk }) (List.mem_append_right _ (List.mem_append_left _ (.head _)))
   have hlen9 := rv.length
   refine call_meets F.slot_list_append ⟨_, e9, rfl⟩ F.entry_list_append (F.args_list_append_2 _ _) (PySem.list_append acc its.toArray kk xv (by rw [List.size_toArray]; omega)) ⟨e9, ?_⟩
   have q10 := PySem.IsL.update e9 (fun xs => xs.push xv)
   have ea : (its.toArray.push xv) = (its ++ [xv]).toArray := by simp
   rw [ea] at q10
   have I9' := I9.pins_of (pins' := pinsAt fp s7.heap) fun p hp => I9.pin p (List.mem_append_right _ (List.mem_append_right _ hp))
   have I10 : Inv (compCx X N' scope C s3 H2 (acc :: fp) (X.pn ++ pins)) (pinsAt fp s7.heap) σ8 H9 { s9 with heap := s9.heap.update acc (Obj.mapSeq fun xs => xs.push xv) } :=
    I9'.turned (t' := s9.toks) (it := acc) (fun b o hb e => (Heap.get?_update_other s9.heap _ (Ne.symm hb)).trans e) n9 (okx.exf acc (.head _)).1 (.inl (.head _)) (fun x c h => (okx.exf acc (.head _)).2 x c h) fun p hp => by
     have hp' : p ∈ (X.pn ++ pins) ++ pinsAt fp s7.heap := hp
     rcases List.mem_append.mp hp' with z | z
     ·exact facc.2.2.2.2.2 p z
     ·exact Nat.ne_of_lt (hfp2 p.1 (of_pinsAt z).1)
   refine ⟨n', hn', i + 1, vs ++ [v], its ++ [xv], _, σ8, H9, I10.pins_of (pinOk n9 q10), rv.append (.cons r9 .nil), by rw [List.length_append, List.length_singleton]; omega, T.keep _ _ _ st7 fun b hb o eo => (I10.pin (b, o) (List.mem_append_right _ (mem_pinsAt hb eo))).1, fun b hb => ?_, w9⟩
   obtain ⟨o, eo, d⟩ := T.obj _ _ st7 b hb
   exact (I10.pin (b, o) (List.mem_append_right _ (mem_pinsAt hb eo))).2.1
 have whole := codeAny_compStart_list loop (T.self _ 0 _ _ _ st3 loop)
 subst hCe
 exact whole
end
section
variable {X : Cx} {N' : List Str} {scope : Scope}
theorem pe_comp {elt iter tg : Expr} {pos : Pos} {wi : TI} {g : TG} {te : TE} (k : Nat) (O : CompOk X.N X.env.scope N' scope) (hcal : X.calm = true) (hi : PI X tg iter wi)
  (hg : ∀ C s₃ H₃ ex pn, PG (compCx X N' scope C s₃ H₃ ex pn) tg g) (he : ∀ C s₃ H₃ ex pn, PE (compCx X N' scope C s₃ H₃ ex pn) elt te)
  (hlen : X.N.length + k = N'.length := by rfl) (hs : ∀ x, foldedSetIterable iter X.env x = pure x := by intro _; rfl) : PE X (.ListComp elt [⟨tg, iter, [], 0⟩] scope pos) (tComp wi g te k) := by
 intro pins s σ H Q I h
 rw [eval_ListComp]
 exact comp_run (use := none) O hlen hcal hi hg he I h (fun C acc H' s' m J hn f q => ⟨m, hn, fun h' hs' => ⟨.ref acc, H', J.turned (t' := s'.toks) (fun b o hb e => (hs'.2 b hb).trans e) f.1 f.2.1 f.2.2.2.1 f.2.2.2.2.1 f.2.2.2.2.2, rfl, q⟩⟩) hs
theorem ps_setComp {elt iter tg : Expr} {pos spos py : Pos} {y : Str} {j : Nat} {wi : TI} {g : TG} {te : TE} (k : Nat) (O : CompOk X.N X.env.scope N' scope) (hcal : X.calm = true) (hi : PI X tg iter wi)
  (hg : ∀ C s₃ H₃ ex pn, PG (compCx X N' scope C s₃ H₃ ex pn) tg g) (he : ∀ C s₃ H₃ ex pn, PE (compCx X N' scope C s₃ H₃ ex pn) elt te)
  (hN : X.N.Nodup) (hj : X.N[j]? = some y) (hy : X.env.scope.names.lookup y = some .local) (hsw : swapsWith (.ListComp elt [⟨tg, iter, [], 0⟩] scope pos) (some (.Name y py)) spos.line X.env = pure true)
  (hlen : X.N.length + k = N'.length := by rfl) (hs : ∀ x, foldedSetIterable iter X.env x = pure x := by intro _; rfl) : PS X (.Assign [.Name y py] (.ListComp elt [⟨tg, iter, [], 0⟩] scope pos) spos) (tAsg (tComp wi g te k) (gName j)) := by
 intro pins s σ H D I h
 rw [exec_Assign_Name_used _ _ _ _ hsw]
 refine wpAny_bind (wpAny_standAt (wpAny_bind ?_))
 show wpAny _ X.A (do let _ ← comprehension (.ListComp elt [⟨tg, iter, [], 0⟩] scope pos) scope X.env _ (newList []) false (eval iter X.env) (some (assign (.Name y py) X.env))) _ _ s
 refine wpAny_bind (wpAny_mono (comp_run (use := some (assign (.Name y py) X.env)) (Qf := fun _ s' => SP X pins D .next s') O hlen hcal hi hg he I h (fun C acc H' s' m J hn f q => ?_) hs) (fun _ s' hq => wpAny_pure (wpAny_pure hq)) fun _ _ e => e)
 show wpAny _ X.A (assign (.Name y py) X.env (.ref acc)) _ _ _
 refine wpAny_assign_Name ?_
 refine store_ok2 J hN hj (.inl hy) (v := .ref acc) rfl (fun s2 J2 ⟨a, hsb, ha⟩ => ?_) (.inr hy)
 have haC : C ≠ a := by
  rcases ha with z | z
  ·rw [z]; exact f.2.1
  ·exact fun e => f.2.2.2.2.1 _ _ z e.symm
 exact ⟨m, hn.sameBut hsb haC, fun h' hs' => ⟨σ.set j (some (.ref acc)), H', J2.turned (t' := s2.toks) (fun b o hb e => (hs'.2 b hb).trans e) f.1 f.2.1 f.2.2.2.1 f.2.2.2.2.1 f.2.2.2.2.2, q⟩⟩
end
end Np
end
section
namespace Np
open PySem PySem.Spec PyProof.Rows L2
theorem RepS.more {G : Gx} {H : Hp} {W : Wd} {δ : DS} {σ : L2.St} (h : RepS G H W δ σ) (k : Nat) : RepS G H W (δ ++ List.replicate k none) (σ ++ List.replicate k none) := by
 refine ⟨by simp [h.1], fun i d e => ?_⟩
 by_cases hi : i < δ.length
 ·rw [List.getElem?_append_left hi] at e
  obtain ⟨v, e1, r⟩ := h.2 i d e
  exact ⟨v, by rw [List.getElem?_append_left (h.1 ▸ hi)]; exact e1, r⟩
 ·rw [List.getElem?_append_right (by omega), List.getElem?_replicate] at e
  split at e <;> cases e
theorem compD_cases {src : Src} {g : DG} {e : DE} {n i : Nat} {δ : DS} {S : Sto} {r : Rs (List D)} (h : compD src g e n i δ S = some r) :
  (src.get S i = some none ∧ r = .ok [] S) ∨ ∃ x m, n = m + 1 ∧ src.get S i = some (some x) ∧ bnd (g x δ S) (compK e (compD src g e m (i + 1))) = some r := by
 cases n with
 | zero =>
  unfold compD at h
  split at h
  ·rename_i e
   exact .inl ⟨e, (Option.some.inj h).symm⟩
  ·cases h
 | succ n =>
  unfold compD at h
  split at h
  ·rename_i e
   exact .inl ⟨e, (Option.some.inj h).symm⟩
  ·rename_i x e
   exact .inr ⟨x, n, rfl, e, h⟩
  ·cases h
section
variable {X : Cx} {E : XK} {N' : List Str} {scope : Scope}
theorem tF_comp {gi : DI} {k : Nat} {g : DG} {ge : DE} : ∀ σ H Q, tF (gx X) E (compE gi k g ge) σ H Q → tComp (tFI (gx X) E gi) (tFG (gx X) E0 g) (tF (gx X) E0 ge) k σ H Q := by
 intro σ H Q ⟨W, δ, rr, hS, hδ, hg, hA⟩
 refine Go.thn hS hδ hg hA fun src H1 W1 s1 hδ1 hg1 hA1 J hJ => ?_
 have q' : (if src.len W1.S ≤ 1000000 then bnd (noer (compD src g ge (src.len W1.S) 0 (δ ++ List.replicate k none) W1.S)) lstK else none) = some rr := hg1
 split at q'
 ·rename_i hsz
  rcases bnd_some q' with ⟨ds, S2, e2, q2⟩ | ⟨c, S2, e2, _⟩
  ·obtain ⟨ds', S2', e3, e4⟩ := noer_some e2
   cases e4
   refine ⟨fun i n vs σ2 H2 => i + n = src.len W1.S ∧ ∃ W2 δ2 ds1 ds2, Nxt (gx X) H1 W1 H2 W2 ∧ RepS (gx X) H2 W2 δ2 σ2 ∧ ds = ds1 ++ ds2 ∧ ds1.length = i ∧ RepL (gx X) H2 W2 ds1 vs ∧ compD src g ge n i δ2 W2.S = ok ds2 S2,
    ⟨src.len W1.S, by simp, W1, _, [], ds, .rfl s1.ok, hδ1.more k, rfl, rfl, rfl, e3⟩, ?_⟩
   rintro i n vs σ2 H2 ⟨hn, W2, δ2, ds1, ds2, s2, hδ2, hds, hl1, rl, hc⟩
   obtain ⟨w1, w2⟩ := hJ i H2 W2 s2
   rcases compD_cases hc with ⟨hend, hr⟩ | ⟨x, m, rfl, hx, hb⟩
   ·refine .inl ⟨w1 hend, fun p hp => ?_⟩
    cases hr
    rw [List.append_nil] at hds
    subst hds
    exact new_lst s2.ok q2 (hA1.nxt s2) rl hp
   ·obtain ⟨wg, wy⟩ := w2 x hx
    refine .inr ⟨wg, ?_, fun v H3 y => ?_⟩
    ·rw [← rl.length, hl1]
     exact Nat.lt_of_lt_of_le (by omega) (sz hsz)
    ·obtain ⟨W3, e3', s3, rx⟩ := wy v H3 y
     rcases bnd_some hb with ⟨δ4, S4, e4, q4⟩ | ⟨c, S4, _, q4⟩
     ·refine ⟨W3, δ2, x, .ok δ4 S4, s3.ok, hδ2.mv (s3.mv s2.ok), rx, by rw [e3']; exact e4, fun H4 W4 eS4 s4 σ4 hδ4 => ?_⟩
      rcases bnd_some (show bnd (ge δ4 S4) (compK2 (compD src g ge m (i + 1)) δ4) = some (Rs.ok ds2 S2) from q4) with ⟨d, S5, e5, q5⟩ | ⟨c, S5, _, q5⟩
      ·refine ⟨W4, δ4, .ok d S5, s4.ok, hδ4, by rw [eS4]; exact e5, fun H5 W5 eS5 s5 v' rv => ?_⟩
       rcases bnd_some (show bnd (compD src g ge m (i + 1) δ4 S5) (consK d) = some (Rs.ok ds2 S2) from q5) with ⟨ds3, S6, e6, q6⟩ | ⟨c, S6, _, q6⟩
       ·have q6' : Rs.ok (d :: ds3) S6 = Rs.ok ds2 S2 := Option.some.inj q6
        cases q6'
        refine ⟨m, Nat.lt_succ_self m, by omega, W5, δ4, ds1 ++ [d], ds3, ((s2.trans s3).trans s4).trans s5, hδ4.mv (s5.mv s4.ok), by rw [hds]; simp, by simp [hl1], ?_, by rw [eS5]; exact e6⟩
        exact (rl.mv (((s3.trans s4).trans s5).mv s2.ok)).append (RepL.one rv)
       ·cases q6
      ·cases q5
     ·cases q4
  ·obtain ⟨_, _, _, z⟩ := noer_some e2
   cases z
 ·cases q'
theorem pd_comp {elt iter tg : Expr} {pos : Pos} {gi : DI} {g : DG} {ge : DE} (k : Nat) (O : CompOk X.N X.env.scope N' scope) (hcal : X.calm = true) (hi : PDI X E tg iter gi)
  (hg : ∀ C s₃ H₃ ex pn, PDG (compCx X N' scope C s₃ H₃ ex pn) E0 tg g) (he : ∀ C s₃ H₃ ex pn, PDE (compCx X N' scope C s₃ H₃ ex pn) E0 elt ge)
  (hlen : X.N.length + k = N'.length := by rfl) (hs : ∀ x, foldedSetIterable iter X.env x = pure x := by intro _; rfl) : PDE X E (.ListComp elt [⟨tg, iter, [], 0⟩] scope pos) (compE gi k g ge) := by
 first
 | exact (
  PE.imp (pe_comp (g := tFG (gx X) E0 g) (te := tF (gx X) E0 ge) k O hcal hi hg he hlen hs) tF_comp)
 | ((try unfold PDE at *); (try unfold PDG at *); (try unfold PDI at *); exact (
  PE.imp (pe_comp (g := tFG (gx X) E0 g) (te := tF (gx X) E0 ge) k O hcal hi hg he hlen hs) tF_comp))
theorem pd_setComp (j : Nat) {elt iter tg : Expr} {pos spos py : Pos} {y : Str} {gi : DI} {g : DG} {ge : DE} (k : Nat) (O : CompOk X.N X.env.scope N' scope) (hcal : X.calm = true) (hi : PDI X E tg iter gi)
  (hg : ∀ C s₃ H₃ ex pn, PDG (compCx X N' scope C s₃ H₃ ex pn) E0 tg g) (he : ∀ C s₃ H₃ ex pn, PDE (compCx X N' scope C s₃ H₃ ex pn) E0 elt ge)
  (hN : X.N.Nodup) (hj : X.N[j]? = some y := by rfl) (hy : X.env.scope.names.lookup y = some .local := by rfl) (hsw : swapsWith (.ListComp elt [⟨tg, iter, [], 0⟩] scope pos) (some (.Name y py)) spos.line X.env = pure true := by rfl)
  (hlen : X.N.length + k = N'.length := by rfl) (hs : ∀ x, foldedSetIterable iter X.env x = pure x := by intro _; rfl) : PDS X E (.Assign [.Name y py] (.ListComp elt [⟨tg, iter, [], 0⟩] scope pos) spos) (setS j (compE gi k g ge)) := by
 try unfold PDE at *
 try unfold PDS at *
 try unfold PDG at *
 try unfold PDI at *
 refine PS.imp (ps_setComp (g := tFG (gx X) E0 g) (te := tF (gx X) E0 ge) k O hcal hi hg he hN hj hy hsw hlen hs) fun D σ H ⟨W, δ, rr, hS, hδ, hg', hA⟩ => ?_
 refine tF_comp σ H _ (Go.thn hS hδ hg' hA fun d H1 W1 s1 hδ1 hg1 hA1 v rv => ?_)
 obtain rfl : Rs.ok (Fl.nx (δ.set j (some d))) W1.S = rr := Option.some.inj hg1
 exact hA1.now s1.ok _ (hδ1.set j rv)
end
def Itz (K : PySem.W.Frag) (a b : Addr) : It :=
  ⟨fun i H => ∃ xs ys x y, SqL K H a xs ∧ SqL K H b ys ∧ xs[i]? = some x ∧ ys[i]? = some y,
   fun i H v H' => ∃ p x y, v = .ref p ∧ H p = none ∧ H' = upd H p (.tup [x, y]) ∧ (∀ xs, SqL K H a xs → xs[i]? = some x) ∧ ∀ ys, SqL K H b ys → ys[i]? = some y,
   fun i H => ∃ xs ys, SqL K H a xs ∧ SqL K H b ys ∧ (xs.length ≤ i ∨ ys.length ≤ i)⟩
theorem Inv.moved {X : Cx} {pins : List (Addr × Obj)} {σ : L2.St} {H : Hp} {s : Shared} {h' : Heap} {t' : Nat} {ch : List Addr} {p : Addr} {o : HO} (I : Inv X pins σ H s) (hch : ∀ b ∈ ch, FpOk X pins H b) (k : ∀ b u, b ∉ ch → s.heap.get? b = some u → h'.get? b = some u) (hp : s.heap.objs.size ≤ p)
  (new : ObjOk X.prog X.w (upd H p o) h' p o) : Inv X pins σ (upd H p o) { s with heap := h', toks := t' } := by
 have hn : H p = none := I.hok.fresh hp
 have nch : ∀ b u, H b = some u → b ∉ ch := fun b u e z => by rw [(hch b z).1] at e; cases e
 have ne : ∀ b u, H b = some u → b ≠ p := fun b u q => ne_of_none q hn
 refine I.step (g' := s.gens) (d' := s.drawn) (ch := ch) (fun b hb => ⟨(hch b hb).2.2.2.1, (hch b hb).2.1, (hch b hb).2.2.2.2.1, (hch b hb).2.2.2.2.2⟩) (fun b u _ _ hc e _ => k b u hc e) (fun b u _ _ hc e _ => ⟨u.slots, k b u hc e⟩)
  (fun b u hc e n => by rw [zO (Nat.ne_of_lt (Nat.lt_of_lt_of_le (Heap.lt_size e) hp))]; exact n) (fun b u hc e => ⟨u, k b u hc e⟩)
  (fun b xs q => by rw [zO (ne b _ q)]; exact q) (fun b u v q => by rw [zO (ne b _ q)]; exact q) (fun b ps q => ⟨#[], by rw [zO (ne b _ q), q]; simp⟩) (fun m hm => ?_) (fun b u q => ?_) I.bare
 ·obtain ⟨ob, es, ep, ho, r⟩ := hm
  refine ⟨ob, es, ep, k _ ob (fun z => (hch _ z).2.1 rfl) ho, r⟩
 ·by_cases hb : b = p
  ·subst hb
   rw [zW] at q
   cases q
   exact new
  ·rw [zO hb] at q
   refine (I.hok b u q).stay (fun c v hc z => k c v ?_ z) (fun c z => by rw [zO (ne c _ z)]; exact z) fun c xs z => by rw [zO (ne c _ z)]; exact z
   rcases hc with rfl | hc
   ·exact nch _ _ q
   ·exact nch _ _ hc
theorem turn_zip {P : Program} {w : World} {K : PySem.W.Frag} {elts : List Expr} {x1 : Nat} {tpos : Pos} {z TI TO i1 i2 l1 l2 : Addr} (D : ZipApart z TI TO i1 i2 l1 l2) :
  Turn P w K (.Tuple elts x1 tpos) (Itz K l1 l2) [z, TI, TO, i1, i2] z (fun i h => IsZip h z TI TO .none ∧ IsPair h TI (.ref i1) (.ref i2) ∧ (∃ a b, IsPair h TO a b) ∧ h.IsListIter i1 l1 i ∧ h.IsListIter i2 l2 i) where
 mem := by simp
 obj := fun i h st b hb => by
  obtain ⟨hz, hTI, ⟨u, v, hTO⟩, h1, h2⟩ := st
  simp only [List.mem_cons, List.not_mem_nil, or_false] at hb
  rcases hb with rfl | rfl | rfl | rfl | rfl
  ·exact ⟨_, hz, fun v q => by cases q⟩
  ·exact ⟨_, hTI, fun v q => by cases q⟩
  ·exact ⟨_, hTO, fun v q => by cases q⟩
  ·obtain ⟨o, e, c, d⟩ := h1
   exact ⟨o, e, fun v q => by rw [d] at q; cases q⟩
  ·obtain ⟨o, e, c, d⟩ := h2
   exact ⟨o, e, fun v q => by rw [d] at q; cases q⟩
 keep := fun i h h' st k => by
  obtain ⟨hz, hTI, ⟨u, v, hTO⟩, h1, h2⟩ := st
  exact ⟨k z (by simp) _ hz, k TI (by simp) _ hTI, ⟨u, v, k TO (by simp) _ hTO⟩, h1.at fun o e => k i1 (by simp) o e, h2.at fun o e => k i2 (by simp) o e⟩
 item := by
  intro X hP hw hK hc i pins s σ H E I hf st hg
  subst hP hw hK
  obtain ⟨hz, hTI, ⟨u, v, hTO⟩, h1, h2⟩ := st
  obtain ⟨xs, ys, x, y, hqx, hqy, hx, hy⟩ := hg
  obtain ⟨its, rx, px, zx⟩ := I.list hqx
  obtain ⟨jts, ry, py, zy⟩ := I.list hqy
  obtain ⟨ux, hux, rux⟩ := rx.get hx
  obtain ⟨uy, huy, ruy⟩ := ry.get hy
  refine wpAny_pyNext_zip_item D hz hTI hTO h1 h2 px.isList py.isList (x := ux) (y := uy) (by simpa using hux) (by simpa using huy) fun h' a1 a2 a3 a4 a5 a6 hk => ?_
  refine ⟨_, rfl, wpAny_letOwnedTupleGo_zip a1 fun h'' hz' hs' => ?_⟩
  have hTn : s.heap.objs.size ≠ z := Nat.ne_of_gt (Heap.lt_size hz)
  have kk : ∀ b o, b ∉ [z, TI, TO, i1, i2] → s.heap.get? b = some o → h''.get? b = some o := fun b o hb e => by
   simp only [List.mem_cons, List.not_mem_nil, or_false, not_or] at hb
   exact hs'.extBut _ _ hb.1 (hk b o hb.1 hb.2.2.1 hb.2.2.2.1 hb.2.2.2.2 e)
  have hp5 : IsPair h'' s.heap.objs.size ux uy := hs'.extBut _ _ hTn a5
  have new : ObjOk X.prog X.w (upd H s.heap.objs.size (.tup [x, y])) h'' s.heap.objs.size (.tup [x, y]) := ⟨by show 2 ≤ sizeLine; decide, [ux, uy], .cons rux (.cons ruy .nil), ⟨_, hp5, rfl, _, rfl⟩⟩
  have I5 := Inv.moved (s := s) (h' := h'') (t' := s.toks) I hf kk (Nat.le_refl _) new
  refine ⟨.ref s.heap.objs.size, upd H s.heap.objs.size (.tup [x, y]), I5, rfl, ⟨s.heap.objs.size, x, y, rfl, I.hok.fresh (Nat.le_refl _), rfl, fun ws hws => by rw [I.list_inj hws hqx]; exact hx, fun ws hws => by rw [I.list_inj hws hqy]; exact hy⟩, ?_, fun b hb => ?_⟩
  ·exact ⟨hz', hs'.extBut _ _ D.TIz (hk _ _ D.TIz D.TITO D.TIi1 D.TIi2 hTI), ⟨_, _, hs'.extBut _ _ D.TOz a2⟩, a3.extBut hs'.extBut D.i1z, a4.extBut hs'.extBut D.i2z⟩
  ·have hlt : b < s.heap.objs.size := by
    simp only [List.mem_cons, List.not_mem_nil, or_false] at hb
    rcases hb with rfl | rfl | rfl | rfl | rfl
    ·exact Heap.lt_size hz
    ·exact Heap.lt_size hTI
    ·exact Heap.lt_size hTO
    ·obtain ⟨o, e, _⟩ := h1; exact Heap.lt_size e
    ·obtain ⟨o, e, _⟩ := h2; exact Heap.lt_size e
   rw [zO (Nat.ne_of_lt hlt)]
   exact (hf b hb).1
 done := by
  intro X hP hw hK hc i pins s σ H E I hf st hg
  subst hP hw hK
  obtain ⟨hz, hTI, ⟨u, v, hTO⟩, h1, h2⟩ := st
  obtain ⟨xs, ys, hqx, hqy, hend⟩ := hg
  obtain ⟨its, rx, px, zx⟩ := I.list hqx
  obtain ⟨jts, ry, py, zy⟩ := I.list hqy
  have lx := rx.length
  have ly := ry.length
  refine wpAny_pyNext_zip_end (I.ok.hd hc) D hz hTI hTO h1 h2 px.isList py.isList (by
   rcases hend with z | z
   ·exact .inl (by simp; omega)
   ·exact .inr (by simp; omega)) fun h' hk => ⟨rfl, ?_⟩
  have nch : ∀ b u, H b = some u → b ∉ [z, TI, TO, i1, i2] := fun b u e zz => by rw [(hf b zz).1] at e; cases e
  have kk : ∀ b o, b ∉ [z, TI, TO, i1, i2] → s.heap.get? b = some o → h'.get? b = some o := fun b o hb e => by
   simp only [List.mem_cons, List.not_mem_nil, or_false, not_or] at hb
   exact hk b o hb.1 hb.2.2.1 hb.2.2.2.1 hb.2.2.2.2 e
  refine I.step (g' := s.gens) (d' := s.drawn) (t' := s.toks) (ch := [z, TI, TO, i1, i2]) (fun b hb => ⟨(hf b hb).2.2.2.1, (hf b hb).2.1, (hf b hb).2.2.2.2.1, (hf b hb).2.2.2.2.2⟩) (fun b u _ _ hc e _ => kk b u hc e) (fun b u _ _ hc e _ => ⟨u.slots, kk b u hc e⟩)
   (fun _ _ _ _ n => n) (fun b u hc e => ⟨u, kk b u hc e⟩) (fun _ _ q => q) (fun _ _ _ q => q) (fun b ps q => ⟨#[], by rw [q]; simp⟩) (fun m hm => ?_) (fun b u q => ?_) I.bare
  ·obtain ⟨ob, es, ep, ho, r⟩ := hm
   exact ⟨ob, es, ep, kk _ ob (fun z => (hf _ z).2.1 rfl) ho, r⟩
  ·refine (I.hok b u q).stay (fun c v hc zz => kk c v ?_ zz) (fun c zz => zz) fun c xs zz => zz
   rcases hc with rfl | hc
   ·exact nch _ _ q
   ·exact nch _ _ hc
 self := fun _ _ _ _ _ st h => wpAny_pyIter_zip st.1 h
section
variable {X : Cx} {E : XK}
def iZip (K : PySem.W.Frag) (ta : TA) : TI := fun σ H R => ta σ H fun vs H1 => ∃ a b, vs = [.ref a, .ref b] ∧ (∃ xs, SqL K H1 a xs) ∧ (∃ ys, SqL K H1 b ys) ∧ R (Itz K a b) H1
theorem boot_zip : bootBuiltins "zip" = some (.type "zip") := by decide +kernel
theorem pi_zip {a b : Expr} {ta : TA} {p pos tpos : Pos} {elts : List Expr} {x1 : Nat} (hg : Gl X "zip") (hm : X.mg "zip" = none) (ha : PA X [a, b] ta) (hs : starEach [a, b] X.env = (false, eval a X.env) :: starEach [b] X.env) (hs2 : (backTo pos (starEach [b] X.env)).any (·.1) = false) :
  PI X (.Tuple elts x1 tpos) (.Call (.Name "zip" p) [a, b] [] pos) (iZip X.K ta) := by
 intro pins s σ H R I h
 refine Call_ (ld_blt I hg hm boot_zip (PyProof.Rows.callWith_type1 (thn (ha pos pins s σ H _ I h) fun us s1 ⟨vs, H1, I1, r1, q1⟩ => ?_) hs hs2))
 obtain ⟨l1, l2, e, ⟨xs, hqx⟩, ⟨ys, hqy⟩, q⟩ := q1
 subst e
 obtain ⟨u, v, rfl, ru, rv⟩ := Vals.two r1
 cases ru
 cases rv
 obtain ⟨its, rx, px, zx⟩ := I1.list hqx
 obtain ⟨jts, ry, py, zy⟩ := I1.list hqy
 refine call_zip_2 px.isList py.isList fun h' a1 a2 a3 a4 a5 a6 hk => wpAny_pyIter_zip a1 ?_
 have I2 : Inv X pins σ H1 { s1 with heap := h' } := I1.kept (t' := s1.toks) hk
 have lt1 : l1 < s1.heap.objs.size := by obtain ⟨o, e, _⟩ := px.isList; exact Heap.lt_size e
 have lt2 : l2 < s1.heap.objs.size := by obtain ⟨o, e, _⟩ := py.isList; exact Heap.lt_size e
 generalize hn : s1.heap.objs.size = n at *
 have w1 : ∀ m : Nat, n ≤ m → l1 ≠ m := fun m h => Nat.ne_of_lt (Nat.lt_of_lt_of_le lt1 h)
 have w2 : ∀ m : Nat, n ≤ m → l2 ≠ m := fun m h => Nat.ne_of_lt (Nat.lt_of_lt_of_le lt2 h)
 have D : ZipApart (n + 4) (n + 2) (n + 3) n (n + 1) l1 l2 := by
  constructor <;> first
   | exact w1 _ (by show (_ : Nat) ≤ _; omega)
   | exact w2 _ (by show (_ : Nat) ≤ _; omega)
   | (show (_ : Nat) ≠ _; omega)
 refine ⟨n + 4, [n + 4, n + 2, n + 3, n, n + 1], _, _, H1, rfl, I2, turn_zip D, ⟨a1, a2, ⟨_, _, a3⟩, a4, a5⟩, fun b hb => ?_, q⟩
 have hb' : n ≤ b := by
  simp only [List.mem_cons, List.not_mem_nil, or_false] at hb
  rcases hb with rfl | rfl | rfl | rfl | rfl <;> (show (_ : Nat) ≤ _; omega)
 exact I1.fpOk (by rw [hn]; exact hb') (I1.hok.fresh (by rw [hn]; exact hb'))
theorem two_some {a b : Nat} {S : Sto} {i : Nat} {o : Option D} (h : (Src.two a b).get S i = some o) : ∃ ds es, zH S a = some ds ∧ zH S b = some es ∧ two1 ds[i]? es[i]? = o := by
 have h' : (match zH S a, zH S b with | some xs, some ys => some (two1 xs[i]? ys[i]?) | _, _ => none) = some o := h
 cases q : zH S a with
 | none => rw [q] at h'; cases h'
 | some ds =>
  cases q2 : zH S b with
  | none => rw [q, q2] at h'; cases h'
  | some es => rw [q, q2] at h'; exact ⟨ds, es, rfl, rfl, Option.some.inj h'⟩
theorem two1_some {x y : Option D} {d : D} (h : two1 x y = some d) : ∃ u v, x = some u ∧ y = some v ∧ d = .tup [u, v] := by
 cases x with
 | none => cases h
 | some u =>
  cases y with
  | none => cases h
  | some v => exact ⟨u, v, rfl, rfl, (Option.some.inj h).symm⟩
theorem two1_none {x y : Option D} (h : two1 x y = none) : x = none ∨ y = none := by
 cases x with
 | none => exact .inl rfl
 | some u =>
  cases y with
  | none => exact .inr rfl
  | some v => cases h
theorem walks_zip {G : Gx} {H : Hp} {W : Wd} {a b : Nat} (ha : a < W.S.length) (hb : b < W.S.length) : Walks G (Itz G.K (W.μ a) (W.μ b)) H W (.two a b) := fun i H1 W1 s1 => by
 refine ⟨fun h => ?_, fun d hd => ?_⟩
 ·obtain ⟨ds, es, ea, eb, hn⟩ := two_some h
  obtain ⟨xs, _, qx, rx⟩ := s1.ok.lst (v := .ref (W1.μ a)) ⟨Nat.lt_of_lt_of_le ha s1.len, rfl⟩ ea
  obtain ⟨ys, _, qy, ry⟩ := s1.ok.lst (v := .ref (W1.μ b)) ⟨Nat.lt_of_lt_of_le hb s1.len, rfl⟩ eb
  rw [s1.old a ha] at qx
  rw [s1.old b hb] at qy
  refine ⟨xs, ys, .inl (.inl qx), .inl (.inl qy), ?_⟩
  rcases two1_none hn with h | h
  ·exact .inl (by rw [← rx.length]; exact List.getElem?_eq_none_iff.mp h)
  ·exact .inr (by rw [← ry.length]; exact List.getElem?_eq_none_iff.mp h)
 ·obtain ⟨ds, es, ea, eb, hn⟩ := two_some hd
  obtain ⟨xs, _, qx, rx⟩ := s1.ok.lst (v := .ref (W1.μ a)) ⟨Nat.lt_of_lt_of_le ha s1.len, rfl⟩ ea
  obtain ⟨ys, _, qy, ry⟩ := s1.ok.lst (v := .ref (W1.μ b)) ⟨Nat.lt_of_lt_of_le hb s1.len, rfl⟩ eb
  rw [s1.old a ha] at qx
  rw [s1.old b hb] at qy
  obtain ⟨u, v, hu, hv, rfl⟩ := two1_some hn
  obtain ⟨vx, ex, rvx⟩ := rx.get hu
  obtain ⟨vy, ey, rvy⟩ := ry.get hv
  refine ⟨⟨xs, ys, vx, vy, .inl (.inl qx), .inl (.inl qy), ex, ey⟩, fun z H3 hz => ?_⟩
  obtain ⟨p, x', y', rfl, hp, rfl, k1, k2⟩ := hz
  have e1 := k1 xs (.inl (.inl qx))
  have e2 := k2 ys (.inl (.inl qy))
  rw [ex] at e1
  rw [ey] at e2
  cases e1
  cases e2
  have sn := Nxt.heap s1.ok hp (HO.tup [vx, vy])
  exact ⟨W1, rfl, sn, p, _, rfl, SqT.of zW, ⟨vx, _, rfl, rvx.mv (sn.mv s1.ok), ⟨vy, _, rfl, rvy.mv (sn.mv s1.ok), rfl⟩⟩⟩
theorem pdi_zip {a b : Expr} {ga gb : DE} {p pos tpos : Pos} {elts : List Expr} {x1 : Nat} (hg : Gl X "zip") (hm : X.mg "zip" = none) (ha : PDE X E a ga) (hb : PDE X E b gb) (hs : starEach [a, b] X.env = (false, eval a X.env) :: starEach [b] X.env := by rfl) (hs2 : (backTo pos (starEach [b] X.env)).any (·.1) = false := by rfl)
  (hst2 : starEach (b :: []) X.env = (false, eval b X.env) :: starEach [] X.env := by rfl) : PDI X E (.Tuple elts x1 tpos) (.Call (.Name "zip" p) [a, b] [] pos) (itA zip2D (yF ga (yF gb aNil))) := by
 try unfold PDE
 try unfold PDI at *
 intro pins s σ H R I ⟨W, δ, rr, hS, hδ, hg', hA⟩
 refine pi_zip hg hm (zB ha (zB hb zE hst2) hs).o hs hs2 pins s σ H R I (Go.thn hS hδ hg' hA fun ds H1 W1 s1 hδ1 hg1 hA1 vs rv => ?_)
 unfold zip2D at hg1
 split at hg1
 ·rename_i a b
  split at hg1
  ·rename_i xs ys ea eb
   obtain rfl : Rs.ok (Src.two a b) W1.S = rr := Option.some.inj hg1
   obtain ⟨v, r, e, rx, t⟩ := rv
   obtain ⟨v2, r2, e2, ry, t2⟩ := t
   have t2 : r2 = [] := t2
   obtain ⟨us, eu, qu, _⟩ := s1.ok.lst rx ea
   obtain ⟨ws, ew, qw, _⟩ := s1.ok.lst ry eb
   subst e e2 eu ew t2
   exact ⟨_, _, rfl, ⟨us, .inl (.inl qu)⟩, ⟨ws, .inl (.inl qw)⟩, hA1.now s1.ok _ (walks_zip rx.1 ry.1)⟩
  ·cases hg1
 ·cases hg1
end
end Np
end
section
namespace Np
open PySem PySem.Spec PyProof.Rows L2
theorem put_lst {G : Gx} {H : Hp} {W : Wd} {E : XK} {Q : VK} {ds : List D} {vs : List V} {a : Nat} (hS : StOk G H W) (ha : a < W.S.length) (hA : After G E H W (.ok D.non (W.S.set a (.lst ds))) (VP G Q)) (rl : RepL G H W ds vs) : Q .non (upd H (W.μ a) (.lst vs)) :=
 hA _ (W.put a (.lst ds)) rfl (Nxt.write hS ha ⟨vs, zW, rl.mv (Mv.put hS ha _ _)⟩) .non rfl
section
variable {X : Cx} {E : XK} {o e e2 : Expr} {go ge ge2 : DE} {apos cpos : Pos}
theorem isL_true {x : D} {S : Sto} (h : isL x S = true) : ∃ a xs, x = .ref a ∧ zH S a = some xs := by
 cases x with
 | ref a =>
  have h : (zH S a).isSome = true := h
  obtain ⟨xs, e⟩ := Option.isSome_iff_exists.mp h
  exact ⟨a, xs, rfl, e⟩
 | _ => cases h
theorem tyV_list {K : PySem.W.Frag} {H : Hp} {p : Addr} {xs : List V} (h : H p = some (.lst xs)) : tyV K "list" (.ref p) H := .inl ⟨rfl, xs, .inl (.inl h)⟩
theorem tF_meth {r : V → List V → Hp → VK → Prop} {f : D → D → Sto → R D} (hf : ∀ (E : XK) (H : Hp) (W : Wd) (x y : V) (dx dy : D) (Q : VK) (rr : Rs D), StOk (gx X) H W → Rep (gx X) H W dx x → Rep (gx X) H W dy y → f dx dy W.S = some rr → After (gx X) E H W rr (VP (gx X) Q) → r x [y] H Q) :
  ∀ σ H Q, tF (gx X) E (opM f go ge) σ H Q → tBM X.K "list" r (tF (gx X) E go) (tFA (gx X) E (yF ge aNil)) σ H Q := by
 intro σ H Q ⟨W, δ, rr, hS, hδ, hg, hA⟩
 refine Go.thn hS hδ hg hA fun dx H1 W1 s1 hδ1 hg1 hA1 x rx => ?_
 unfold opMK at hg1
 split at hg1
 ·rename_i hl
  obtain ⟨a, xs, rfl, el⟩ := isL_true hl
  obtain ⟨us, ex, hq, rl⟩ := s1.ok.lst rx el
  subst ex
  refine ⟨tyV_list hq, ?_⟩
  rcases bnd_some hg1 with ⟨dy, S2, e2, q2⟩ | ⟨c, S2, e2, q2⟩
  ·refine ⟨W1, δ, .ok [dy] S2, s1.ok, hδ1, by show bnd (ge δ W1.S) (aConsK aNil δ) = _; rw [e2]; rfl, fun H2 W2 eS s2 vs rvs => ?_⟩
   obtain ⟨y, r', rfl, ry, t⟩ := rvs
   have t : r' = [] := t
   subst t
   subst eS
   exact hf E H2 W2 _ y (.ref a) dy Q rr s2.ok (Rep.mv (s2.mv s1.ok) rx) ry q2 (hA1.nxt s2)
  ·subst q2
   exact ⟨W1, δ, .er c S2, s1.ok, hδ1, by show bnd (ge δ W1.S) (aConsK aNil δ) = _; rw [e2]; rfl, hA1⟩
 ·cases hg1
theorem md_append (E : XK) (H : Hp) (W : Wd) (x y : V) (dx dy : D) (Q : VK) (rr : Rs D) (hS : StOk (gx X) H W) (rx : Rep (gx X) H W dx x) (ry : Rep (gx X) H W dy y) (e : appD dx dy W.S = some rr) (hA : After (gx X) E H W rr (VP (gx X) Q)) : rAppend x [y] H Q := by
 unfold appD at e
 split at e
 ·rename_i a
  split at e
  ·rename_i xs hx
   split at e
   ·rename_i hl
    obtain rfl : Rs.ok D.non (W.S.set a (.lst (xs ++ [dy]))) = rr := Option.some.inj e
    obtain ⟨us, ex, hq, rl⟩ := hS.lst rx hx
    exact ⟨_, us, y, ex, rfl, hq, by rw [← rl.length]; exact Nat.lt_of_lt_of_le hl (sz (Nat.le_refl _)), put_lst hS rx.1 hA (rl.append (RepL.one ry))⟩
   ·cases e
  ·cases e
 ·cases e
theorem pd_append (ho : PDE X E o go) (he : PDE X E e ge) (hbase : attributeBase o "append" X.env (eval o X.env) = eval o X.env := by rfl)
  (hfew : ((backTo cpos (starEach (e :: []) X.env)).all (fun x => !x.1) && (backToKw cpos (keywordEach [] X.env)).all (fun x => x.1.isSome) && decide ((e :: []).length + ([] : List Keyword).length + (if ([] : List Keyword).isEmpty then 0 else 1) < 30)) = true := by rfl)
  (hline : (apos.endLine == cpos.line) = true := by rfl) (hs : starEach (e :: []) X.env = (false, eval e X.env) :: starEach [] X.env := by rfl) (hplain : (backTo cpos (starEach [] X.env)).any (·.1) = false := by rfl) :
  PDE X E (.Call (.Attribute o "append" apos) [e] [] cpos) (opM appD go ge) := by
 first
 | exact (
  PE.imp (pe_bm PySem.F.plainAttrs_list PySem.F.slot_list_append PySem.F.type_list_append mt_append ho.o (zB he zE hs).o hbase hfew hline hs hplain) (tF_meth md_append))
 | ((try unfold PDE); exact (
  PE.imp (pe_bm PySem.F.plainAttrs_list PySem.F.slot_list_append PySem.F.type_list_append mt_append ho.o (zB he zE hs).o hbase hfew hline hs hplain) (tF_meth md_append)))
def tFO (G : Gx) (E : XK) (g : DO) : TO := fun σ H Q => Go G E g (fun i H' _ => Q i H') σ H
@[irreducible] def PDO (X : Cx) (E : XK) (e : Option Expr) (g : DO) : Prop := PO X e (tFO (gx X) E g)
theorem PO.imp {X : Cx} {e : Option Expr} {t t' : TO} (h : PO X e t) (hi : ∀ σ H Q, t' σ H Q → t σ H Q) : PO X e t' := fun pins s σ H Q I q => h pins s σ H Q I (hi σ H Q q)
theorem pdo_no : PDO X E none noP := by
 first
 | exact (
  PO.imp po_none fun σ H Q ⟨W, δ, rr, hS, hδ, hg, hA⟩ => by
   obtain rfl : Rs.ok none W.S = rr := Option.some.inj hg
   exact hA.now hS)
 | ((try unfold PDO at *); exact (
  PO.imp po_none fun σ H Q ⟨W, δ, rr, hS, hδ, hg, hA⟩ => by
   obtain rfl : Rs.ok none W.S = rr := Option.some.inj hg
   exact hA.now hS))
theorem pdo_at (he : PDE X E e ge) : PDO X E (some e) (atP ge) := by
 first
 | exact (
  PO.imp (po_some he) fun σ H Q ⟨W, δ, rr, hS, hδ, hg, hA⟩ => by
   refine Go.thn hS hδ hg hA fun d H1 W1 s1 hδ1 hg1 hA1 v rv => ?_
   cases d with
   | int i =>
    obtain rfl : Rs.ok (some i) W1.S = rr := Option.some.inj hg1
    exact ⟨i, rv, hA1.now s1.ok⟩
   | _ => cases hg1)
 | ((try unfold PDE at *); (try unfold PDO at *); exact (
  PO.imp (po_some he) fun σ H Q ⟨W, δ, rr, hS, hδ, hg, hA⟩ => by
   refine Go.thn hS hδ hg hA fun d H1 W1 s1 hδ1 hg1 hA1 v rv => ?_
   cases d with
   | int i =>
    obtain rfl : Rs.ok (some i) W1.S = rr := Option.some.inj hg1
    exact ⟨i, rv, hA1.now s1.ok⟩
   | _ => cases hg1))
theorem RepL.cut {G : Gx} {H : Hp} {W : Wd} {ds : List D} {vs : List V} (h : RepL G H W ds vs) (lo hi : Option Int) : RepL G H W (cutD ds lo hi) (cutV vs lo hi) := by
 have e : ∀ (n d : Nat) (o : Option Int), sIxD n d o = HT.sIx n d o := fun n d o => by cases o <;> rfl
 unfold cutD cutV
 rw [e, e, h.length]
 exact (h.drop _).take _
theorem pd_slice {lo hi : Option Expr} {gl gh : DO} {p2 pos : Pos} (he : PDE X E e ge) (hl : PDO X E lo gl) (hh : PDO X E hi gh) : PDE X E (.Subscript e (.Slice lo hi none p2) pos) (slE ge gl gh) := by
 try unfold PDE at *
 try unfold PDO at *
 refine PE.imp (pe_slice (SlR.or sl_list sl_tup) he hl hh) fun σ H Q ⟨W, δ, rr, hS, hδ, hg, hA⟩ => ?_
 refine Go.thn hS hδ hg hA fun dx H1 W1 s1 hδ1 hg1 hA1 x rx => ?_
 refine Go.thn s1.ok hδ1 hg1 hA1 fun l H2 W2 s2 hδ2 hg2 hA2 => ?_
 refine Go.thn s2.ok hδ2 hg2 hA2 fun h H3 W3 s3 hδ3 hg3 hA3 => ?_
 have rx3 := Rep.mv ((s2.trans s3).mv s1.ok) rx
 have hg3 : slD dx l h W3.S = some rr := hg3
 unfold slD at hg3
 split at hg3
 ·split at hg3
  ·rename_i xs hx
   obtain ⟨us, ex, hq, rl⟩ := s3.ok.lst rx3 hx
   exact .inl ⟨_, us, ex, .inl (.inl hq), fun p hp => new_lst s3.ok hg3 hA3 (rl.cut l h) hp⟩
  ·cases hg3
 ·rename_i xs
  obtain ⟨a, us, ex, q, rl⟩ := rx3
  exact .inl ⟨a, us, ex, q.sq, fun p hp => new_lst s3.ok hg3 hA3 (rl.cut l h) hp⟩
 ·rename_i xs _
  obtain ⟨a, us, ex, q, rl⟩ := rx3
  split at hg3
  ·cases hg3
  ·rename_i hw
   obtain rfl : Rs.ok (D.tup (cutD xs l h)) W3.S = rr := Option.some.inj hg3
   have e : ∀ (n d : Nat) (o : Option Int), sIxD n d o = HT.sIx n d o := fun n d o => by cases o <;> rfl
   rw [e, e, rl.length] at hw
   exact .inr ⟨a, us, ex, q, hw, fun p hp => hA3 _ W3 rfl (Nxt.heap s3.ok hp _) _ ⟨p, _, rfl, SqT.of zW, (rl.cut l h).mv (Mv.heap hp _)⟩⟩
 ·cases hg3
theorem pdg_sub {pos : Pos} (ho : PDE X E o go) (he : PDE X E e ge)
  (ha : ∀ v, assign (.Subscript o e pos) X.env v = (do
   let ov ← holding [v] (eval o X.env)
   let iv ← holding [v, ov] (eval e X.env)
   standAt pos
   holding [v, ov, iv] (setItem ov iv v)
   release [v, ov, iv] []) := by intro _; rfl) : PDG X E (.Subscript o e pos) (setXG go ge) := by
 try unfold PDE at *
 try unfold PDG at *
 intro pins s σ H v u Q I rv h
 obtain ⟨W, δ, d, rr, hS, hδ, hd, hg, hA⟩ := h
 refine pg_sub ho he set_list ha pins s σ H v u Q I rv ?_
 refine Go.thn hS hδ hg hA fun dx H1 W1 s1 hδ1 hg1 hA1 x rx => ?_
 refine Go.thn s1.ok hδ1 hg1 hA1 fun di H2 W2 s2 hδ2 hg2 hA2 i ri => ?_
 have rx2 := Rep.mv (s2.mv s1.ok) rx
 have rd2 := Rep.mv (((s1.trans s2)).mv hS) hd
 unfold setXA at hg2
 split at hg2
 ·rename_i a j
  split at hg2
  ·rename_i xs hx
   split at hg2
   ·rename_i k hk
    obtain rfl : Rs.ok δ (W2.S.set a (.lst (xs.set k d))) = rr := Option.some.inj hg2
    obtain ⟨us, ex, hq, rl⟩ := s2.ok.lst rx2 hx
    refine ⟨_, us, j, k, ex, ri, hq, by rw [← rl.length]; exact hk, ?_⟩
    have nx : Nxt (gx X) H2 W2 (upd H2 (W2.μ a) (.lst (us.set k v))) (W2.put a (.lst (xs.set k d))) := Nxt.write s2.ok rx2.1 ⟨_, zW, (rl.set rd2 k).mv (Mv.put s2.ok rx2.1 _ _)⟩
    exact hA2 _ _ rfl nx σ (hδ2.mv (nx.mv s2.ok))
   ·cases hg2
  ·cases hg2
 ·cases hg2
variable {a b c : Expr} {ga gb gc : DE} {pos : Pos}
theorem tF_chain {r r' : R2} {f f' : D → D → Sto → R D} (hf : OpD (gx X) r f) (hf' : OpD (gx X) r' f') : ∀ σ H Q, tF (gx X) E (chn f f' ga gb gc) σ H Q → tChain r r' (tF (gx X) E ga) (tF (gx X) E gb) (tF (gx X) E gc) σ H Q := by
 intro σ H Q ⟨W, δ, rr, hS, hδ, hg, hA⟩
 refine Go.thn hS hδ hg hA fun dx H1 W1 s1 hδ1 hg1 hA1 x rx => ?_
 refine Go.thn s1.ok hδ1 hg1 hA1 fun dy H2 W2 s2 hδ2 hg2 hA2 y ry => ?_
 have rx2 := Rep.mv (s2.mv s1.ok) rx
 rcases bnd_some (show bnd (f dx dy W2.S) (chnT f' gc δ dy) = some rr from hg2) with ⟨t, S3, e3, q3⟩ | ⟨c, S3, e3, q3⟩
 ·refine hf E H2 W2 x y dx dy _ (.ok t S3) s2.ok rx2 ry e3 fun H3 W3 eS s3 z rz => ?_
  subst eS
  cases t with
  | bl k =>
   refine ⟨k, rz, ?_⟩
   cases k with
   | true =>
    rw [if_pos rfl]
    refine Go.thn s3.ok (hδ2.mv (s3.mv s2.ok)) (show bnd (gc δ W3.S) (f' dy) = some rr from q3) (hA2.nxt s3) fun dw H4 W4 s4 hδ4 hg4 hA4 w rw' => ?_
    exact hf' E H4 W4 y w dy dw Q rr s4.ok (Rep.mv ((s3.trans s4).mv s2.ok) ry) rw' hg4 hA4
   | false =>
    rw [if_neg (by decide)]
    obtain rfl : Rs.ok (D.bl false) W3.S = rr := Option.some.inj q3
    exact (hA2.nxt s3).now s3.ok _ rfl
  | _ => cases q3
 ·subst q3
  exact hf E H2 W2 x y dx dy _ (.er c S3) s2.ok rx2 ry e3 hA2
theorem pd_chain {op op' : CmpOp} {r r' : R2} {f f' : D → D → Sto → R D} (ho : OpR X (compareOp op) r) (hf : OpD (gx X) r f) (ho' : OpR X (compareOp op') r') (hf' : OpD (gx X) r' f') (ha : PDE X E a ga) (hb : PDE X E b gb) (hc : PDE X E c gc)
  (hm : lastMarks [op, op'] [b, c] = false := by with_unfolding_all rfl) : PDE X E (.Compare a [op, op'] [b, c] pos) (chn f f' ga gb gc) := by
 first
 | exact (
  PE.imp (pe_chain ho ho' ha hb hc hm) (tF_chain hf hf'))
 | ((try unfold PDE at *); exact (
  PE.imp (pe_chain ho ho' ha hb hc hm) (tF_chain hf hf')))
theorem cd_lof {G : Gx} : CallD G (fun xs H Q => ∃ p ys, xs = [.ref p] ∧ (SqL G.K H p ys ∨ SqT G.K H p ys) ∧ ∀ l, H l = none → Q (.ref l) (upd H l (.lst ys))) lofD := by
 intro E H W vs ds Q rr hS rl e hA
 unfold lofD at e
 split at e
 ·rename_i a
  split at e
  ·rename_i xs hx
   obtain ⟨v, r, rfl, rx, t⟩ := rl
   have t : r = [] := t
   subst t
   obtain ⟨us, ex, hq, rl⟩ := hS.lst rx hx
   subst ex
   exact ⟨_, us, rfl, .inl (.inl (.inl hq)), fun p hp => new_lst hS e hA rl hp⟩
  ·cases e
 ·rename_i xs
  obtain ⟨v, r, rfl, ⟨a, us, rfl, q, rl⟩, t⟩ := rl
  have t : r = [] := t
  subst t
  exact ⟨a, us, rfl, .inl q.sq, fun p hp => new_lst hS e hA rl hp⟩
 ·rename_i xs
  obtain ⟨v, r, rfl, ⟨a, us, rfl, q, rl⟩, t⟩ := rl
  have t : r = [] := t
  subst t
  exact ⟨a, us, rfl, .inr q, fun p hp => new_lst hS e hA rl hp⟩
 ·cases e
theorem cd_max {G : Gx} : CallD G (fun xs H Q => ∃ i j, xs = [.int i, .int j] ∧ Q (.int (if j > i then j else i)) H) maxD := by
 intro E H W vs ds Q rr hS rl e hA
 unfold maxD at e
 split at e
 ·rename_i i j
  obtain rfl : Rs.ok (D.int (if j > i then j else i)) W.S = rr := Option.some.inj e
  obtain ⟨v, r, rfl, q, v2, r2, rfl, q2, t⟩ := rl
  have q : v = .int i := q
  have q2 : v2 = .int j := q2
  have t : r2 = [] := t
  subst q q2 t
  exact ⟨i, j, rfl, hA.now hS _ rfl⟩
 ·cases e
theorem cd_int {G : Gx} : CallD G (fun xs H Q => (∃ i, xs = [.int i] ∧ Q (.int i) H) ∨ ∃ k, xs = [.bl k] ∧ Q (.int (if k then 1 else 0)) H) intD := by
 intro E H W vs ds Q rr hS rl e hA
 unfold intD at e
 split at e
 ·rename_i i
  obtain rfl : Rs.ok (D.int i) W.S = rr := Option.some.inj e
  obtain ⟨v, r, rfl, q, t⟩ := rl
  have q : v = .int i := q
  have t : r = [] := t
  subst q t
  exact .inl ⟨i, rfl, hA.now hS _ rfl⟩
 ·rename_i i
  obtain rfl : Rs.ok (D.int (if i = true then 1 else 0)) W.S = rr := Option.some.inj e
  obtain ⟨v, r, rfl, q, t⟩ := rl
  have q : v = .bl i := q
  have t : r = [] := t
  subst q t
  exact .inr ⟨i, rfl, hA.now hS _ rfl⟩
 ·cases e
def rDvm : List V → Hp → VK → Prop := fun xs H Q => ∃ i j, xs = [.int i, .int j] ∧ j ≠ 0 ∧ ∀ p, H p = none → Q (.ref p) (upd H p (.tup [.int (i.fdiv j), .int (i.fmod j)]))
theorem call_divmodX {k : Nat} (hr : Room k X.A) (ht : X.prog.given.tree = none) (hst : X.stack = X.env :: X.outer) (hgen : X.env.scope.isGenerator = false) (hco : X.env.scope.isCoroutine = false) : CallR X (.builtin "divmod") rDvm := by
 intro pins s σ H xs us Q I r h
 obtain ⟨i, j, rfl, h1, q⟩ := h
 obtain ⟨u, w', rfl, ⟨t, rfl⟩, ⟨t', rfl⟩⟩ := vals2 r
 refine divmod_int h1 ?_ (.inr (room_pylong I hr ht hst hgen hco))
 have hn : H s.heap.objs.size = none := I.hok.fresh (Nat.le_refl _)
 refine ⟨.ref s.heap.objs.size, upd H s.heap.objs.size (.tup [.int (i.fdiv j), .int (i.fmod j)]), ?_, rfl, q _ hn⟩
 refine I.laid (fun b o e => Heap.get?_push_of_some _ e) (Nat.le_refl _) ⟨by simp only [List.length_cons, List.length_nil]; rw [sizeLine_eq]; decide, [.int (i.fdiv j) s.toks, .int (i.fmod j) (s.toks + 1)], .cons ⟨_, rfl⟩ (.cons ⟨_, rfl⟩ .nil), ?_⟩
 exact ⟨_, Heap.get?_push_size s.heap rfl, rfl, 0, rfl⟩
theorem cd_dvm {G : Gx} : CallD G rDvm dvmD := by
 intro E H W vs ds Q rr hS rl e hA
 unfold dvmD at e
 split at e
 ·rename_i i j
  split at e
  ·cases e
  ·rename_i hj
   obtain rfl : Rs.ok (D.tup [.int (i.fdiv j), .int (i.fmod j)]) W.S = rr := Option.some.inj e
   obtain ⟨v, r, rfl, q, v2, r2, rfl, q2, t⟩ := rl
   have q : v = .int i := q
   have q2 : v2 = .int j := q2
   have t : r2 = [] := t
   subst q q2 t
   exact ⟨i, j, rfl, hj, fun p hp => hA _ W rfl (Nxt.heap hS hp _) _ ⟨p, _, rfl, SqT.of zW, ⟨_, _, rfl, rfl, ⟨_, _, rfl, rfl, rfl⟩⟩⟩⟩
 ·cases e
theorem vals_bl : ∀ {bs : List Bool} {its : List Value}, Vals (bs.map V.bl) its → its = bs.map Value.bool
 | [], _, h => by cases h; rfl
 | b :: bs, _, h => by
  cases h with
  | cons h1 h2 =>
   cases h1
   rw [vals_bl h2]
   rfl
theorem call_allX (hc : X.calm = true) : CallR X (.builtin "all") (fun xs H Q => ∃ (l : Addr) (bs : List Bool), xs = [.ref l] ∧ SqL X.K H l (bs.map V.bl) ∧ Q (.bl (bs.all id)) H) := by
 intro pins s σ H xs us Q I r h
 obtain ⟨l, bs, rfl, hq, q⟩ := h
 obtain ⟨u, rfl, rx⟩ := vals1 r
 cases rx
 obtain ⟨its, rv, pl, hz⟩ := I.list hq
 have hl := pl.isList
 obtain rfl := vals_bl rv
 have hlt : l < s.heap.objs.size := by obtain ⟨_, e, _⟩ := hl; exact Heap.lt_size e
 refine call_all_walk (wpAny_pyIter_list hl ?_)
 refine ⟨s.heap.objs.size, [s.heap.objs.size, l], [s.heap.objs.size], (bs.map Value.bool).toArray.size, _, _, fun i => (bs[i]?).getD true, rfl, Walks.list (A := X.A.in1) (I.ok.hd hc) _ l (Nat.ne_of_lt hlt) (bs.map Value.bool).toArray,
  ⟨⟨_, Heap.get?_push_size _ rfl, rfl, rfl⟩, hl.push _⟩, fun i v s' Q' E' hP hQ => ?_, fun h' tk hk => ?_⟩
 ·have hP : (bs.map Value.bool)[i]? = some v := by simpa using hP
  rw [List.getElem?_map] at hP
  cases e : bs[i]? with
  | none => rw [e] at hP; cases hP
  | some b =>
   rw [e] at hP
   cases hP
   simp only [e, Option.getD_some] at hQ
   exact wpAny_truthy_bool hQ
 ·have e : ((List.range (bs.map Value.bool).toArray.size).all fun i => (bs[i]?).getD true) = bs.all id := by
   rw [List.size_toArray, List.length_map]; exact LSm.range_all bs
  rw [e]
  exact ⟨.bl _, H, I.kept fun b x eb => hk b x (fun hm => by rw [List.mem_singleton.mp hm] at eb; exact Nat.lt_irrefl _ (Heap.lt_size eb)) (Heap.get?_push_of_some _ eb), rfl, q⟩
theorem allB_some : ∀ {ds : List D} {b : Bool}, allB ds = some b → ∃ bs : List Bool, ds = bs.map D.bl ∧ b = bs.all id
 | [], _, h => by cases h; exact ⟨[], rfl, rfl⟩
 | .bl c :: ds, b, h => by
  have h : (match allB ds with | some e => some (c && e) | none => none) = some b := h
  cases q : allB ds with
  | none => rw [q] at h; cases h
  | some e =>
   rw [q] at h
   cases h
   obtain ⟨bs, rfl, rfl⟩ := allB_some q
   exact ⟨c :: bs, rfl, rfl⟩
 | .non :: _, _, h => by cases h
 | .int _ :: _, _, h => by cases h
 | .str _ :: _, _, h => by cases h
 | .tup _ :: _, _, h => by cases h
 | .ref _ :: _, _, h => by cases h
 | .exc _ :: _, _, h => by cases h
 | .scr _ :: _, _, h => by cases h
theorem repL_bl {G : Gx} {H : Hp} {W : Wd} : ∀ {bs : List Bool} {vs : List V}, RepL G H W (bs.map D.bl) vs → vs = bs.map V.bl
 | [], _, h => h
 | b :: bs, _, h => by
  obtain ⟨v, r, rfl, q, t⟩ := h
  have q : v = .bl b := q
  rw [q, repL_bl t]
  rfl
theorem cd_all {G : Gx} : CallD G (fun xs H Q => ∃ (l : Addr) (bs : List Bool), xs = [.ref l] ∧ SqL G.K H l (bs.map V.bl) ∧ Q (.bl (bs.all id)) H) allD := by
 intro E H W vs ds Q rr hS rl e hA
 unfold allD at e
 split at e
 ·rename_i a
  split at e
  ·rename_i xs hx
   split at e
   ·rename_i b hb
    obtain rfl : Rs.ok (D.bl b) W.S = rr := Option.some.inj e
    obtain ⟨v, r, rfl, rx, t⟩ := rl
    have t : r = [] := t
    subst t
    obtain ⟨us, ex, hq, rl⟩ := hS.lst rx hx
    subst ex
    obtain ⟨bs, rfl, rfl⟩ := allB_some hb
    obtain rfl := repL_bl rl
    exact ⟨_, bs, rfl, .inl (.inl hq), hA.now hS _ rfl⟩
   ·cases e
  ·cases e
 ·cases e
end
end Np
end
section
namespace Np
open PySem PySem.Spec PyProof.Rows L2
section
variable {X : Cx} {E : XK} {e1 e2 ek : Expr} {g1 g2 gk : DE} {pos kpos p : Pos} {kw x : Str}
end
end Np
end
section
namespace Np
open PySem PySem.Spec PyProof.Rows L2
section
variable {X : Cx} {E : XK}
end
end Np
end
section
namespace Np
open PySem PySem.Spec PyProof.Rows L2
section
variable {X : Cx} {E : XK}
end
end Np
end
section
namespace Np
open PySem PySem.Spec PyProof.Rows L2
section
variable {prog : Program} {w : World} {A : Around} {R : Result → Shared → Prop} {s : Shared}
end
section
variable {X : Cx} {N' : List Str} {scope : Scope}
end
section
variable {X : Cx} {N' : List Str} {scope : Scope}
end
section
variable {X : Cx} {E : XK} {N' : List Str} {scope : Scope}
end
end Np
end
section
namespace Np
open PySem PySem.Spec PyProof.Rows L2
section
variable {prog : Program} {w : World} {A : Around} {E : Value → Shared → Prop}
end
section
variable {X : Cx} {E : XK}
end
end Np
end
section
namespace Np
open PySem PySem.Spec PyProof.Rows L2
section
variable {X : Cx} {G : Gx}
end
end Np
end
section
namespace Np
open PySem
section
variable {prog : Program} {w : World} {A : Around} {s : Shared} {R : Result → Shared → Prop}
variable {I : Addr} {fp wr : List Addr} {G : Array GenState → Array GenState → Prop} {n : Nat} {P : Nat → Value → Prop} {St : Nat → Shared → Prop}
end
section
variable {prog : Program} {w : World} {A : Around} {E : Value → Shared → Prop} {s : Shared}
variable {I : Addr} {fp wr : List Addr} {G : Array GenState → Array GenState → Prop} {n : Nat} {P : Nat → Value → Prop} {St : Nat → Shared → Prop}
end
end Np
namespace Np
open PySem PySem.Spec PyProof.Rows L2
section
variable {X : Cx} {E : XK}
end
end Np
end
section
namespace Np
open PySem PySem.Spec PyProof.Rows L2
theorem ObjOk.at' {P : Program} {w : World} {H : Hp} {h : Heap} {a : Addr} {o : HO} (x : ObjOk P w H h a o) : ∃ ob, h.get? a = some ob := by
 cases o with
 | lst xs => obtain ⟨_, _, _, _, e⟩ := x; exact ⟨_, e⟩
 | tup xs => obtain ⟨_, _, _, o, e, _⟩ := x; exact ⟨_, e⟩
 | dK kvs => obtain ⟨_, _, _, _, o, _, _, e, _⟩ := x; exact ⟨_, e⟩
 | dT kvs => obtain ⟨_, _, _, _, o, _, _, e, _⟩ := x; exact ⟨_, e⟩
 | set S n => obtain ⟨o, _, _, _, e, _⟩ := x; exact ⟨_, e⟩
 | ins C dx fs => obtain ⟨_, _, _, e, _⟩ := x; exact ⟨_, e⟩
 | own y => obtain ⟨_, e⟩ := x; exact ⟨_, e⟩
 | xd fs => obtain ⟨_, ⟨_, _, _, e, _⟩, _⟩ := x; exact ⟨_, e⟩
 | rng lo hi => obtain ⟨_, _, _, e⟩ := x; exact ⟨_, e⟩
 | frz ob u => obtain ⟨e, _⟩ := x; exact ⟨_, e⟩
 | tbl ps => exact ⟨_, (show h.get? a = some _ from x)⟩
 | met f y => exact ⟨_, (show h.get? a = some _ from x)⟩
 | ext φ => obtain ⟨_, ⟨_, e⟩, _⟩ := x; exact ⟨_, e⟩
structure Fly (P : Program) (w : World) (l : List Env) (H H' : Hp) (s : Shared) (ea : Addr) (B h : Heap) : Prop where
 un : Un (frs l) [] H H' s.heap h
 hok : HOk P w H' h
 newe : s.heap.get? ea = none
 free : H' ea = none
 frf : ∀ b ∈ frs l, H' b = none
 ff : h.FunFrames B l
 keep : ∀ b o, h.get? b = some o → ((∃ o0, s.heap.get? b = some o0) ∨ H' b ≠ none) → b ∉ frs l → B.get? b = some o
 st : B.StaysIn h
theorem ff_slots {h h' B : Heap} {l : List Env} (f : h.FunFrames B l) (k : h.UpToSlots h') : h'.FunFrames B l := f.of_keeps fun b o e n => by
 obtain ⟨sl, q⟩ := k b o e n
 exact ⟨_, q, rfl⟩
theorem Fly.step {P : Program} {w : World} {l : List Env} {H H' : Hp} {s : Shared} {ea : Addr} {B h h' : Heap} (F : Fly P w l H H' s ea B h) (k : h.UpToSlots h') (st : B.StaysIn h') : Fly P w l H H' s ea B h' := by
 have fr : ∀ b ∈ frs l, ∃ o, h.get? b = some o ∧ ∀ vs, o.data ≠ .fields vs := fun b hb => (F.ff.mem hb).2
 have there : ∀ b o, s.heap.get? b = some o → ∃ o', h'.get? b = some o' := fun b o e => by
  obtain ⟨o', q⟩ := F.un.there b o e (by simp)
  by_cases hb : b ∈ frs l
  ·obtain ⟨o1, e1, n1⟩ := fr b hb
   obtain ⟨sl, q'⟩ := k b o1 e1 n1
   exact ⟨_, q'⟩
  ·exact ⟨o', st _ _ (F.keep b o' q (.inl ⟨o, e⟩) hb)⟩
 refine ⟨⟨fun b o e n hb _ => st _ _ (F.keep b o (F.un.keep b o e n hb (by simp)) (.inl ⟨o, e⟩) hb), fun b o e n hb _ => ?_, F.un.free, fun b o e _ => there b o e, F.un.tups, F.un.frzs, F.un.tbls⟩, fun a u e => ?_, F.newe, F.free, F.frf, ff_slots F.ff k, fun b o e q hb => ?_, st⟩
 ·obtain ⟨sl, q⟩ := F.un.slot b o e n hb (by simp)
  obtain ⟨o1, e1, n1⟩ := fr b hb
  rw [q] at e1
  cases e1
  obtain ⟨sl', q'⟩ := k b _ q n1
  exact ⟨sl', q'⟩
 ·refine (F.hok a u e).stay (fun b v hb q => st _ _ (F.keep b v q (.inr ?_) fun z => ?_)) (fun _ q => q) fun _ _ q => q
  ·rcases hb with rfl | hb
   ·rw [e]; exact fun z => by cases z
   ·rw [hb]; exact fun z => by cases z
  ·have z := F.frf b z
   rcases hb with rfl | hb
   ·rw [e] at z; cases z
   ·rw [hb] at z; cases z
 ·have : ∃ o', h.get? b = some o' := by
   rcases q with ⟨o0, e0⟩ | q
   ·exact F.un.there b o0 e0 (by simp)
   ·cases z : H' b with
    | none => exact absurd z q
    | some u => exact ObjOk.at' (F.hok b u z)
  obtain ⟨o', e'⟩ := this
  have q' := F.keep b o' e' q hb
  have := st _ _ q'
  rw [e] at this
  cases this
  exact q'
theorem Un.less {L : Addr} {fs : List Addr} {H H' : Hp} {h h' : Heap} (u : Un (L :: fs) [] H H' h h') (n : h.get? L = none) : Un fs [] H H' h h' := by
 have ne : ∀ b o, h.get? b = some o → b ≠ L := fun b o e z => by rw [z, n] at e; cases e
 refine ⟨fun b o e hn hb hx => u.keep b o e hn (fun z => ?_) hx, fun b o e hn hb hx => u.slot b o e hn (.tail _ hb) hx, u.free, u.there, u.tups, u.frzs, u.tbls⟩
 rcases List.mem_cons.mp z with z | z
 ·exact ne b o e z
 ·exact hb z
def CX1 (P : Program) (w : World) : CXT := fun outer H s E e s' => ∃ (ea C : Addr) (H' : Hp) (B : Heap) (a0 : Value), e = .ref ea ∧ s'.os = s.os ∧ AllBare s'.gens ∧ Fly P w outer H H' s ea B s'.heap ∧ Heap.FlyingW B outer ea (.ref C) a0 s'.heap ∧ E (.ref C) none H'
section
variable {P : Program} {w : World} {K : PySem.W.Frag} {mg : Str → Option Value} {base : Heap} {N : List Str} {qual : Str} {scope : Scope} {f : Addr} {cd : Value} {A : Around} {outer : List Env} {s : Shared} {H : Hp} {E : XK}
theorem fly_out {pins : List (Addr × Obj)} {σ : L2.St} {H1 H' : Hp} {s1 : Shared} {ea : Addr} {B h' : Heap} (I : Inv (cxOf (CX1 P w) P w K mg base N qual scope f cd A outer s H E) pins σ H1 s1)
  (F : Fly P w (envOfC qual scope s.heap.objs.size f cd :: outer) H1 H' s1 ea B h') (hff : h'.FunFrames B outer) : Fly P w outer H H' s ea B h' := by
 have nL : s.heap.get? s.heap.objs.size = none := Heap.get?_none_of_le (Nat.le_refl _)
 have ef : frs (envOfC qual scope s.heap.objs.size f cd :: outer) = s.heap.objs.size :: frs outer := rfl
 have u0 : Un (frs outer) [] H H1 s.heap s1.heap := I.base
 have u1 : Un (s.heap.objs.size :: frs outer) [] H H' s.heap h' := (u0.mono (fun b hb => .tail _ hb) fun _ z => z).trans (ef ▸ F.un)
 have HL : H' s.heap.objs.size = none := F.frf _ (by rw [ef]; exact .head _)
 refine ⟨Un.less u1 nL, F.hok, ?_, F.free, fun b hb => F.frf b (by rw [ef]; exact .tail _ hb), hff, fun b o e q hb => ?_, F.st⟩
 ·cases z : s.heap.get? ea with
  | none => rfl
  | some o =>
   obtain ⟨o', q⟩ := u0.there ea o z (by simp)
   rw [F.newe] at q
   cases q
 ·refine F.keep b o e ?_ fun z => ?_
  ·rcases q with ⟨o0, e0⟩ | q
   ·exact .inl (u0.there b o0 e0 (by simp))
   ·exact .inr q
  ·rw [ef] at z
   rcases List.mem_cons.mp z with z | z
   ·rcases q with ⟨o0, e0⟩ | q
    ·rw [z, nL] at e0; cases e0
    ·rw [z] at q; exact q HL
   ·exact hb z
theorem madeX {pins : List (Addr × Obj)} {σ : L2.St} {H1 : Hp} {s1 : Shared} {e C : Addr} {vs : List Value} {h1 : Heap} (I : Inv (cxOf (CX1 P w) P w K mg base N qual scope f cd A outer s H E) pins σ H1 s1) (hx : Heap.MadeExcOf s1.heap h1 e (.ref C) vs) (q : E (.ref C) none H1) :
  (cxOf (CX1 P w) P w K mg base N qual scope f cd A outer s H E).xe (.ref e) { s1 with heap := h1 } := by
 have os1 : s1.os = s.os := I.os
 have stk := I.stack
 have hin : ∀ env ∈ (envOfC qual scope s.heap.objs.size f cd :: outer), ∀ b, env.frame = some b → b ∈ frs (envOfC qual scope s.heap.objs.size f cd :: outer) := fun env he b hb => List.mem_filterMap.mpr ⟨env, he, hb⟩
 have ffB : s1.heap.FunFrames (PySem.W.hideAll s1.heap (frs (envOfC qual scope s.heap.objs.size f cd :: outer))) (envOfC qual scope s.heap.objs.size f cd :: outer) := PySem.W.funFrames_hide stk hin
 have tr : ∀ b, H1 b ≠ none → ∃ o, s1.heap.get? b = some o := fun b n => by
  cases z : H1 b with
  | none => exact absurd z n
  | some u => exact ObjOk.at' (I.hok b u z)
 have fe : H1 e = none := by
  cases z : H1 e with
  | none => rfl
  | some u =>
   obtain ⟨o, q⟩ := ObjOk.at' (I.hok e u z)
   rw [hx.new] at q
   cases q
 have F : Fly P w (envOfC qual scope s.heap.objs.size f cd :: outer) H1 H1 s1 e (PySem.W.hideAll s1.heap (frs (envOfC qual scope s.heap.objs.size f cd :: outer))) h1 := by
  refine ⟨Un.kept hx.keeps, I.hok.kept hx.keeps, hx.new, fe, I.stkFree, ffB.of_keeps fun b o e _ => ⟨o, hx.keeps b o e, rfl⟩, fun b o e q hb => ?_, fun b o q => hx.keeps b o (PySem.W.of_hideAll _ q)⟩
  have : ∃ o0, s1.heap.get? b = some o0 := by
   rcases q with q | q
   ·exact q
   ·exact tr b q
  obtain ⟨o0, e0⟩ := this
  have := hx.keeps b o0 e0
  rw [e] at this
  cases this
  exact PySem.W.hideAll_get _ e0 hb
 show wpAny (model P w) (A.deeper (envOfC qual scope s.heap.objs.size f cd)) (leaving (envOfC qual scope s.heap.objs.size f cd) (.ref e)) _ _ { s1 with heap := h1 }
 refine wpAny_leaves_madeW (s := { s1 with heap := h1 }) I.ok.frames rfl (fun b o q => PySem.W.of_hideAll _ q) ffB hx fun h' t fl' _ _ k => ?_
 exact ⟨e, C, H1, _, _, rfl, os1, I.bare, fly_out I (F.step k fl'.1) fl'.2.2.1, fl', q⟩
end
abbrev bmV : List Value := [.type "ValueError", .type "Exception", .type "BaseException", .type "object"]
theorem ownX {K : PySem.W.Frag} {h : Heap} {mg : Str → Option Value} {x : Str} {C : Addr} (X : K.In h) (hm : mg x = some (.ref C)) (q : PySem.W.excIn K C bmV "ValueError.__new__" = true) : OwnCls x C bmV "ValueError.__new__" mg h := by
 refine ⟨hm, ?_⟩
 unfold PySem.W.excIn at q
 split at q
 ·rename_i dd cd sl ho
  split at q
  ·rename_i C' bm k0 k1 k2 k3 n k5 hm hs
   simp only [Bool.and_eq_true, beq_iff_eq, Bool.not_eq_true'] at q
   obtain ⟨⟨⟨⟨⟨rfl, rfl⟩, hdel⟩, ht⟩, hok⟩, hni⟩ := q
   obtain ⟨nm, bs, mro, ns, qn, hd, sn, sub, ab, col, del⟩ := cd
   dsimp only at hm hdel hok hni
   subst hm hdel
   have hsl : sl = #[k0, k1, k2, k3, some (.builtin "ValueError.__new__"), k5] := by
    obtain ⟨l⟩ := sl
    simp only at hs
    rw [hs]
   subst hsl
   exact ⟨bm, ns, nm, qn, bs, hd, sn, sub, ab, col, dd, k0, k1, k2, k3, k5, _, X _ _ ho, .of_isNs (PySem.W.isNs_of_in X hok), PySem.W.nsMap_none_of_in X hok hni, PySem.W.tail_of_in X ht⟩
  ·cases q
 ·cases q
def RaisesX (X : Cx) (E : XK) : Prop := ∀ (pins : List (Addr × Obj)) (σ : L2.St) (H : Hp) (s : Shared) (e C : Addr) (vs : List Value) (h' : Heap), Inv X pins σ H s → Heap.MadeExcOf s.heap h' e (.ref C) vs → E (.ref C) none H → X.xe (.ref e) { s with heap := h' }
theorem raisesX {P : Program} {w : World} {K : PySem.W.Frag} {mg : Str → Option Value} {base : Heap} {N : List Str} {qual : Str} {scope : Scope} {f : Addr} {cd : Value} {A : Around} {outer : List Env} {s : Shared} {H : Hp} {E : XK} :
  RaisesX (cxOf (CX1 P w) P w K mg base N qual scope f cd A outer s H E) E := fun _ _ _ _ _ _ _ _ I hx q => madeX I hx q
section
variable {X : Cx} {E : XK}
theorem pd_raise {x t : Str} {C : Addr} {np cpos pos p' : Pos} {j : Nat} (hR : RaisesX X E) (hg : Gl X x) (hm : X.mg x = some (.ref C)) (hq : PySem.W.excIn X.K C bmV "ValueError.__new__" = true) (hc : X.calm = true := by rfl) (hdb : (x == ("__debug__" : Str)) = false := by decide +kernel)
  (he : starEach [.Constant (.str t) j p'] X.env = (false, eval (.Constant (.str t) j p') X.env) :: starEach [] X.env := by rfl) (hpl : (backTo cpos (starEach [] X.env)).any (·.1) = false := by rfl) :
  PDS X E (.Raise (some (.Call (.Name x np) [.Constant (.str t) j p'] [] cpos)) none pos) (raiseS x) := by
 unfold PDS
 intro pins s σ H D I ⟨W, δ, rr, hS, hδ, hg', hA⟩
 obtain rfl : Rs.er x W.S = rr := Option.some.inj hg'
 obtain ⟨C', m', q⟩ := hA
 have e : C' = C := by
  have : X.mg x = some (.ref C') := m'
  rw [hm] at this
  cases this
  rfl
 subst e
 obtain ⟨tl, Nn, nm, qn, bs, hdct, sn, sub, ab, col, dd, k0, k1, k2, k3, k5, mN, hC, hN, hni, T⟩ := (ownX I.kIn hm hq).obj
 refine wpAny_Raise_call_subT (C := C') (nm := nm) (q := qn) (N := Nn) (bs := bs) (bm := tl) (hdct := hdct) (sn := sn) (sub := sub) (ab := ab) (col := col) (dd := dd) (k0 := k0) (k1 := k1) (k2 := k2) (k3 := k3) (k5 := k5)
  PySem.F.excBase_ValueError (mN := mN) (T.hasType PySem.F.excBase_ValueError.hasBase) (I.ok.hd hc) (by rw [he]; show (false || (backTo cpos (starEach [] X.env)).any (·.1)) = false; rw [hpl]; rfl) hni (ld_glob I hg hm ⟨rfl, ?_⟩ hdb)
 rw [he]
 refine Calls.evalArgs_plain ?_
 refine Calls.spliced_cons ?_
 refine Calls.Constant_str (k := j) (pos := p') ?_
 refine spliced_none ⟨rfl, ?_, hC, hN, T, fun h' e hx => ?_⟩
 ·show 1 ≤ sizeLine; decide
 ·exact hR pins σ H { s with toks := s.toks + 1 } e C' _ h' (I.tok _) hx (q H W rfl (.rfl hS))
theorem pd_noxS {st : Stmt} {g : DSt} (h : PDS X.nox E0 st g) : PDS X E st (noerS g) := by
 unfold PDS at *
 intro pins s σ H D I ⟨W, δ, rr, hS, hδ, hg', hA⟩
 obtain ⟨a, S1, e1, e2⟩ := noer_some hg'
 subst e2
 have := h pins s σ H D (I.wish _) ⟨W, δ, _, hS, hδ, e1, hA⟩
 exact wpAny_mono this (fun f s' q => SP.unwish q) fun e s' q => q.elim
end
theorem FunG.okX {P : Program} {w : World} {K : PySem.W.Frag} {mg : Str → Option Value} {base : Heap} {x qual : Str} {st : Stmt} {f : Addr} {fd : FuncData} {N ps : List Str} {k : Nat} {sp : Sp} (F : FunG K x qual st f fd) (S : zN N ps (zC st)) (len : ∀ vs H Q E, sp vs H Q E → vs.length = ps.length)
  (hbody : ∀ (cdv : Value) (A : Around) (outer : List Env) (s : Shared) (H : Hp) (vs : List V) (Q : VK) (E : XK), Room k (A.deeper (envOfC qual (zC st) s.heap.objs.size f cdv)) → sp vs H Q E →
   ∃ t, PSs (cxOf (CX1 P w) P w K mg base N qual (zC st) f cdv A outer s H E) (zG st) t ∧ t { nx := fun _ H' => Q .non H', rt := Q } (start N vs) H) : FnOk P w K mg base (CX1 P w) (k + 1) f fd ps sp := by
 obtain ⟨dV, oc, od, kV, doc, pm, an, cdv, ct, osl, rfl, lk, hcd⟩ := F.ex
 exact fn_of lk hcd S len fun A outer s H vs Q E hr hsp => hbody cdv A outer s H vs Q E hr hsp
theorem fn_X {P : Program} {w : World} {K : PySem.W.Frag} {mg : Str → Option Value} {base : Heap} {x qual : Str} {st : Stmt} {fa : Addr} {fd : FuncData} {N ps : List Str} {k : Nat} (n m : Nat) (g : DSt) {f : List D → Sto → R D} (hf : f = fnX n m g) (F : FunG K x qual st fa fd) (S : zN N ps (zC st)) (hn : N.length = n) (hm : ps.length = m)
  (hbody : ∀ (cdv : Value) (A : Around) (outer : List Env) (s : Shared) (H : Hp) (E : XK), Room k (A.deeper (envOfC qual (zC st) s.heap.objs.size fa cdv)) →
   PDSs (cxOf (CX1 P w) P w K mg base N qual (zC st) fa cdv A outer s H E) E (zG st) g) : FnOk P w K mg base (CX1 P w) (k + 1) fa fd ps (spF ⟨K, mg⟩ f) := by
 subst hf hn hm
 refine FunG.okX F S (fun vs H Q E h => ?_) (fun cdv A outer s H vs Q E hr h => ?_)
 ·obtain ⟨W, ds, rr, _, rl, e, _⟩ := h
  rw [← rl.length]
  unfold fnX at e
  split at e
  ·assumption
  ·cases e
 ·obtain ⟨W, ds, rr, hS, rl, e, hA⟩ := h
  have hb := hbody cdv A outer s H E hr
  unfold PDSs at hb
  refine ⟨_, hb, ?_⟩
  have q : outF (g (startD N.length ds) W.S) = some rr := by
   unfold fnX at e
   split at e
   ·exact e
   ·cases e
  cases z : g (startD N.length ds) W.S with
  | none => rw [z] at q; cases q
  | some r =>
   refine ⟨W, startD N.length ds, r, hS, RepS.start N rl, z, ?_⟩
   rw [z] at q
   cases r with
   | er c S1 =>
    obtain rfl : Rs.er c S1 = rr := Option.some.inj q
    exact hA
   | ok fl S1 =>
    cases fl with
    | nx δ =>
     obtain rfl : Rs.ok D.non S1 = rr := Option.some.inj q
     exact fun H1 W1 eS s1 σ1 hδ1 => hA H1 W1 eS s1 .non rfl
    | rt d' =>
     obtain rfl : Rs.ok d' S1 = rr := Option.some.inj q
     exact fun H1 W1 eS s1 v rv => hA H1 W1 eS s1 v rv
    | bk δ => cases q
    | ct δ => cases q
end Np
end
section
namespace Np
open PySem PySem.Spec PyProof.Rows L2
def markCx (X : Cx) (ea : Addr) : Cx := { X with A := X.A.mark (some (.ref ea)), calm := false, xe := fun _ _ => False }
section
variable {X : Cx} {pins : List (Addr × Obj)} {σ : L2.St} {H : Hp} {s : Shared} {ea : Addr}
theorem Inv.mark (I : Inv X pins σ H s) (ea : Addr) : Inv (markCx X ea) pins σ H s :=
 ⟨⟨I.ok.mod, I.ok.kind, I.ok.glob, I.ok.blt, I.ok.above, I.ok.inj, I.ok.has, I.ok.cab, fun h => (by cases h), I.ok.frames, I.ok.stk, I.ok.exf, I.ok.bs, I.ok.bsz, I.ok.noex, I.ok.exfs, I.ok.funs, I.ok.frf⟩, I.os, I.bare, I.base, I.loc, I.cell, I.free, I.freeC, I.pin, I.hok, I.len⟩
theorem Inv.unmark (I : Inv (markCx X ea) pins σ H s) (ok : X.Ok) : Inv X pins σ H s := ⟨ok, I.os, I.bare, I.base, I.loc, I.cell, I.free, I.freeC, I.pin, I.hok, I.len⟩
theorem Inv.trackE {φ : Heap → Prop} {oe : Obj} (I : Inv X pins σ H s) (hn : H ea = none) (hy : ∀ b o, X.s₀.heap.get? b = some o → b ≠ ea) (he : s.heap.get? ea = some oe) (hd : ∀ v, oe.data ≠ .cell v) (hdd : ∀ es n, oe.data ≠ .dict es n) (hp : ∀ p ∈ X.pn ++ pins, p.1 ≠ ea)
  (hφ : φ s.heap) (hst : ∀ h1 h2 : Heap, φ h1 → (∀ o, h1.get? ea = some o → h2.get? ea = some o) → φ h2) : Inv X pins σ (upd H ea (.ext φ)) s := by
 have nl : X.env.locals ≠ ea := fun z => by
  obtain ⟨m, ⟨o, es, n, ho, hod, _⟩, _⟩ := I.loc
  rw [z, he] at ho
  cases ho
  exact hdd _ _ hod
 have nc : ∀ x c, X.env.cells.lookup x = some c → c ≠ ea := fun x c e z => by
  obtain ⟨v, o, ho, hod⟩ := I.cell x c e
  rw [z, he] at ho
  cases ho
  exact hd _ hod
 have ne : ∀ b u, H b = some u → b ≠ ea := fun b u q => ne_of_none q hn
 refine ⟨I.ok, I.os, I.bare, ⟨I.base.keep, I.base.slot, fun b o e n hx => by rw [zO (hy b o e)]; exact I.base.free b o e n hx, I.base.there, fun b xs q => ?_, fun b o u q => ?_, fun b ps q => ?_⟩, I.loc, I.cell, by rw [zO nl]; exact I.free, fun x c e => by rw [zO (nc x c e)]; exact I.freeC x c e, fun p q => ?_, fun b u q => ?_, I.len⟩
 ·have := I.base.tups b xs q
  rw [zO (ne b _ this)]
  exact this
 ·have := I.base.frzs b o u q
  rw [zO (ne b _ this)]
  exact this
 ·obtain ⟨more, this⟩ := I.base.tbls b ps q
  exact ⟨more, by rw [zO (ne b _ this)]; exact this⟩
 ·obtain ⟨a1, a2, a3⟩ := I.pin p q
  exact ⟨a1, by rw [zO (hp p q)]; exact a2, a3⟩
 ·by_cases hb : b = ea
  ·subst hb
   rw [zW] at q
   cases q
   exact ⟨hφ, ⟨oe, he⟩, hst⟩
  ·rw [zO hb] at q
   exact (I.hok b u q).stay (fun c v _ z => z) (fun c z => by rw [zO (ne c _ z)]; exact z) fun c xs z => by rw [zO (ne c _ z)]; exact z
theorem Inv.names {h' : Heap} {m : Str → Option Value} {v : Option Value} {j : Nat} {n : Str} {t : Nat} (I : Inv X pins σ H s) (hN : X.N.Nodup) (hj : X.N[j]? = some n) (hm : ∀ (i : Nat) (x : Str) (v : V), X.N[i]? = some x → σ[i]? = some (some v) → Vis X.env.scope x → ∃ u, RelV v u ∧ Look X.env s.heap m x u)
  (hn : h'.Ns X.env.locals (fun x => if x = n then v else m x)) (hs : Heap.SameBut X.env.locals s.heap h') : Inv X pins (σ.set j none) H { s with heap := h', toks := t } := by
 have cne := I.cne
 refine ⟨I.ok, I.os, I.bare, ⟨fun b o e nn hb hx => ?_, fun b o e nn hb hx => ?_, I.base.free, fun b o e hx => ?_, I.base.tups, I.base.frzs, I.base.tbls⟩, ⟨_, hn, fun i y v' e1 e2 e3 => ?_⟩, fun y c e => ?_, I.free, I.freeC, fun p hp => ?_, fun b ob e => ?_, by simpa using I.len⟩
 ·exact (hs.2 b (Nat.ne_of_lt (Nat.lt_of_lt_of_le (Heap.lt_size e) I.ok.above))).trans (I.base.keep b o e nn hb hx)
 ·obtain ⟨sl, e1⟩ := I.base.slot b o e nn hb hx
  exact ⟨sl, (hs.2 b (Nat.ne_of_lt (Nat.lt_of_lt_of_le (Heap.lt_size e) I.ok.above))).trans e1⟩
 ·obtain ⟨o', e1⟩ := I.base.there b o e hx
  exact ⟨o', (hs.2 b (Nat.ne_of_lt (Nat.lt_of_lt_of_le (Heap.lt_size e) I.ok.above))).trans e1⟩
 ·by_cases hi : i = j
  ·subst hi
   exfalso
   rw [List.getElem?_set] at e2
   split at e2
   ·split at e2 <;> cases e2
   ·rename_i z; exact z rfl
  ·rw [List.getElem?_set_ne (Ne.symm hi)] at e2
   obtain ⟨u, r, l⟩ := hm i y v' e1 e2 e3
   refine ⟨u, r, ?_⟩
   rcases l with ⟨k, e⟩ | ⟨k, c, e, z⟩
   ·refine .inl ⟨k, ?_⟩
    have : y ≠ n := fun e => hi (nodup_ix hN e1 (e ▸ hj))
    simp [this, e]
   ·exact .inr ⟨k, c, e, z.sameBut hs (cne y c e)⟩
 ·obtain ⟨w', z⟩ := I.cell y c e
  exact ⟨w', z.sameBut hs (cne y c e)⟩
 ·obtain ⟨e, nn, ne, nf, d⟩ := I.pin p hp
  exact ⟨(hs.2 p.1 ne).trans e, nn, ne, nf, d⟩
 ·refine (I.hok b ob e).stay (fun c w' hc q => (hs.2 c ?_).trans q) (fun _ q => q) fun _ _ q => q
  rintro rfl
  have fr := I.free
  rcases hc with rfl | hc
  ·rw [fr] at e; cases e
  ·rw [fr] at hc; cases hc
theorem name_goes {A : Around} {E : Value → Shared → Prop} {j : Nat} {n : Str} {pos : Pos} {Q : Unit → Shared → Prop} (I : Inv X pins σ H s) (hN : X.N.Nodup) (hj : X.N[j]? = some n) (hl : X.env.scope.names.lookup n = some .local) (h : ∀ s', Inv X pins (σ.set j none) H s' → Q () s') :
  wpAny (model X.prog X.w) A (do bindName X.env n .none; unbindBehindTheSuite X.env n pos) Q E s := by
 have hcls : (X.env.scope.kind == .class || (X.env.scope.kind == .module && X.env.locals != X.env.globals)) = false := by rw [I.ok.kind]; rfl
 have hk : X.env.kindOf n = some .local := hl
 refine wpAny_bind (wpAny_bindName (store_ok (v := .non) I hN hj (.inl hl) rfl (fun s1 I1 => ?_) (.inr hl)))
 obtain ⟨m1, hn1, hm1⟩ := I1.loc
 unfold unbindBehindTheSuite
 refine wpAny_onRaise ?_
 unfold unbindName
 refine wpAny_bind (wpAny_point (wpAny_bind ?_))
 unfold deleteName
 simp only [hk, hcls]
 rw [if_neg (by decide)]
 have hs1 : m1 n = some .none := by
  have hj' : j < σ.length := by rw [I.len]; exact (List.getElem?_eq_some_iff.mp hj).1
  obtain ⟨u, r, l⟩ := hm1 j n .non hj (by rw [List.getElem?_set_self hj']) (.inl hl)
  rcases l with ⟨_, e⟩ | ⟨k, _⟩
  ·have r : u = Value.none := r
   rw [e, r]
  ·rcases k with k | k <;> (rw [hk] at k; cases k)
 refine wpAny_bind (wpAny_nsDel_keeps hn1 fun h2 v hn2 hs2 => ?_)
 rw [hs1]
 simp only [if_true, Option.isSome_some, Bool.not_true, Bool.false_eq_true, if_false]
 refine wpAny_pure (wpAny_point (h _ ?_))
 have := Inv.names (t := s1.toks) (v := v) I1 hN hj hm1 hn2 hs2
 rw [List.set_set] at this
 exact this
end
theorem RepS.unset {G : Gx} {H : Hp} {W : Wd} {δ : DS} {σ : L2.St} (j : Nat) (h : RepS G H W δ σ) : RepS G H W (δ.set j none) (σ.set j none) := by
 refine ⟨by simp [h.1], fun i d e => ?_⟩
 by_cases hi : i = j
 ·subst hi
  rw [List.getElem?_set] at e
  split at e
  ·split at e <;> cases e
  ·rename_i z; exact absurd rfl z
 ·rw [List.getElem?_set_ne (Ne.symm hi)] at e ⊢
  exact h.2 i d e
section
variable {X : Cx}
end
theorem isx_nested {K : PySem.W.Frag} {M : Model} {A : Around} {E : Value → Shared → Prop} {s : Shared} {x t c : Value} {dep : Int} {tk : Tok} {Q : Fin → Shared → Prop} (X : K.In s.heap) (LT : PySem.W.Looks M s.heap (typeOf x) t) (e : PySem.W.kitOne K t c = some true) (h : Q (.done (.ret (.bool true))) s) :
  wpAny M A (Builtin.«isinstance.nested» ⟨[x, c, .int dep tk], []⟩) Q E s := by
 obtain ⟨h0, g, d, tt, os⟩ := s
 unfold PySem.W.kitOne at e
 unfold Builtin.«isinstance.nested»
 refine wpAny_bind (LT.at ?_)
 by_cases q : (t == c) = true
 ·rw [if_pos q]
  exact wpAny_bind (wpAny_rule (wpAny_bind (wpAny_pure (wpAny_pure h))))
 ·rw [if_neg q] at e
  rw [if_neg q]
  obtain ⟨hty, his, hsub⟩ := PySem.W.kit_cls (M := M) X e
  have LI : PySem.W.Looks M h0 (isInstance x c) true := LT.andThen hsub
  refine wpAny_bind (hty.at ?_)
  rw [if_pos (by decide)]
  k_delta "plainIsInstance"
  refine wpAny_bind (wpAny_bind (his.at ?_))
  simp only [Bool.not_true, Bool.false_eq_true, if_false]
  refine wpAny_bind (LI.at ?_)
  simp only [if_true]
  exact wpAny_pure (wpAny_pure h)
theorem isx_call {K : PySem.W.Frag} {prog : Program} {w : World} {A : Around} {E : Value → Shared → Prop} {s : Shared} {x t c : Value} {Q : Value → Shared → Prop} (X : K.In s.heap) (ht : ∀ M, PySem.W.Looks M s.heap (typeOf x) t) (e : PySem.W.kitOne K t c = some true) (hx : x ≠ .builtin "__main__.__loader__#opaque") (h : Q (.bool true) s) :
  wpAny (model prog w) A (call (.builtin "isinstance") [x, c]) Q E s :=
 call_isinstance (S := fun _ R s => (K.In s.heap ∧ ∀ M, PySem.W.Looks M s.heap (typeOf x) t) ∧ R (.ok (.ret (.bool true))) s) (fun _ _ _ _ _ hs => isinstance_outer (isx_nested hs.1.1 (hs.1.2 _) e hs.2) hx) ⟨⟨X, ht⟩, h⟩
section
variable {X : Cx} {E : XK}
def rIsx (G : Gx) (cv : Value) (cV : V) : List V → Hp → VK → Prop := fun vs H Q => ∃ ea C, vs = [.ref ea, cV] ∧ H ea = some (.ext (excAt ea C)) ∧ PySem.W.kitOne G.K (.ref C) cv = some true ∧ Q (.bl true) H
theorem call_isx {cv : Value} {cV : V} (hcv : ∀ u, RelV cV u → u = cv) : CallR X (.builtin "isinstance") (rIsx (gx X) cv cV) := by
 intro pins s σ H vs us Q I r h
 obtain ⟨ea, C, rfl, ho, ek, q⟩ := h
 cases r with
 | cons r1 r2 =>
  cases r2 with
  | cons r2 r3 =>
   cases r3
   have e1 : _ = Value.ref ea := r1
   have e2 := hcv _ r2
   subst e1 e2
   obtain ⟨⟨o, hoo, hoc⟩, _⟩ := (show ObjOk X.prog X.w H s.heap ea (.ext (excAt ea C)) from I.hok ea _ ho)
   refine isx_call (t := .ref C) I.kIn (fun M => ?_) ek (fun z => nomatch z) ⟨.bl true, H, I, rfl, q⟩
   have := (PySem.W.Looks.ld (M := M) (part := none) hoo).andThen (f := fun o => (pure o.cls : Sem Value)) .now
   rw [hoc] at this
   exact this
theorem tF_isx {cv : Value} {cV : V} {yes : List Str} {ge : DE} {te : TA} (hy : ∀ c ∈ yes, ∃ C, X.mg c = some (.ref C) ∧ PySem.W.kitOne X.K (.ref C) cv = some true) {σ : L2.St} {H : Hp} {Q : VK} (h : tF (gx X) E (op1 (isxD yes) ge) σ H Q) : tF (gx X) E ge σ H fun v H1 => rIsx (gx X) cv cV [v, cV] H1 Q := by
 obtain ⟨W, δ, rr, hS, hδ, hg', hA⟩ := h
 refine Go.thn hS hδ hg' hA fun d H1 W1 s1 hδ1 hg1 hA1 v rv => ?_
 cases d with
 | exc c =>
  have hg1 : (if yes.contains c = true then ok (.bl true) W1.S else none) = some rr := hg1
  by_cases hc : yes.contains c = true
  ·rw [if_pos hc] at hg1
   obtain rfl : Rs.ok (D.bl true) W1.S = rr := Option.some.inj hg1
   obtain ⟨ea, C, rfl, hmc, ho⟩ := rv
   obtain ⟨C', hm', ek⟩ := hy c (by simpa using hc)
   have hmc : X.mg c = some (.ref C) := hmc
   rw [hm'] at hmc
   cases hmc
   exact ⟨ea, _, rfl, ho, ek, hA1.now s1.ok _ rfl⟩
  ·rw [if_neg hc] at hg1
   cases hg1
 | _ => cases hg1
theorem pd_isxO {Cn : Addr} {yes : List Str} {e : Expr} {ge : DE} {p p2 pos : Pos} {T : Str} (hg : Gl X "isinstance") (hm : X.mg "isinstance" = none) (hgT : Gl X T) (hmT : X.mg T = some (.ref Cn)) (hy : ∀ c ∈ yes, ∃ C, X.mg c = some (.ref C) ∧ PySem.W.kitOne X.K (.ref C) (.ref Cn) = some true) (he : PDE X E e ge)
  (hv : bootBuiltins "isinstance" = some (.builtin "isinstance") := by decide +kernel) (hdT : (T == ("__debug__" : Str)) = false := by decide +kernel)
  (hst : starEach (e :: [.Name T p2]) X.env = (false, eval e X.env) :: starEach [.Name T p2] X.env := by rfl) (hst2 : starEach (.Name T p2 :: []) X.env = (false, eval (.Name T p2) X.env) :: starEach [] X.env := by rfl)
  (hpl : (backTo pos (starEach [.Name T p2] X.env)).any (·.1) = false := by rfl) :
  PDE X E (.Call (.Name "isinstance" p) [e, .Name T p2] [] pos) (op1 (isxD yes) ge) := by
 unfold PDE at *
 exact PE.imp (pe_callB (call_isx (cv := .ref Cn) (cV := .ref Cn) fun u r => r) hg hm hv (pa_cons he (pa_cons (pe_glob (v := .ref Cn) hgT hmT rfl hdT) pa_nil hst2) hst) (by decide +kernel) (by decide +kernel) hst hpl) fun σ H Q h => tF_isx (te := tNil) hy h
theorem pd_isxB {B : String} {yes : List Str} {e : Expr} {ge : DE} {p p2 pos : Pos} {T : Str} (hT : bootBuiltins T = some (.type B)) (hg : Gl X "isinstance") (hm : X.mg "isinstance" = none) (hgT : Gl X T) (hmT : X.mg T = none) (hy : ∀ c ∈ yes, ∃ C, X.mg c = some (.ref C) ∧ PySem.W.kitOne X.K (.ref C) (.type B) = some true) (he : PDE X E e ge)
  (hv : bootBuiltins "isinstance" = some (.builtin "isinstance") := by decide +kernel) (hnT : T ≠ "__name__" := by decide +kernel) (hdT : (T == ("__debug__" : Str)) = false := by decide +kernel)
  (hst : starEach (e :: [.Name T p2]) X.env = (false, eval e X.env) :: starEach [.Name T p2] X.env := by rfl) (hst2 : starEach (.Name T p2 :: []) X.env = (false, eval (.Name T p2) X.env) :: starEach [] X.env := by rfl)
  (hpl : (backTo pos (starEach [.Name T p2] X.env)).any (·.1) = false := by rfl) :
  PDE X E (.Call (.Name "isinstance" p) [e, .Name T p2] [] pos) (op1 (isxD yes) ge) := by
 unfold PDE at *
 exact PE.imp (pe_callB (call_isx (cv := .type B) (cV := .ty B) fun u r => r) hg hm hv (pa_cons he (pa_cons (pe_bltn (v := .ty B) hgT hmT hT rfl hnT hdT) pa_nil hst2) hst) (by decide +kernel) (by decide +kernel) hst hpl) fun σ H Q h => tF_isx (te := tNil) hy h
end
end Np
end
section
namespace Np
open PySem PySem.Spec PyProof.Rows L2
def excGet (K : PySem.W.Frag) (C : Addr) : Bool := (PySem.W.clsIn K C).isSome && PySem.W.findIn K (.ref C) "__getattribute__" == some (some (.builtin "BaseException.__getattribute__")) && PySem.W.findIn K (.ref C) "__getattr__" == some none && PySem.W.findIn K (.ref C) "__class__" == some (some (.builtin "object.__class__"))
 && PySem.W.subIn K (.ref C) (.type "BaseException") == some true && PySem.W.subIn K (.ref C) (.type "object") == some true
structure ExcGet (K : PySem.W.Frag) (C : Addr) : Prop where
 cls : (PySem.W.clsIn K C).isSome = true
 ga : PySem.W.findIn K (.ref C) "__getattribute__" = some (some (.builtin "BaseException.__getattribute__"))
 nga : PySem.W.findIn K (.ref C) "__getattr__" = some none
 cl : PySem.W.findIn K (.ref C) "__class__" = some (some (.builtin "object.__class__"))
 be : PySem.W.subIn K (.ref C) (.type "BaseException") = some true
 ob : PySem.W.subIn K (.ref C) (.type "object") = some true
section
variable {prog : Program} {w : World} {A : Around} {E : Value → Shared → Prop} {h : Heap} {g : Array GenState} {d : Drawn} {t : Nat} {os : OsState} {a C : Addr} {o : Obj} {K : PySem.W.Frag}
end
section
variable {X : Cx} {E : XK}
end
end Np
end
section
namespace Np
open PySem PySem.Spec PyProof.Rows L2
section
variable {M : Model} {K : PySem.W.Frag} {A : Around} {E : Value → Shared → Prop}
theorem exm_loop1 {h : Heap} : ∀ (cs : List Value) (s : Shared) (Q : PUnit → Shared → Prop), (∀ c ∈ cs, PySem.W.Looks M h (isExcClass c) true) → (∀ b o, h.get? b = some o → s.heap.get? b = some o) → Q ⟨⟩ s →
  wpAny M A (forIn cs PUnit.unit fun c _ => do
   if !(← isExcClass c) then
    rule "try.except-non-exception-class"
    raiseErrorWords "TypeError" "catching classes that do not inherit from BaseException is not allowed"
    pure (ForInStep.yield PUnit.unit)
   else pure (ForInStep.yield PUnit.unit)) Q E s
 | [], s, Q, _, _, q => by rw [List.forIn_nil]; exact wpAny_pure q
 | c :: cs, s, Q, hc, k, q => by
  rw [List.forIn_cons]
  refine wpAny_bind (wpAny_bind (((hc c (.head _)).keeps k).here ?_))
  simp only [Bool.not_true, Bool.false_eq_true, if_false]
  exact wpAny_pure (exm_loop1 cs s Q (fun c h => hc c (.tail _ h)) k q)
theorem exm_loop2 {h : Heap} {te : Value} : ∀ (cs : List Value) (s : Shared) (Q : Option Bool × PUnit → Shared → Prop), (∀ c ∈ cs, PySem.W.Looks M h (isSubtype te c) false) → (∀ b o, h.get? b = some o → s.heap.get? b = some o) → Q (none, ⟨⟩) s →
  wpAny M A (forIn cs ((none : Option Bool), PUnit.unit) fun c _ => do
   if ← isSubtype te c then pure (ForInStep.done (some true, PUnit.unit))
   else pure (ForInStep.yield (none, PUnit.unit))) Q E s
 | [], s, Q, _, _, q => by rw [List.forIn_nil]; exact wpAny_pure q
 | c :: cs, s, Q, hc, k, q => by
  rw [List.forIn_cons]
  refine wpAny_bind (wpAny_bind (((hc c (.head _)).keeps k).here ?_))
  simp only [Bool.false_eq_true, if_false]
  exact wpAny_pure (exm_loop2 cs s Q (fun c h => hc c (.tail _ h)) k q)
end
theorem exm_tupN {M : Model} {K : PySem.W.Frag} {cs : List Value} {cls : Value} {tp e : Addr} {h : Heap} {n : Nat} {dd : Option Addr} {sl : Array (Option Value)} (X : K.In h) (LT : PySem.W.Looks M h (typeOf (.ref e)) cls) (hp : h.get? tp = some ⟨.type "tuple", dd, .seq cs.toArray n, sl⟩) (hx : ∀ c ∈ cs, PySem.W.exmOne K cls c = some false) :
  PySem.W.Looks M h (excMatches (.ref e) (.ref tp)) false := by
 intro A Q E s k₀ q
 obtain ⟨hh, g, d, tk, os⟩ := s
 have k : ∀ b o, h.get? b = some o → hh.get? b = some o := k₀
 have LT0 : PySem.W.Looks M h (isInstance (.ref tp) (.type "tuple")) true := ((PySem.W.Looks.ld hp).andThen .now).andThen (PySem.W.Looks.of_pure isSubtype_tuple_tuple)
 have LT := LT.keeps k
 have LS := (PySem.W.Looks.ld (M := M) (part := none) hp).keeps k
 unfold excMatches
 refine wpAny_bind ((LT0.keeps k).at ?_)
 rw [if_pos rfl]
 refine wpAny_bind (wpAny_seqItems (k _ _ hp) rfl (wpAny_bind (wpAny_pure ?_)))
 simp only [Option.getD_some, List.toList_toArray]
 refine wpAny_bind (exm_loop1 (h := h) cs _ _ (fun c hc => (PySem.W.exm_cls (M := M) X (hx c hc)).1) k ?_)
 refine wpAny_bind (LT.at ?_)
 refine wpAny_bind (exm_loop2 (h := h) cs _ _ (fun c hc => (PySem.W.exm_cls (M := M) X (hx c hc)).2) k ?_)
 exact wpAny_pure q
section
variable {X : Cx}
theorem spl_names {pins : List (Addr × Obj)} {σ : L2.St} {H : Hp} {s : Shared} {E : Value → Shared → Prop} {pos : Pos} (I : Inv X pins σ H s) : ∀ (Ls : List (Str × Pos × Addr)) {Q : List Value → Shared → Prop}, (∀ l ∈ Ls, Gl X l.1 ∧ X.mg l.1 = some (.ref l.2.2) ∧ (l.1 == ("__debug__" : Str)) = false) → Q (Ls.map fun l => Value.ref l.2.2) s →
  wpAny (model X.prog X.w) X.A (spliced (backTo pos (starEach (Ls.map fun l => .Name l.1 l.2.1) X.env))) Q E s
 | [], Q, _, q => Calls.spliced_nil q
 | l :: Ls, Q, h, q => by
  show wpAny _ _ (spliced ((false, eval (.Name l.1 l.2.1) X.env) :: backTo pos (starEach (Ls.map fun l => .Name l.1 l.2.1) X.env))) _ _ s
  obtain ⟨h1, h2, h3⟩ := h l (.head _)
  refine Calls.spliced_cons (ld_glob I h1 h2 ?_ h3)
  exact thn (spl_names I Ls (Q := fun vs s' => vs = Ls.map (fun l => Value.ref l.2.2) ∧ s' = s) (fun l' hl' => h l' (.tail _ hl')) ⟨rfl, rfl⟩) fun us s2 ⟨e1, e2⟩ => by subst e1 e2; exact q
theorem pd_tryE {k : Nat} {fa Cn : Addr} {fd : FuncData} {ps : List Str} {x n cn : Str} {p pos pos' cp hpos tpos hpos1 tp1 : Pos} {x1 : _} {Ls : List (Str × Pos × Addr)} {b₁ : List Stmt} {f : List D → Sto → R D} {e : Expr} {es : List Expr} {ga : DA} {hits : List Str} {b₀ : Stmt} {suite : List Stmt} {gs : DSt} (j : Nat)
  (F : FnOk X.prog X.w X.K X.mg X.base (CX1 X.prog X.w) k fa fd ps (spF (gx X) f)) (hr : Room k X.A) (hg : Gl X x) (hm : X.mg x = some (.ref fa)) (hk : PySem.W.keepIn X.K (.ref fa) = true) (hb : zV X.K fd ps []) (ha : PDA X E0 (e :: es) ga)
  (hN : X.N.Nodup) (hcg : Gl X cn) (hcm : X.mg cn = some (.ref Cn)) (hh : ∀ c ∈ hits, ∃ C, X.mg c = some (.ref C) ∧ PySem.W.exmOne X.K (.ref C) (.ref Cn) = some true ∧ ∀ l ∈ Ls, PySem.W.exmOne X.K (.ref C) (.ref l.2.2) = some false) (hL : ∀ l ∈ Ls, Gl X l.1 ∧ X.mg l.1 = some (.ref l.2.2) ∧ (l.1 == ("__debug__" : Str)) = false) (hLl : Ls.length ≤ 1000000) (hs : ∀ ea, PDSs (markCx X ea) E0 (b₀ :: suite) gs)
  (hj : X.N[j]? = some n := by rfl) (hnl : X.env.scope.names.lookup n = some .local := by rfl) (hx : X.xe = fun _ _ => False := by rfl) (hstk : X.stack = X.env :: X.outer := by rfl) (hfr : X.env.frame = some X.env.locals := by rfl) (hex : X.ex = [] := by rfl)
  (hsw : swapsWith (.Call (.Name x p) (e :: es) [] pos) none pos'.line X.env = pure false := by rfl) (hdb : (x == ("__debug__" : Str)) = false := by decide +kernel) (hdc : (cn == ("__debug__" : Str)) = false := by decide +kernel) (he : starEach (e :: es) X.env = (false, eval e X.env) :: starEach es X.env := by rfl)
  (hpl : (backTo pos (starEach es X.env)).any (·.1) = false := by rfl) :
  PDS X E0 (.Try [.Expr (.Call (.Name x p) (e :: es) [] pos) pos'] [.ExceptHandler (some (.Tuple (Ls.map fun l => .Name l.1 l.2.1) x1 tp1)) none b₁ hpos1, .ExceptHandler (some (.Name cn cp)) (some n) (b₀ :: suite) hpos] [] [] tpos) (tryE f ga j hits gs) := by
 have ha := ha.o
 unfold PDS
 intro pins s σ H D I ⟨W, δ, rr, hS, hδ, hg', hA⟩
 have noE : ∀ e s', ¬ X.xe e s' := fun e s' z => by rw [hx] at z; exact z
 refine wpAny_Try_except (wpAny_execs_cons (wpAny_Expr_any ?_ I.quiet hsw))
 refine wpAny_Call_Name_kw (ld_glob I hg hm ?_ hdb)
 have rd : tFA (gx X) E0 ga σ H fun vs H1 => ∃ W1 ds, StOk (gx X) H1 W1 ∧ RepS (gx X) H1 W1 δ σ ∧ RepL (gx X) H1 W1 ds vs ∧ tryER j hits gs δ (f ds W1.S) = some rr ∧ After (gx X) E0 H1 W1 rr (SV (gx X) D) :=
  Go.thn hS hδ hg' hA fun ds H1 W1 s1 hδ1 hg1 hA1 vs rvs => ⟨W1, ds, s1.ok, hδ1, rvs, hg1, hA1⟩
 refine PySem.W.callWith_K (h₀ := X.base) I.ok.mod.kin hk (wpAny_mono (ha pos pins s σ H _ I rd) (fun us s1 ⟨vs, H1, I1, r1, q1⟩ => ⟨I1.kIn, ?_⟩) fun e s' z => (noE e s' z).elim) he hpl
 obtain ⟨W1, ds, hS1, hδ1, rl1, hg1, hA1⟩ := q1
 cases hf : f ds W1.S with
 | none => rw [hf] at hg1; cases hg1
 | some fr =>
  rw [hf] at hg1
  cases fr with
  | ok d S2 =>
   obtain rfl : Rs.ok (Fl.nx δ) S2 = rr := Option.some.inj hg1
   have sp : spF (gx X) f (vs ++ []) H1 (fun v H' => ∃ W2, W2.S = S2 ∧ Nxt (gx X) H1 W1 H' W2 ∧ Rep (gx X) H' W2 d v) E0 := ⟨W1, ds, _, hS1, by rw [List.append_nil]; exact rl1, hf, fun H' W' e nx v rv => ⟨W', e, nx, rv⟩⟩
   have hl : (us ++ []).length = ps.length := by rw [List.append_nil, ← r1.length]; have := F.len _ _ _ _ sp; rw [List.append_nil] at this; exact this
   refine wpAny_call (codeAny_mono (F.run X.A X.stack s1 H1 ⟨us, []⟩ (us ++ []) (vs ++ []) _ E0 hr I1.env0 (hb s1 us I1.kIn hl) (by rw [List.append_nil, List.append_nil]; exact r1) sp) fun r s' hq => ?_)
   cases r with
   | error e =>
    obtain ⟨_, _, _, _, _, _, _, _, _, _, z⟩ := hq
    exact z.elim
   | ok fl =>
    cases fl with
    | next => exact False.elim hq
    | brk => exact False.elim hq
    | cont => exact False.elim hq
    | ret u =>
     obtain ⟨v, H2, I2, r2, W2, eS, nx, rv⟩ := I1.after hq
     refine wpAny_execs_nil (wpAny_execs_nil ?_)
     exact ⟨_, H2, I2, hA1 H2 W2 eS nx _ (hδ1.mv (nx.mv hS1))⟩
  | er c S2 =>
   have hg1 : (if hits.contains c = true then bnd (gs (δ.set j (some (.exc c))) S2) (tryEndK j) else none) = some rr := hg1
   by_cases hc : hits.contains c = true
   ·rw [if_pos hc] at hg1
    obtain ⟨C, hmc, hxm, hmiss⟩ := hh c (by simpa using hc)
    have sp : spF (gx X) f (vs ++ []) H1 (fun _ _ => False) (fun v _ H' => v = .ref C ∧ ∃ W2, W2.S = S2 ∧ Nxt (gx X) H1 W1 H' W2) := ⟨W1, ds, _, hS1, by rw [List.append_nil]; exact rl1, hf, C, hmc, fun H' W' e nx => ⟨rfl, W', e, nx⟩⟩
    have hl : (us ++ []).length = ps.length := by rw [List.append_nil, ← r1.length]; have := F.len _ _ _ _ sp; rw [List.append_nil] at this; exact this
    refine wpAny_call (codeAny_mono (F.run X.A X.stack s1 H1 ⟨us, []⟩ (us ++ []) (vs ++ []) _ _ hr I1.env0 (hb s1 us I1.kIn hl) (by rw [List.append_nil, List.append_nil]; exact r1) sp) fun r s' hq => ?_)
    cases r with
    | ok fl =>
     cases fl with
     | next => exact False.elim hq
     | brk => exact False.elim hq
     | cont => exact False.elim hq
     | ret u =>
      obtain ⟨_, _, _, _, _, _, _, z⟩ := hq
      exact z.elim
    | error ev =>
     obtain ⟨ea, C', H', B, a0, rfl, os, bare, FL, fl, eC, W2, eS, nx⟩ := hq
     cases eC
     rw [hstk] at FL fl
     have frm : X.A.frames = some (X.env :: X.outer) := by rw [I.ok.frames, hstk]
     refine wpAny_looks_onW frm hfr fl fun h4 held k4 => wpAny_landsW held fun h5 fl5 k5 => ?_
     have F5 := (FL.step k4 held.1).step k5 fl5.1
     have I5 : Inv X pins σ H' { s' with heap := h5 } := I1.call' (s' := { s' with heap := h5 }) os (ch := []) (by rw [hstk]; exact F5.un) F5.hok bare fun b z => absurd z (by simp)
     obtain ⟨oe, ws, hoe, hoec, hoed, _⟩ := fl5.first
     have LT0 : PySem.W.Looks (model X.prog X.w) h5 (typeOf (.ref ea)) (.ref C) := by
      have := (PySem.W.Looks.ld (M := model X.prog X.w) (part := none) hoe).andThen (f := fun o => (pure o.cls : Sem Value)) .now
      rw [hoec] at this
      exact this
     refine wpAny_handleBy_cons (codeAny_handlers_test (wpAny_Tuple_spliced (spl_names (Inv.mark I5 ea) Ls hL ⟨by rw [List.length_map]; exact sz hLl, ?_⟩))) (by intro q; cases q)
     have kp : ∀ q o, h5.get? q = some o → (h5.push { cls := .type "tuple", data := .seq (Ls.map fun l => Value.ref l.2.2).toArray }).get? q = some o := fun _ _ z => Heap.get?_push_of_some _ z
     refine (exm_tupN (M := model X.prog X.w) (I5.kIn.keeps kp) (LT0.keeps kp) (Heap.get?_push_size h5 rfl) fun c hc => by
      obtain ⟨l, hl, rfl⟩ := List.mem_map.mp hc
      exact hmiss l hl) _ _ _ _ (fun _ _ q => q) ?_
     show wpAny (model X.prog X.w) X.A (handleBy (.ref ea) X.env [.ExceptHandler (some (.Name cn cp)) (some n) (b₀ :: suite) hpos]) _ _ _
     have fl5 := PySem.W.flying_keeps fl5 kp
     have F5 := F5.step (fun q o z _ => ⟨_, kp q o z⟩) fl5.1
     generalize h5.push { cls := .type "tuple", data := .seq (Ls.map fun l => Value.ref l.2.2).toArray } = h5 at fl5 F5 ⊢
     have I5 : Inv X pins σ H' { s' with heap := h5 } := I1.call' (s' := { s' with heap := h5 }) os (ch := []) (by rw [hstk]; exact F5.un) F5.hok bare fun b z => absurd z (by simp)
     obtain ⟨oe, ws, hoe, hoec, hoed, _⟩ := fl5.first
     refine wpAny_handleBy_cons (codeAny_handlers_test (ld_glob (X := markCx X ea) (Inv.mark I5 ea) hcg hcm ?_ hdc)) (by intro q; cases q)
     have LT : PySem.W.Looks (model X.prog X.w) h5 (typeOf (.ref ea)) (.ref C) := by
      have := (PySem.W.Looks.ld (M := model X.prog X.w) (part := none) hoe).andThen (f := fun o => (pure o.cls : Sem Value)) .now
      rw [hoec] at this
      exact this
     refine (PySem.W.exm_one (M := model X.prog X.w) I5.kIn LT hxm) _ _ _ _ (fun _ _ q => q) ?_
     show codeAny (model X.prog X.w) (X.A.mark (some (.ref ea))) (.handlers (.ref ea) [.ExceptHandler none (some n) (b₀ :: suite) hpos] X.env) _ _
     refine codeAny_handlers_suite_as (lands_againW fl5 fun h6 fl6 k6 => ?_)
     have F6 := F5.step k6 fl6.1
     have I6 : Inv X pins σ H' { s' with heap := h6 } := I1.call' (s' := { s' with heap := h6 }) os (ch := []) (by rw [hstk]; exact F6.un) F6.hok bare fun b z => absurd z (by simp)
     obtain ⟨oe, ws, hoe, hoec, hoed, _⟩ := fl6.first
     have new0 : ∀ b o, X.s₀.heap.get? b = some o → b ≠ ea := fun b o q z => by
      obtain ⟨o', q'⟩ := I1.base.there b o q (by rw [hex]; simp)
      rw [z, F6.newe] at q'
      cases q'
     have newp : ∀ p ∈ X.pn ++ pins, p.1 ≠ ea := fun p hp z => by
      have := (I1.pin p hp).1
      rw [z, F6.newe] at this
      cases this
     have I7 : Inv X pins σ (upd H' ea (.ext (excAt ea C))) { s' with heap := h6 } := Inv.trackE I6 F6.free new0 hoe (fun v z => by rw [hoed] at z; cases z) (fun es n z => by rw [hoed] at z; cases z) newp ⟨oe, hoe, hoec⟩ fun h1 h2 ⟨o, a1, a2⟩ k => ⟨o, k o a1, a2⟩
     refine store_ok (X := markCx X ea) (v := .ref ea) (Inv.mark I7 ea) hN hj (.inl hnl) rfl (fun s8 I8 => ?_) (.inr hnl)
     have nx2 : Nxt (gx X) H1 W1 (upd H' ea (.ext (excAt ea C))) W2 := nx.trans (Nxt.heap nx.ok F6.free _)
     have rx : Rep (gx X) (upd H' ea (.ext (excAt ea C))) W2 (.exc c) (.ref ea) := ⟨ea, C, rfl, hmc, zW⟩
     have hsu := hs ea
     unfold PDSs at hsu
     subst eS
     have rd2 : tFS (gx X) E0 gs { nx := fun σ3 H3 => D.nx (σ3.set j none) H3, rt := fun _ _ => False, bk := fun _ _ => False, ct := fun _ _ => False } (σ.set j (some (.ref ea))) (upd H' ea (.ext (excAt ea C))) := by
      refine Go.thn nx2.ok ((hδ1.mv (nx2.mv hS1)).set j rx) hg1 (hA1.nxt nx2) fun a H3 W3 s3 hδ3 hg3 hA3 => ?_
      cases a with
      | nx δ3 =>
       obtain rfl : Rs.ok (Fl.nx (δ3.set j none)) W3.S = rr := Option.some.inj hg3
       exact fun σ3 r3 => (hA3.now s3.ok) _ (RepS.unset j r3)
      | rt d => cases hg3
      | bk δ => cases hg3
      | ct δ => cases hg3
     refine wpAny_mono (hsu pins s8 _ _ _ I8 rd2) (fun fl s9 q9 => ?_) fun e s' z => z.elim
     cases fl with
     | next =>
      obtain ⟨σ3, H3, I9, q9⟩ := q9
      exact name_goes (Inv.unmark I9 I.ok) hN hj hnl fun s10 I10 => ⟨_, H3, I10, q9⟩
     | ret v => obtain ⟨_, _, _, _, _, z⟩ := q9; exact z.elim
     | brk => obtain ⟨_, _, _, z⟩ := q9; exact z.elim
     | cont => obtain ⟨_, _, _, z⟩ := q9; exact z.elim
   ·rw [if_neg hc] at hg1
    cases hg1
end
end Np
end
section
namespace Np
open PySem PySem.Spec PyProof.Rows L2
section
variable {X : Cx} {E : XK}
theorem pe_dnew {pos : Pos} : PE X (.Dict [] [] pos) (fun _ H Q => ∀ p, H p = none → Q (.ref p) (upd H p (.dK []))) := fun pins s σ H Q I h => by
 have hb : sysModules < s.heap.objs.size := by
  have h : mainGlobals < s.heap.objs.size := (I.mod.glob.keeps I.bk).lt
  exact Nat.lt_trans (by decide) h
 exact wpAny_Dict_empty ⟨.ref s.heap.objs.size, _, I.laid (a := s.heap.objs.size) (o := .dK []) (t' := s.toks) (fun _ _ q => Heap.get?_push_of_some _ q) (Nat.le_refl _) ⟨Nat.zero_le _, beq_eq_false_iff_ne.mpr (Ne.symm (Nat.ne_of_lt hb)), [], .nil, Heap.DictOf.new s.heap⟩, rfl, h _ (I.hok.fresh (Nat.le_refl _))⟩
theorem pd_dnew {pos : Pos} : PDE X E (.Dict [] [] pos) dctN := by
 try unfold PDE at *
 refine PE.imp pe_dnew fun σ H Q ⟨W, δ, rr, hS, hδ, hg, hA⟩ p hp => ?_
 obtain rfl : Rs.ok (D.ref W.S.length) (W.S ++ [O.dct []]) = rr := Option.some.inj hg
 refine hA _ (W.push p (.dct [])) rfl (Nxt.alloc hS hp ⟨rfl, zW⟩) _ ⟨?_, ?_⟩
 ·simp [Wd.push]
 ·show V.ref p = .ref (if W.S.length = W.S.length then p else _)
  rw [if_pos rfl]
theorem cd_tof {G : Gx} : CallD G (fun xs H Q => ∃ p ys, xs = [.ref p] ∧ ((SqL G.K H p ys ∧ ∀ l, H l = none → Q (.ref l) (upd H l (.tup ys))) ∨ (SqT G.K H p ys ∧ Q (.ref p) H))) tofD := by
 intro E H W vs ds Q rr hS rl e hA
 unfold tofD at e
 split at e
 ·rename_i a
  split at e
  ·rename_i xs hx
   obtain ⟨v, r, rfl, rx, t⟩ := rl
   have t : r = [] := t
   subst t
   obtain rfl : Rs.ok (D.tup xs) W.S = rr := Option.some.inj e
   obtain ⟨us, ex, hq, rl⟩ := hS.lst rx hx
   subst ex
   exact ⟨_, us, rfl, .inl ⟨.inl (.inl hq), fun p hp => hA _ W rfl (Nxt.heap hS hp _) _ ⟨p, us, rfl, SqT.of zW, rl.mv (Mv.heap hp _)⟩⟩⟩
  ·cases e
 ·rename_i xs
  obtain ⟨v, r, rfl, ⟨a, us, rfl, q, rl⟩, t⟩ := rl
  have t : r = [] := t
  subst t
  obtain rfl : Rs.ok (D.tup xs) W.S = rr := Option.some.inj e
  exact ⟨a, us, rfl, .inr ⟨q, hA.now hS _ ⟨a, us, rfl, q, rl⟩⟩⟩
 ·cases e
end
end Np
end
section
namespace Np
open PySem
@[irreducible] def W {α : Type} (m : R α) (Q : α → Sto → Prop) : Prop := match m with
 | some (.ok a S) => Q a S
 | some (.er _ _) => False
 | none => False
theorem W_ok {α : Type} (a : α) (S : Sto) (Q : α → Sto → Prop) : W (some (.ok a S)) Q = Q a S := by with_unfolding_all exact rfl
theorem W.out {α : Type} {m : R α} {Q : α → Sto → Prop} (h : W m Q) : ∃ a S, m = some (.ok a S) ∧ Q a S := by
 unfold W at h
 cases m with
 | none => exact h.elim
 | some r =>
  cases r with
  | ok a S => exact ⟨a, S, rfl, h⟩
  | er c S => exact h.elim
theorem W_bnd {α β : Type} (m : R α) (k : α → Sto → R β) (Q : β → Sto → Prop) : W (bnd m k) Q = W m (fun a S => W (k a S) Q) := by
 unfold W
 cases m with
 | none => rfl
 | some r => cases r <;> rfl
theorem W.mono {α : Type} {m : R α} {Q Q' : α → Sto → Prop} (h : W m Q) (hi : ∀ a S, Q a S → Q' a S) : W m Q' := by
 unfold W at h ⊢
 cases m with
 | none => exact h
 | some r =>
  cases r with
  | ok a S => exact hi a S h
  | er c S => exact h
theorem W.intro {α : Type} {m : R α} {Q : α → Sto → Prop} {a : α} {S : Sto} (e : m = some (.ok a S)) (q : Q a S) : W m Q := by
 subst e
 rw [W_ok]
 exact q
theorem ifEK_t (a b : DE) (δ : DS) (S : Sto) : ifEK a b δ true S = a δ S := rfl
theorem ifEK_f (a b : DE) (δ : DS) (S : Sto) : ifEK a b δ false S = b δ S := rfl
theorem andTK_t (b : DT) (δ : DS) (S : Sto) : andTK b δ true S = b δ S := rfl
theorem andTK_f (b : DT) (δ : DS) (S : Sto) : andTK b δ false S = ok false S := rfl
theorem orTK_t (b : DT) (δ : DS) (S : Sto) : orTK b δ true S = ok true S := rfl
theorem orTK_f (b : DT) (δ : DS) (S : Sto) : orTK b δ false S = b δ S := rfl
theorem andVB_t (b : DE) (δ : DS) (S : Sto) : andVB b δ true S = b δ S := rfl
theorem andVB_f (b : DE) (δ : DS) (S : Sto) : andVB b δ false S = ok (.bl false) S := rfl
theorem orVB_t (b : DE) (δ : DS) (S : Sto) : orVB b δ true S = ok (.bl true) S := rfl
theorem orVB_f (b : DE) (δ : DS) (S : Sto) : orVB b δ false S = b δ S := rfl
theorem chnB_t (g : D → D → Sto → R D) (b : DE) (δ : DS) (y : D) (S : Sto) : chnB g b δ y true S = bnd (b δ S) (g y) := rfl
theorem chnB_f (g : D → D → Sto → R D) (b : DE) (δ : DS) (y : D) (S : Sto) : chnB g b δ y false S = ok (.bl false) S := rfl
def outQ (Q : D → Sto → Prop) : Fl → Sto → Prop
 | .nx _, S => Q .non S
 | .rt d, S => Q d S
 | .bk _, _ => False
 | .ct _, _ => False
theorem W_outF (m : R Fl) (Q : D → Sto → Prop) : W (outF m) Q = W m (outQ Q) := by
 unfold W
 cases m with
 | none => rfl
 | some r =>
  cases r with
  | er c S => rfl
  | ok f S => cases f <;> rfl
theorem W_ifK (a b : DSt) (δ : DS) (c : Bool) (S : Sto) (Q : Fl → Sto → Prop) : W (ifK a b δ c S) Q = if c = true then W (a δ S) Q else W (b δ S) Q := by cases c <;> rfl
theorem W_ifEK (a b : DE) (δ : DS) (c : Bool) (S : Sto) (Q : D → Sto → Prop) : W (ifEK a b δ c S) Q = if c = true then W (a δ S) Q else W (b δ S) Q := by cases c <;> rfl
theorem W_andTK (b : DT) (δ : DS) (c : Bool) (S : Sto) (Q : Bool → Sto → Prop) : W (andTK b δ c S) Q = if c = true then W (b δ S) Q else Q false S := by cases c <;> first | rfl | exact W_ok ..
theorem W_orTK (b : DT) (δ : DS) (c : Bool) (S : Sto) (Q : Bool → Sto → Prop) : W (orTK b δ c S) Q = if c = true then Q true S else W (b δ S) Q := by cases c <;> first | rfl | exact W_ok ..
theorem W_andVB (b : DE) (δ : DS) (c : Bool) (S : Sto) (Q : D → Sto → Prop) : W (andVB b δ c S) Q = if c = true then W (b δ S) Q else Q (.bl false) S := by cases c <;> first | rfl | exact W_ok ..
theorem W_orVB (b : DE) (δ : DS) (c : Bool) (S : Sto) (Q : D → Sto → Prop) : W (orVB b δ c S) Q = if c = true then Q (.bl true) S else W (b δ S) Q := by cases c <;> first | rfl | exact W_ok ..
theorem W_chnB (g : D → D → Sto → R D) (b : DE) (δ : DS) (y : D) (c : Bool) (S : Sto) (Q : D → Sto → Prop) : W (chnB g b δ y c S) Q = if c = true then W (bnd (b δ S) (g y)) Q else Q (.bl false) S := by cases c <;> first | rfl | exact W_ok ..
def SLe (S S' : Sto) : Prop := ∃ X, S' = S ++ X
theorem SLe.rfl {S : Sto} : SLe S S := ⟨[], by simp⟩
theorem SLe.trans {S S' S'' : Sto} (h : SLe S S') (k : SLe S' S'') : SLe S S'' := by
 obtain ⟨X, rfl⟩ := h
 obtain ⟨Y, rfl⟩ := k
 exact ⟨X ++ Y, by simp⟩
theorem SLe.push {S S' : Sto} (o : O) (h : SLe S S') : SLe S (S' ++ [o]) := h.trans ⟨[o], by rfl⟩
theorem SLe.app {S : Sto} (X : Sto) : SLe S (S ++ X) := ⟨X, by rfl⟩
theorem SLe.len {S S' : Sto} (h : SLe S S') : S.length ≤ S'.length := by
 obtain ⟨X, rfl⟩ := h
 simp
theorem SLe.get {S S' : Sto} (h : SLe S S') {a : Nat} (ha : a < S.length) : S'[a]? = S[a]? := by
 obtain ⟨X, rfl⟩ := h
 exact List.getElem?_append_left ha
theorem SLe.set {S S' : Sto} (h : SLe S S') {a : Nat} (ha : S.length ≤ a) (o : O) : SLe S (S'.set a o) := by
 obtain ⟨X, rfl⟩ := h
 exact ⟨X.set (a - S.length) o, by rw [List.set_append_right _ _ ha]⟩
theorem lstAt_lt {S : Sto} {a : Nat} {xs : List D} (h : zH S a = some xs) : a < S.length := by
 unfold zH at h
 split at h
 ·rename_i e
  exact (List.getElem?_eq_some_iff.mp e).1
 ·cases h
theorem lstAt_eq {S S' : Sto} {a : Nat} (h : S'[a]? = S[a]?) : zH S' a = zH S a := by unfold zH; rw [h]
theorem SLe.lst {S S' : Sto} (h : SLe S S') {a : Nat} {xs : List D} (e : zH S a = some xs) : zH S' a = some xs := by
 rw [lstAt_eq (h.get (lstAt_lt e))]
 exact e
@[simp] theorem lstAt_push (S : Sto) (xs : List D) : zH (S ++ [.lst xs]) S.length = some xs := by simp [zH]
theorem lstAt_set {S : Sto} {a : Nat} {xs ys : List D} (h : zH S a = some xs) : zH (S.set a (.lst ys)) a = some ys := by
 unfold zH
 rw [List.getElem?_set_self (lstAt_lt h)]
theorem lstAt_set_ne {S : Sto} {a b : Nat} {o : O} (h : a ≠ b) : zH (S.set a o) b = zH S b := lstAt_eq (List.getElem?_set_ne h)
def loopQ (Q : Fl → Sto → Prop) (J : DS → Sto → Prop) : Fl → Sto → Prop
 | .nx δ, S => J δ S
 | .ct δ, S => J δ S
 | .bk δ, S => Q (.nx δ) S
 | .rt d, S => Q (.rt d) S
theorem W_for {src : Src} {g : DG} {b : DSt} {Q : Fl → Sto → Prop} (xs : List D) (I : Nat → DS → Sto → Prop)
  (hs : ∀ i δ S, I i δ S → src.get S i = some xs[i]?)
  (step : ∀ i x δ S, xs[i]? = some x → I i δ S → W (g x δ S) fun δ' S' => W (b δ' S') (loopQ Q (I (i + 1))))
  (fin : ∀ δ S, I xs.length δ S → Q (.nx δ) S) : ∀ n i δ S, i ≤ xs.length → xs.length ≤ i + n → I i δ S → W (forD src g b n i δ S) Q
 | 0, i, δ, S, hi, hn, h => by
  have e : i = xs.length := by omega
  have hg := hs i δ S h
  rw [List.getElem?_eq_none (by omega)] at hg
  unfold forD
  rw [hg, W_ok]
  subst e
  exact fin δ S h
 | n + 1, i, δ, S, hi, hn, h => by
  have hg := hs i δ S h
  unfold forD
  rw [hg]
  cases q : xs[i]? with
  | none =>
   have e : i = xs.length := by have := List.getElem?_eq_none_iff.mp q; omega
   subst e
   show W (some (.ok (Fl.nx δ) S)) Q
   rw [W_ok]
   exact fin δ S h
  | some x =>
   have hlt : i < xs.length := (List.getElem?_eq_some_iff.mp q).1
   show W (bnd (g x δ S) (turnK b (forD src g b n (i + 1)))) Q
   rw [W_bnd]
   refine (step i x δ S q h).mono fun δ' S' h' => ?_
   unfold turnK
   rw [W_bnd]
   refine h'.mono fun f S'' h'' => ?_
   cases f with
   | nx δ2 => exact W_for xs I hs step fin n (i + 1) δ2 S'' hlt (by omega) h''
   | ct δ2 => exact W_for xs I hs step fin n (i + 1) δ2 S'' hlt (by omega) h''
   | bk δ2 => exact W.intro rfl h''
   | rt d => exact W.intro rfl h''
theorem W_forK {src : Src} {g : DG} {b : DSt} {Q : Fl → Sto → Prop} {δ : DS} {S : Sto} (xs : List D) (I : Nat → DS → Sto → Prop) (hl : xs.length ≤ src.len S) (h0 : I 0 δ S)
  (hs : ∀ i δ S, I i δ S → src.get S i = some xs[i]?)
  (step : ∀ i x δ S, xs[i]? = some x → I i δ S → W (g x δ S) fun δ' S' => W (b δ' S') (loopQ Q (I (i + 1))))
  (fin : ∀ δ S, I xs.length δ S → Q (.nx δ) S) : W (forK g b δ src S) Q :=
 W_for xs I hs step fin _ 0 δ S (Nat.zero_le _) (by omega) h0
theorem W_while {t : DT} {b : DSt} {Q : Fl → Sto → Prop} (I : DS → Sto → Prop) (μ : DS → Sto → Nat)
  (step : ∀ δ S, I δ S → W (t δ S) fun c S' => if c = true then W (b δ S') (loopQ Q fun δ2 S2 => I δ2 S2 ∧ μ δ2 S2 < μ δ S) else Q (.nx δ) S') : ∀ n δ S, μ δ S < n → I δ S → W (whileD t b n δ S) Q
 | 0, _, _, h, _ => by omega
 | n + 1, δ, S, h, hI => by
  unfold whileD
  rw [W_bnd]
  refine (step δ S hI).mono fun c S' h' => ?_
  cases c with
  | false => exact W.intro rfl (by simpa using h')
  | true =>
   rw [if_pos rfl] at h'
   show W (bnd (b δ S') (loopK (whileD t b n))) Q
   rw [W_bnd]
   refine h'.mono fun f S2 h2 => ?_
   cases f with
   | nx δ2 => exact W_while I μ step n δ2 S2 (Nat.lt_of_lt_of_le h2.2 (by omega)) h2.1
   | ct δ2 => exact W_while I μ step n δ2 S2 (Nat.lt_of_lt_of_le h2.2 (by omega)) h2.1
   | bk δ2 => exact W.intro rfl h2
   | rt d => exact W.intro rfl h2
theorem W_whileS {t : DT} {b : DSt} {Q : Fl → Sto → Prop} {δ : DS} {S : Sto} (I : DS → Sto → Prop) (μ : DS → Sto → Nat) (h0 : I δ S)
  (step : ∀ δ S, I δ S → W (t δ S) fun c S' => if c = true then W (b δ S') (loopQ Q fun δ2 S2 => I δ2 S2 ∧ μ δ2 S2 < μ δ S) else Q (.nx δ) S') : W (whileS t b δ S) Q := by
 obtain ⟨f, S', e, q⟩ := (W_while I μ step (μ δ S + 1) δ S (Nat.lt_succ_self _) h0).out
 exact W.intro (whileS_of e) q
def Tg (g : DG) (k : Nat) (vals : D → List (Option D)) (base : DS) (P : D → Prop) : Prop := ∀ x os S, os.length = k → P x → g x (base ++ os) S = ok (base ++ vals x) S ∧ (vals x).length = k
theorem W_compD {src : Src} {g : DG} {e : DE} {base : DS} {k : Nat} {vals : D → List (Option D)} {Q : List D → Sto → Prop} (xs : List D) (I : Nat → List D → Sto → Prop) (P : D → Prop) (hP : ∀ x ∈ xs, P x) (hg : Tg g k vals base P)
  (hs : ∀ i acc S, I i acc S → src.get S i = some xs[i]?)
  (step : ∀ i x acc S, xs[i]? = some x → acc.length = i → I i acc S → W (e (base ++ vals x) S) fun d S' => I (i + 1) (acc ++ [d]) S')
  (fin : ∀ acc S, I xs.length acc S → acc.length = xs.length → Q acc S) : ∀ n i acc os S, os.length = k → acc.length = i → i ≤ xs.length → xs.length ≤ i + n → I i acc S → W (compD src g e n i (base ++ os) S) fun ds S' => Q (acc ++ ds) S'
 | 0, i, acc, os, S, ho, ha, hi, hn, h => by
  have e : i = xs.length := by omega
  have hg := hs i acc S h
  rw [List.getElem?_eq_none (by omega)] at hg
  unfold compD
  rw [hg, W_ok, List.append_nil]
  subst e
  exact fin acc S h ha
 | n + 1, i, acc, os, S, ho, ha, hi, hn, h => by
  have hgt := hs i acc S h
  unfold compD
  rw [hgt]
  cases q : xs[i]? with
  | none =>
   have e : i = xs.length := by have := List.getElem?_eq_none_iff.mp q; omega
   subst e
   show W (some (.ok [] S)) _
   rw [W_ok, List.append_nil]
   exact fin acc S h ha
  | some x =>
   have hlt : i < xs.length := (List.getElem?_eq_some_iff.mp q).1
   show W (bnd (g x (base ++ os) S) (compK e (compD src g e n (i + 1)))) _
   obtain ⟨e1, e2⟩ := hg x os S ho (hP x (List.mem_of_getElem? q))
   rw [e1, bnd_ok]
   unfold compK
   rw [W_bnd]
   refine (step i x acc S q ha h).mono fun d S' h' => ?_
   unfold compK2
   rw [W_bnd]
   refine (W_compD xs I P hP hg hs step fin n (i + 1) (acc ++ [d]) (vals x) S' e2 (by simp [ha]) hlt (by omega) h').mono fun ds S2 h2 => ?_
   unfold consK
   rw [W_ok]
   simpa using h2
theorem W_noer {α : Type} (m : R α) (Q : α → Sto → Prop) : W (noer m) Q = W m Q := by
 unfold W
 cases m with
 | none => rfl
 | some r => cases r <;> rfl
theorem W_compE {it : DI} {g : DG} {e : DE} {base : DS} {k : Nat} {S : Sto} {Q : D → Sto → Prop} (vals : D → List (Option D)) (xs : List D) (I : Nat → List D → Sto → Prop) (P : D → Prop) (hP : ∀ x ∈ xs, P x) (hg : Tg g k vals base P)
  (hit : W (it base S) fun src S' => xs.length ≤ src.len S' ∧ src.len S' ≤ 1000000 ∧ I 0 [] S' ∧ ∀ i acc S, I i acc S → src.get S i = some xs[i]?)
  (step : ∀ i x acc S, xs[i]? = some x → acc.length = i → I i acc S → W (e (base ++ vals x) S) fun d S' => I (i + 1) (acc ++ [d]) S')
  (fin : ∀ acc S, I xs.length acc S → acc.length = xs.length → Q (.ref S.length) (S ++ [.lst acc])) : W (compE it k g e base S) Q := by
 unfold compE
 rw [W_bnd]
 refine hit.mono fun src S' ⟨h1, h2, h3, h4⟩ => ?_
 unfold compL
 rw [if_pos h2, W_bnd, W_noer]
 refine (W_compD (Q := fun ds S => Q (.ref S.length) (S ++ [.lst ds])) xs I P hP hg h4 step fin _ 0 [] (List.replicate k none) S' (by simp) rfl (Nat.zero_le _) (by omega) h3).mono fun ds S2 h => ?_
 exact W.intro rfl (by simpa using h)
theorem tg_one (base : DS) : Tg (setG base.length) 1 (fun x => [some x]) base fun _ => True := fun x os S ho _ => by
 match os, ho with
 | [o], _ => exact ⟨by show ok ((base ++ [o]).set base.length (some x)) S = _; simp, rfl⟩
def pr1 : D → Option D
 | .tup (x :: _) => some x
 | _ => none
def pr2 : D → Option D
 | .tup (_ :: y :: _) => some y
 | _ => none
theorem tg_two (base : DS) : Tg (tupG [setG base.length, setG (base.length + 1)]) 2 (fun x => [pr1 x, pr2 x]) base fun x => ∃ p q, x = .tup [p, q] := fun x os S ho hp => by
 obtain ⟨p, q, rfl⟩ := hp
 match os, ho with
 | [o, o'], _ => exact ⟨by simp [tupG, tupGs, setG, pr1, pr2, List.set_append_right], rfl⟩
end Np
end
section
open Np PySem
noncomputable section
def Den.greatest_common : DSt :=
 (seqS (setS 2 (vr 0)) (seqS (setS 3 (vr 1)) (seqS (whileS (tv (op2 neD (vr 3) (cst (.int 0)))) (seqS (setS 4 (op2 modD (vr 2) (vr 3))) (seqS (setS 2 (vr 3)) (setS 3 (vr 4))))) (retS (vr 2)))))
def F.greatest_common : List D → Sto → R D := fnF 5 2 Den.greatest_common
def Den.ratio : DSt :=
 (seqS (ifS (tv (op2 eqD (vr 1) (cst (.int 0)))) nevS nxS) (seqS (setS 2 (fnE F.greatest_common (yF (fnE absD (yF (vr 0) aNil)) (yF (fnE absD (yF (vr 1) aNil)) aNil)))) (seqS (ifS (tv (op2 ltD (vr 1) (cst (.int 0)))) (setS 2 (op1 negD (vr 2))) nxS) (retS (fnE tupD (yF (op2 fdivD (vr 0) (vr 2)) (yF (op2 fdivD (vr 1) (vr 2)) aNil)))))))
def F.ratio : List D → Sto → R D := fnF 3 2 Den.ratio
def Den.plus : DSt :=
 (retS (fnE F.ratio (yF (op2 addD (op2 mulD (op2 ixD (vr 0) (cst (.int 0))) (op2 ixD (vr 1) (cst (.int 1)))) (op2 mulD (op2 ixD (vr 1) (cst (.int 0))) (op2 ixD (vr 0) (cst (.int 1))))) (yF (op2 mulD (op2 ixD (vr 0) (cst (.int 1))) (op2 ixD (vr 1) (cst (.int 1)))) aNil))))
def F.plus : List D → Sto → R D := fnF 2 2 Den.plus
def Den.minus : DSt :=
 (retS (fnE F.ratio (yF (op2 subD (op2 mulD (op2 ixD (vr 0) (cst (.int 0))) (op2 ixD (vr 1) (cst (.int 1)))) (op2 mulD (op2 ixD (vr 1) (cst (.int 0))) (op2 ixD (vr 0) (cst (.int 1))))) (yF (op2 mulD (op2 ixD (vr 0) (cst (.int 1))) (op2 ixD (vr 1) (cst (.int 1)))) aNil))))
def F.minus : List D → Sto → R D := fnF 2 2 Den.minus
def Den.times : DSt :=
 (retS (fnE F.ratio (yF (op2 mulD (op2 ixD (vr 0) (cst (.int 0))) (op2 ixD (vr 1) (cst (.int 0)))) (yF (op2 mulD (op2 ixD (vr 0) (cst (.int 1))) (op2 ixD (vr 1) (cst (.int 1)))) aNil))))
def F.times : List D → Sto → R D := fnF 2 2 Den.times
def Den.k02_whole : DSt :=
 (retS (andV (op1 (isiD .int) (vr 0)) (notV (op1 (isiD .bool) (vr 0)))))
def F.k02_whole : List D → Sto → R D := fnF 1 1 Den.k02_whole
end
end
section
open Np PySem
noncomputable section
def Den.added : DSt :=
 (retS (compE (itA zip2D (yF (vr 0) (yF (vr 1) aNil))) 2 (tupG [(setG 2), (setG 3)]) (fnE F.plus (yF (vr 2) (yF (vr 3) aNil)))))
def F.added : List D → Sto → R D := fnF 2 2 Den.added
def Den.scaled : DSt :=
 (retS (compE (itE itL (vr 0)) 1 (setG 2) (fnE F.times (yF (vr 2) (yF (vr 1) aNil)))))
def F.scaled : List D → Sto → R D := fnF 2 2 Den.scaled
def Den.k11_cell_at : DSt :=
 (seqS (ifS (tv (op2 ltD (vr 1) (fnE lenD (yF (vr 0) aNil)))) (retS (op2 ixD (vr 0) (vr 1))) nxS) (retS (cst (.int 0))))
def F.k11_cell_at : List D → Sto → R D := fnF 2 2 Den.k11_cell_at
end
end
section
open Np PySem
noncomputable section
end
end
section
open Np PySem
noncomputable section
end
end
section
open Np PySem
noncomputable section
def Den.column_of : DSt :=
 (retS (compE (itE itL (vr 0)) 1 (setG 2) (op2 ixD (vr 2) (vr 1))))
def F.column_of : List D → Sto → R D := fnF 2 2 Den.column_of
def Den.turned : DSt :=
 (retS (compE (itA rng1D (yF (vr 1) aNil)) 1 (setG 2) (fnE F.column_of (yF (vr 0) (yF (vr 2) aNil)))))
def F.turned : List D → Sto → R D := fnF 2 2 Den.turned
def Den.unit_row : DSt :=
 (retS (compE (itA rng1D (yF (vr 0) aNil)) 1 (setG 2) (ifE (tv (op2 eqD (vr 2) (vr 1))) (cst (.tup [(.int 1), (.int 1)])) (cst (.tup [(.int 0), (.int 1)])))))
def F.unit_row : List D → Sto → R D := fnF 2 2 Den.unit_row
def Den.unit : DSt :=
 (retS (compE (itA rng1D (yF (vr 0) aNil)) 1 (setG 1) (fnE F.unit_row (yF (vr 0) (yF (vr 1) aNil)))))
def F.unit : List D → Sto → R D := fnF 1 1 Den.unit
end
end
section
open Np PySem
noncomputable section
end
end
section
open Np PySem
noncomputable section
def Den.is_ratio : DSt :=
 (seqS (ifS (orT (notT (tv (op1 (isiD .tup) (vr 0)))) (tv (op2 neD (fnE lenD (yF (vr 0) aNil)) (cst (.int 2))))) (retS (cst (.bl false))) nxS) (seqS (ifS (orT (notT (tv (fnE F.k02_whole (yF (op2 ixD (vr 0) (cst (.int 0))) aNil)))) (notT (tv (fnE F.k02_whole (yF (op2 ixD (vr 0) (cst (.int 1))) aNil))))) (retS (cst (.bl false))) nxS) (retS (andV (op2 geD (op2 ixD (vr 0) (cst (.int 1))) (cst (.int 1))) (op2 eqD (fnE F.greatest_common (yF (fnE absD (yF (op2 ixD (vr 0) (cst (.int 0))) aNil)) (yF (op2 ixD (vr 0) (cst (.int 1))) aNil))) (cst (.int 1)))))))
def F.is_ratio : List D → Sto → R D := fnF 1 1 Den.is_ratio
def Den.is_row_number : DSt :=
 (retS (andV (fnE F.k02_whole (yF (vr 0) aNil)) (chn leD ltD (cst (.int 0)) (vr 0) (vr 1))))
def F.is_row_number : List D → Sto → R D := fnF 2 2 Den.is_row_number
def Den.are_unlike_rows : DSt :=
 (retS (andV (fnE F.is_row_number (yF (vr 0) (yF (vr 2) aNil))) (andV (fnE F.is_row_number (yF (vr 1) (yF (vr 2) aNil))) (op2 neD (vr 0) (vr 1)))))
def F.are_unlike_rows : List D → Sto → R D := fnF 3 3 Den.are_unlike_rows
def Den.is_deed : DSt :=
 (seqS (ifS (orT (notT (tv (op1 (isiD .tup) (vr 0)))) (tv (op2 eqD (fnE lenD (yF (vr 0) aNil)) (cst (.int 0))))) (retS (cst (.bl false))) nxS) (seqS (setS 2 (op2 ixD (vr 0) (cst (.int 0)))) (seqS (ifS (notT (tv (op1 (isiD .str) (vr 2)))) (retS (cst (.bl false))) nxS) (seqS (ifS (tv (op2 eqD (vr 2) (cst (.str "swap")))) (retS (andV (op2 eqD (fnE lenD (yF (vr 0) aNil)) (cst (.int 3))) (fnE F.are_unlike_rows (yF (op2 ixD (vr 0) (cst (.int 1))) (yF (op2 ixD (vr 0) (cst (.int 2))) (yF (vr 1) aNil)))))) nxS) (seqS (ifS (tv (op2 eqD (vr 2) (cst (.str "scale")))) (retS (andV (op2 eqD (fnE lenD (yF (vr 0) aNil)) (cst (.int 3))) (andV (fnE F.is_row_number (yF (op2 ixD (vr 0) (cst (.int 1))) (yF (vr 1) aNil))) (andV (fnE F.is_ratio (yF (op2 ixD (vr 0) (cst (.int 2))) aNil)) (op2 neD (op2 ixD (vr 0) (cst (.int 2))) (cst (.tup [(.int 0), (.int 1)]))))))) nxS) (seqS (ifS (tv (op2 eqD (vr 2) (cst (.str "add")))) (retS (andV (op2 eqD (fnE lenD (yF (vr 0) aNil)) (cst (.int 4))) (andV (fnE F.are_unlike_rows (yF (op2 ixD (vr 0) (cst (.int 1))) (yF (op2 ixD (vr 0) (cst (.int 2))) (yF (vr 1) aNil)))) (fnE F.is_ratio (yF (op2 ixD (vr 0) (cst (.int 3))) aNil))))) nxS) (retS (cst (.bl false)))))))))
def F.is_deed : List D → Sto → R D := fnF 3 2 Den.is_deed
def Den.are_deeds : DSt :=
 (seqS (ifS (notT (tv (op1 (isiD .lst) (vr 0)))) (retS (cst (.bl false))) nxS) (retS (fnE allD (yF (compE (itE itL (vr 0)) 1 (setG 2) (fnE F.is_deed (yF (vr 2) (yF (vr 1) aNil)))) aNil))))
def F.are_deeds : List D → Sto → R D := fnF 2 2 Den.are_deeds
def Den.done_once : DSt :=
 (seqS (setS 2 (fnE lofD (yF (vr 0) aNil))) (seqS (setS 3 (op2 ixD (vr 1) (cst (.int 1)))) (seqS (ifS (tv (op2 eqD (op2 ixD (vr 1) (cst (.int 0))) (cst (.str "swap")))) (seqS (asgS (op2 ixD (vr 0) (op2 ixD (vr 1) (cst (.int 2)))) (setXG (vr 2) (vr 3))) (asgS (op2 ixD (vr 0) (vr 3)) (setXG (vr 2) (op2 ixD (vr 1) (cst (.int 2)))))) (ifS (tv (op2 eqD (op2 ixD (vr 1) (cst (.int 0))) (cst (.str "scale")))) (asgS (fnE F.scaled (yF (op2 ixD (vr 0) (vr 3)) (yF (op2 ixD (vr 1) (cst (.int 2))) aNil))) (setXG (vr 2) (vr 3))) (asgS (fnE F.added (yF (op2 ixD (vr 0) (vr 3)) (yF (fnE F.scaled (yF (op2 ixD (vr 0) (op2 ixD (vr 1) (cst (.int 2)))) (yF (op2 ixD (vr 1) (cst (.int 3))) aNil))) aNil))) (setXG (vr 2) (vr 3))))) (retS (vr 2)))))
def F.done_once : List D → Sto → R D := fnF 4 2 Den.done_once
def Den.done : DSt :=
 (seqS (ifS (notT (tv (fnE F.are_deeds (yF (vr 1) (yF (fnE lenD (yF (vr 0) aNil)) aNil))))) nevS nxS) (seqS (setS 2 (compE (itE itL (vr 0)) 1 (setG 4) (fnE lofD (yF (vr 4) aNil)))) (seqS (forS (itE itL (vr 1)) (setG 3) (setS 2 (fnE F.done_once (yF (vr 2) (yF (vr 3) aNil))))) (retS (vr 2)))))
def F.done : List D → Sto → R D := fnF 4 2 Den.done
def Den.k21_great : DSt :=
 (seqS (setS 1 (op2 mulD (op2 powD (cst (.int 10)) (cst (.int 60))) (op2 powD (cst (.int 10)) (cst (.int 24))))) (retS (op2 modD (op2 mulD (op2 addD (op2 modD (vr 0) (op2 powD (cst (.int 10)) (cst (.int 60)))) (cst (.int 41))) (op2 powD (cst (.int 23)) (cst (.int 64)))) (vr 1))))
def F.k21_great : List D → Sto → R D := fnF 2 1 Den.k21_great
def Den.k21_low : DSt :=
 (seqS (setS 2 (fnE absD (yF (vr 0) aNil))) (seqS (setS 3 (vr 1)) (seqS (whileS (tv (op2 gtD (vr 3) (cst (.int 0)))) (parS 2 3 (vr 3) (op2 modD (vr 2) (vr 3)))) (retS (fnE tupD (yF (op2 fdivD (vr 0) (vr 2)) (yF (op2 fdivD (vr 1) (vr 2)) aNil)))))))
def F.k21_low : List D → Sto → R D := fnF 4 2 Den.k21_low
def Den.k21_ratio : DSt :=
 (seqS (asgS (fnE dvmD (yF (vr 0) (yF (cst (.int 8)) aNil))) (tupG [(setG 0), (setG 1)])) (seqS (asgS (fnE dvmD (yF (vr 0) (yF (cst (.int 19)) aNil))) (tupG [(setG 0), (setG 2)])) (seqS (ifS (tv (op2 eqD (vr 1) (cst (.int 7)))) (retS (fnE tupD (yF (op2 fdivD (vr 0) (cst (.int 1000))) (yF (fnE tupD (yF (op2 subD (op2 modD (vr 0) (op2 powD (cst (.int 10)) (cst (.int 20)))) (op2 mulD (cst (.int 5)) (op2 powD (cst (.int 10)) (cst (.int 19))))) (yF (cst (.int 1)) aNil))) aNil)))) nxS) (retS (fnE tupD (yF (vr 0) (yF (fnE F.k21_low (yF (op2 subD (vr 2) (cst (.int 9))) (yF (op2 ixD (fnE lstD (yF (cst (.int 1)) (yF (cst (.int 1)) (yF (cst (.int 1)) (yF (cst (.int 2)) (yF (cst (.int 3)) (yF (cst (.int 4)) (yF (cst (.int 6)) (yF (cst (.int 12)) aNil))))))))) (vr 1)) aNil))) aNil)))))))
def F.k21_ratio : List D → Sto → R D := fnF 3 1 Den.k21_ratio
def Den.k21_row : DSt :=
 (seqS (setS 2 (fnE lstD aNil)) (seqS (forS (itA rng1D (yF (vr 1) aNil)) (setG 3) (seqS (asgS (fnE F.k21_ratio (yF (vr 0) aNil)) (tupG [(setG 0), (setG 4)])) (dropS (opM appD (vr 2) (vr 4))))) (retS (vr 2))))
def F.k21_row : List D → Sto → R D := fnF 5 2 Den.k21_row
def Den.k21_plus : DSt :=
 (retS (fnE F.k21_low (yF (op2 addD (op2 mulD (op2 ixD (vr 0) (cst (.int 0))) (op2 ixD (vr 1) (cst (.int 1)))) (op2 mulD (op2 ixD (vr 1) (cst (.int 0))) (op2 ixD (vr 0) (cst (.int 1))))) (yF (op2 mulD (op2 ixD (vr 0) (cst (.int 1))) (op2 ixD (vr 1) (cst (.int 1)))) aNil))))
def F.k21_plus : List D → Sto → R D := fnF 2 2 Den.k21_plus
def Den.k21_times : DSt :=
 (retS (fnE F.k21_low (yF (op2 mulD (op2 ixD (vr 0) (cst (.int 0))) (op2 ixD (vr 1) (cst (.int 0)))) (yF (op2 mulD (op2 ixD (vr 0) (cst (.int 1))) (op2 ixD (vr 1) (cst (.int 1)))) aNil))))
def F.k21_times : List D → Sto → R D := fnF 2 2 Den.k21_times
def Den.k21_mix : DSt :=
 (seqS (setS 3 (op2 mulD (fnE lstD (yF (fnE tupD (yF (cst (.int 0)) (yF (cst (.int 1)) aNil))) aNil)) (vr 2))) (seqS (forS (itA zip2D (yF (vr 0) (yF (vr 1) aNil))) (tupG [(setG 4), (setG 5)]) (setS 3 (compE (itA zip2D (yF (vr 3) (yF (vr 4) aNil))) 2 (tupG [(setG 6), (setG 7)]) (fnE F.k21_plus (yF (vr 6) (yF (fnE F.k21_times (yF (vr 7) (yF (vr 5) aNil))) aNil)))))) (retS (vr 3))))
def F.k21_mix : List D → Sto → R D := fnF 6 3 Den.k21_mix
def Den.k21_table : DSt :=
 (seqS (setS 3 (fnE lstD aNil)) (seqS (forS (itA rng1D (yF (fnE lenD (yF (vr 0) aNil)) aNil)) (setG 4) (seqS (setS 5 (fnE F.k21_great (yF (op2 ixD (vr 0) (vr 4)) aNil))) (seqS (setS 6 (fnE F.k21_row (yF (op2 fdivD (vr 5) (cst (.int 9))) (yF (vr 1) aNil)))) (seqS (ifS (andT (tv (vr 2)) (andT (tv (op2 gtD (op2 modD (vr 5) (cst (.int 3))) (cst (.int 0)))) (tv (op2 gtD (vr 4) (cst (.int 0)))))) (seqS (setS 7 (fnE F.k21_row (yF (op2 fdivD (vr 5) (cst (.int 9))) (yF (vr 4) aNil)))) (setS 6 (fnE F.k21_mix (yF (vr 3) (yF (vr 7) (yF (vr 1) aNil)))))) nxS) (dropS (opM appD (vr 3) (vr 6))))))) (retS (vr 3))))
def F.k21_table : List D → Sto → R D := fnF 8 3 Den.k21_table
def Den.k21_deed : DSt :=
 (seqS (asgS (fnE dvmD (yF (vr 0) (yF (cst (.int 3)) aNil))) (tupG [(setG 0), (setG 2)])) (seqS (asgS (fnE dvmD (yF (vr 0) (yF (vr 1) aNil))) (tupG [(setG 0), (setG 3)])) (seqS (asgS (fnE dvmD (yF (vr 0) (yF (fnE maxD (yF (cst (.int 1)) (yF (op2 subD (vr 1) (cst (.int 1))) aNil))) aNil))) (tupG [(setG 0), (setG 4)])) (seqS (ifS (tv (op2 geD (vr 4) (vr 3))) (setS 4 (op2 addD (vr 4) (cst (.int 1)))) nxS) (seqS (setS 5 (op2 ixD (fnE F.k21_ratio (yF (vr 0) aNil)) (cst (.int 1)))) (seqS (ifS (tv (op2 eqD (vr 1) (cst (.int 1)))) (setS 2 (cst (.int 1))) nxS) (seqS (ifS (tv (op2 eqD (vr 2) (cst (.int 0)))) (retS (fnE tupD (yF (cst (.str "swap")) (yF (vr 3) (yF (vr 4) aNil))))) nxS) (seqS (ifS (tv (op2 eqD (vr 2) (cst (.int 2)))) (retS (fnE tupD (yF (cst (.str "add")) (yF (vr 3) (yF (vr 4) (yF (vr 5) aNil)))))) nxS) (seqS (ifS (tv (op2 eqD (vr 5) (fnE tupD (yF (cst (.int 0)) (yF (cst (.int 1)) aNil))))) (setS 5 (fnE tupD (yF (op1 negD (cst (.int 1))) (yF (cst (.int 7)) aNil)))) nxS) (retS (fnE tupD (yF (cst (.str "scale")) (yF (vr 3) (yF (vr 5) aNil))))))))))))))
def F.k21_deed : List D → Sto → R D := fnF 6 2 Den.k21_deed
def Den.k21_done : DSt :=
 (seqS (setS 2 (compE (itE itL (vr 0)) 1 (setG 6) (fnE lofD (yF (vr 6) aNil)))) (seqS (forS (itE itL (vr 1)) (setG 3) (seqS (setS 4 (op2 ixD (vr 3) (cst (.int 1)))) (seqS (ifS (tv (op2 eqD (op2 ixD (vr 3) (cst (.int 0))) (cst (.str "swap")))) (seqS (setS 5 (op2 ixD (vr 2) (vr 4))) (seqS (asgS (op2 ixD (vr 2) (op2 ixD (vr 3) (cst (.int 2)))) (setXG (vr 2) (vr 4))) (asgS (vr 5) (setXG (vr 2) (op2 ixD (vr 3) (cst (.int 2))))))) nxS) (seqS (ifS (tv (op2 eqD (op2 ixD (vr 3) (cst (.int 0))) (cst (.str "scale")))) (asgS (compE (itE itL (op2 ixD (vr 2) (vr 4))) 1 (setG 6) (fnE F.k21_times (yF (vr 6) (yF (op2 ixD (vr 3) (cst (.int 2))) aNil)))) (setXG (vr 2) (vr 4))) nxS) (ifS (tv (op2 eqD (op2 ixD (vr 3) (cst (.int 0))) (cst (.str "add")))) (asgS (compE (itA zip2D (yF (op2 ixD (vr 2) (vr 4)) (yF (op2 ixD (vr 2) (op2 ixD (vr 3) (cst (.int 2)))) aNil))) 2 (tupG [(setG 6), (setG 7)]) (fnE F.k21_plus (yF (vr 6) (yF (fnE F.k21_times (yF (vr 7) (yF (op2 ixD (vr 3) (cst (.int 3))) aNil))) aNil)))) (setXG (vr 2) (vr 4))) nxS))))) (retS (vr 2))))
def F.k21_done : List D → Sto → R D := fnF 6 2 Den.k21_done
end
end
section
open Np PySem
noncomputable section
def Den.over : DSt :=
 (retS (fnE F.ratio (yF (op2 mulD (op2 ixD (vr 0) (cst (.int 0))) (op2 ixD (vr 1) (cst (.int 1)))) (yF (op2 mulD (op2 ixD (vr 0) (cst (.int 1))) (op2 ixD (vr 1) (cst (.int 0)))) aNil))))
def F.over : List D → Sto → R D := fnF 2 2 Den.over
end
end
section
open Np PySem
noncomputable section
def Den.row_with_thing : DSt :=
 (seqS (forS (itA rng2D (yF (vr 1) (yF (fnE lenD (yF (vr 0) aNil)) aNil))) (setG 3) (ifS (tv (op2 neD (op2 ixD (op2 ixD (vr 0) (vr 3)) (vr 2)) (cst (.tup [(.int 0), (.int 1)])))) (retS (vr 3)) nxS)) (retS (cst .non)))
def F.row_with_thing : List D → Sto → R D := fnF 4 3 Den.row_with_thing
def Den.clearing_deeds : DSt :=
 (seqS (setS 4 (fnE lstD aNil)) (seqS (ifS (tv (op2 neD (vr 2) (vr 1))) (dropS (opM appD (vr 4) (fnE tupD (yF (cst (.str "swap")) (yF (vr 1) (yF (vr 2) aNil)))))) nxS) (seqS (setS 5 (op2 ixD (op2 ixD (vr 0) (vr 2)) (vr 3))) (seqS (ifS (tv (op2 neD (vr 5) (cst (.tup [(.int 1), (.int 1)])))) (dropS (opM appD (vr 4) (fnE tupD (yF (cst (.str "scale")) (yF (vr 1) (yF (fnE F.over (yF (cst (.tup [(.int 1), (.int 1)])) (yF (vr 5) aNil))) aNil)))))) nxS) (seqS (forS (itA enumD (yF (vr 0) aNil)) (tupG [(setG 6), (setG 7)]) (ifS (andT (tv (op2 neD (vr 6) (vr 1))) (andT (tv (op2 neD (vr 6) (vr 2))) (tv (op2 neD (op2 ixD (vr 7) (vr 3)) (cst (.tup [(.int 0), (.int 1)])))))) (dropS (opM appD (vr 4) (fnE tupD (yF (cst (.str "add")) (yF (vr 6) (yF (vr 1) (yF (fnE F.minus (yF (cst (.tup [(.int 0), (.int 1)])) (yF (op2 ixD (vr 7) (vr 3)) aNil))) aNil))))))) nxS)) (retS (vr 4)))))))
def F.clearing_deeds : List D → Sto → R D := fnF 8 4 Den.clearing_deeds
def Den.reduced : DSt :=
 (seqS (setS 2 (compE (itE itL (vr 0)) 1 (setG 9) (fnE lofD (yF (vr 9) aNil)))) (seqS (setS 3 (fnE lstD aNil)) (seqS (setS 4 (fnE lstD aNil)) (seqS (forS (itA rng1D (yF (vr 1) aNil)) (setG 5) (seqS (setS 6 (fnE lenD (yF (vr 4) aNil))) (seqS (setS 7 (fnE F.row_with_thing (yF (vr 2) (yF (vr 6) (yF (vr 5) aNil))))) (seqS (ifS (tv (op2 isND (vr 7) (cst .non))) cntS nxS) (seqS (setS 8 (fnE F.clearing_deeds (yF (vr 2) (yF (vr 6) (yF (vr 7) (yF (vr 5) aNil)))))) (seqS (setS 2 (fnE F.done (yF (vr 2) (yF (vr 8) aNil)))) (seqS (dropS (opM extD (vr 3) (vr 8))) (dropS (opM appD (vr 4) (vr 5)))))))))) (retS (fnE tupD (yF (vr 3) (yF (vr 2) (yF (vr 4) aNil)))))))))
def F.reduced : List D → Sto → R D := fnF 9 2 Den.reduced
end
end
section
open Np PySem
noncomputable section
end
end
section
open Np PySem
noncomputable section
end
end
section
open Np PySem
noncomputable section
end
end
section
open Np PySem
noncomputable section
end
end
section
open Np PySem
noncomputable section
end
end
section
open Np PySem
noncomputable section
end
end
section
open Np PySem
noncomputable section
end
end
section
open Np PySem
noncomputable section
def Den.less : DSt :=
 (retS (op2 ltD (op2 mulD (op2 ixD (vr 0) (cst (.int 0))) (op2 ixD (vr 1) (cst (.int 1)))) (op2 mulD (op2 ixD (vr 1) (cst (.int 0))) (op2 ixD (vr 0) (cst (.int 1))))))
def F.less : List D → Sto → R D := fnF 2 2 Den.less
def DenX.ratio : DSt :=
 (seqS (ifS (tv (op2 eqD (vr 1) (cst (.int 0)))) (raiseS "NoRatio") nxS) (seqS (noerS (setS 2 (fnE F.greatest_common (yF (fnE absD (yF (vr 0) aNil)) (yF (fnE absD (yF (vr 1) aNil)) aNil))))) (seqS (noerS (ifS (tv (op2 ltD (vr 1) (cst (.int 0)))) (setS 2 (op1 negD (vr 2))) nxS)) (noerS (retS (fnE tupD (yF (op2 fdivD (vr 0) (vr 2)) (yF (op2 fdivD (vr 1) (vr 2)) aNil))))))))
def X.ratio : List D → Sto → R D := fnX 3 2 DenX.ratio
def DenX.over : DSt :=
 (retS (fnE X.ratio (yF (op2 mulD (op2 ixD (vr 0) (cst (.int 0))) (op2 ixD (vr 1) (cst (.int 1)))) (yF (op2 mulD (op2 ixD (vr 0) (cst (.int 1))) (op2 ixD (vr 1) (cst (.int 0)))) aNil))))
def X.over : List D → Sto → R D := fnX 2 2 DenX.over
end
end
section
open Np PySem
noncomputable section
end
end
section
open Np PySem
noncomputable section
end
end
section
open Np PySem
noncomputable section
end
end
section
open Np PySem
noncomputable section
end
end
section
open Np PySem
noncomputable section
def Den.k23_odd_deed : DSt :=
 (seqS (asgS (fnE dvmD (yF (vr 0) (yF (cst (.int 38)) aNil))) (tupG [(setG 0), (setG 2)])) (seqS (setS 3 (op2 modD (vr 0) (vr 1))) (seqS (setS 4 (op2 addD (vr 1) (op2 modD (op2 fdivD (vr 0) (cst (.int 5))) (op2 powD (cst (.int 10)) (cst (.int 30)))))) (seqS (setS 5 (fnE tupD (yF (cst (.int 3)) (yF (cst (.int 7)) aNil)))) (seqS (setS 6 (fnE lstD (yF (fnE tupD (yF (cst (.str "Swap")) (yF (vr 3) (yF (vr 4) aNil)))) (yF (fnE tupD (yF (cst (.str "swap")) (yF (vr 3) (yF (vr 3) aNil)))) (yF (fnE tupD (yF (cst (.str "swap")) (yF (vr 3) (yF (vr 4) aNil)))) (yF (fnE tupD (yF (cst (.str "swap")) (yF (op1 negD (cst (.int 1))) (yF (vr 3) aNil)))) (yF (fnE tupD (yF (cst (.str "swap")) (yF (vr 3) aNil))) (yF (fnE tupD (yF (cst (.str "swap")) (yF (vr 3) (yF (vr 3) (yF (vr 3) aNil))))) aNil)))))))) (seqS (setS 6 (op2 addD (vr 6) (fnE lstD (yF (fnE lstD (yF (cst (.str "scale")) (yF (vr 3) (yF (vr 5) aNil)))) (yF (fnE tupD (yF (cst (.str "scale")) (yF (vr 3) (yF (fnE tupD (yF (cst (.int 0)) (yF (cst (.int 1)) aNil))) aNil)))) (yF (fnE tupD (yF (cst (.str "scale")) (yF (vr 4) (yF (vr 5) aNil)))) (yF (fnE tupD (yF (cst (.str "scale")) (yF (op1 negD (cst (.int 1))) (yF (vr 5) aNil)))) (yF (fnE tupD (yF (cst (.str "scale")) (yF (vr 3) aNil))) aNil)))))))) (seqS (setS 6 (op2 addD (vr 6) (fnE lstD (yF (fnE tupD (yF (cst (.str "scale")) (yF (vr 3) (yF (vr 5) (yF (vr 5) aNil))))) (yF (fnE tupD (yF (cst (.str "scale")) (yF (vr 3) (yF (fnE tupD (yF (cst (.int 2)) (yF (cst (.int 4)) aNil))) aNil)))) (yF (fnE tupD (yF (cst (.str "scale")) (yF (vr 3) (yF (fnE tupD (yF (cst (.int 1)) (yF (op1 negD (cst (.int 2))) aNil))) aNil)))) (yF (fnE tupD (yF (cst (.str "scale")) (yF (vr 3) (yF (fnE tupD (yF (cst (.int 1)) (yF (cst (.int 0)) aNil))) aNil)))) aNil))))))) (seqS (setS 6 (op2 addD (vr 6) (fnE lstD (yF (fnE tupD (yF (cst (.str "scale")) (yF (vr 3) (yF (cst (.int 3)) aNil)))) (yF (fnE tupD (yF (cst (.str "scale")) (yF (vr 3) (yF (fnE lstD (yF (cst (.int 1)) (yF (cst (.int 2)) aNil))) aNil)))) (yF (fnE tupD (yF (cst (.str "scale")) (yF (vr 3) (yF (fnE tupD (yF (cst (.bl true)) (yF (cst (.int 1)) aNil))) aNil)))) (yF (fnE tupD (yF (cst (.str "scale")) (yF (cst .non) (yF (vr 5) aNil)))) aNil))))))) (seqS (setS 6 (op2 addD (vr 6) (fnE lstD (yF (fnE tupD (yF (cst (.str "scale")) (yF (cst (.str "0")) (yF (vr 5) aNil)))) (yF (fnE tupD (yF (cst (.str "scale")) (yF (vr 5) (yF (vr 3) aNil)))) aNil))))) (seqS (setS 6 (op2 addD (vr 6) (fnE lstD (yF (fnE tupD (yF (cst (.str "add")) (yF (vr 3) (yF (vr 3) (yF (vr 5) aNil))))) (yF (fnE tupD (yF (cst (.str "add")) (yF (vr 3) (yF (vr 4) (yF (vr 5) aNil))))) (yF (fnE tupD (yF (cst (.str "add")) (yF (vr 4) (yF (vr 3) (yF (vr 5) aNil))))) (yF (fnE tupD (yF (cst (.str "add")) (yF (vr 3) (yF (op1 negD (cst (.int 1))) (yF (vr 5) aNil))))) (yF (fnE tupD (yF (cst (.str "add")) (yF (vr 3) (yF (vr 3) aNil)))) aNil)))))))) (seqS (setS 6 (op2 addD (vr 6) (fnE lstD (yF (fnE tupD (yF (cst (.str "add")) (yF (vr 3) (yF (vr 4) aNil)))) (yF (fnE tupD (yF (cst (.str "mix")) (yF (vr 3) (yF (vr 5) aNil)))) (yF (fnE tupD aNil) (yF (cst .non) (yF (cst (.str "swap")) (yF (cst (.int 0)) (yF (fnE tupD (yF (cst (.str "")) aNil)) (yF (fnE tupD (yF (cst (.str "scale")) (yF (vr 3) (yF (fnE tupD (yF (cst (.int 1)) (yF (cst (.int 2)) (yF (cst (.int 3)) aNil)))) aNil)))) (yF (fnE tupD (yF (cst (.int 0)) (yF (cst (.int 1)) (yF (vr 5) aNil)))) aNil)))))))))))) (seqS (setS 6 (op2 addD (vr 6) (fnE lstD (yF (fnE tupD (yF (cst (.str "scale")) (yF (vr 3) (yF (cst .non) aNil)))) (yF (fnE tupD (yF (fnE lstD aNil) (yF (cst (.int 0)) (yF (vr 5) aNil)))) (yF (fnE tupD (yF dctN (yF (cst (.int 0)) (yF (vr 5) aNil)))) aNil)))))) (retS (op2 ixD (vr 6) (vr 2)))))))))))))))
def F.k23_odd_deed : List D → Sto → R D := fnF 7 2 Den.k23_odd_deed
def DenX.done : DSt :=
 (seqS (ifS (notT (tv (fnE F.are_deeds (yF (vr 1) (yF (fnE lenD (yF (vr 0) aNil)) aNil))))) (raiseS "NoDeed") nxS) (seqS (noerS (setS 2 (compE (itE itL (vr 0)) 1 (setG 4) (fnE lofD (yF (vr 4) aNil))))) (seqS (noerS (forS (itE itL (vr 1)) (setG 3) (setS 2 (fnE F.done_once (yF (vr 2) (yF (vr 3) aNil)))))) (noerS (retS (vr 2))))))
def X.done : List D → Sto → R D := fnX 4 2 DenX.done
def Den.k23_refused : DSt :=
 (seqS (setS 2 (cst (.int 0))) (seqS (tryE X.done (yF (vr 0) (yF (vr 1) aNil)) 3 ["NoDeed"] (setS 2 (fnE intD (yF (andV (op1 (isxD ["NoDeed", "NoRatio"]) (vr 3)) (op1 (isxD ["NoDeed", "NoRatio"]) (vr 3))) aNil)))) (retS (op2 eqD (vr 2) (cst (.int 1))))))
def F.k23_refused : List D → Sto → R D := fnF 4 2 Den.k23_refused
def Den.k23_law : DSt :=
 (seqS (setS 1 (op2 addD (cst (.int 1)) (op2 modD (fnE F.k11_cell_at (yF (vr 0) (yF (cst (.int 0)) aNil))) (cst (.int 5))))) (seqS (setS 2 (op2 modD (fnE F.k11_cell_at (yF (vr 0) (yF (cst (.int 1)) aNil))) (cst (.int 4)))) (seqS (setS 3 (fnE F.k21_table (yF (compE (itA rng1D (yF (vr 1) aNil)) 1 (setG 12) (fnE F.k11_cell_at (yF (vr 0) (yF (op2 addD (cst (.int 2)) (vr 12)) aNil)))) (yF (vr 2) (yF (cst (.bl false)) aNil))))) (seqS (setS 4 (compE (itE itL (vr 3)) 1 (setG 12) (fnE lofD (yF (vr 12) aNil)))) (seqS (setS 5 (compE (itE itL (slE (vr 0) (atP (cst (.int 2))) (atP (cst (.int 12))))) 1 (setG 12) (fnE F.k21_deed (yF (fnE F.k21_great (yF (vr 12) aNil)) (yF (vr 1) aNil))))) (seqS (setS 6 (fnE F.k21_done (yF (vr 3) (yF (vr 5) aNil)))) (seqS (forS (itE itL (slE (vr 0) (atP (cst (.int 2))) (atP (cst (.int 32))))) (setG 7) (seqS (asgS (fnE dvmD (yF (fnE F.k21_great (yF (vr 7) aNil)) (yF (op2 addD (fnE lenD (yF (vr 5) aNil)) (cst (.int 1))) aNil))) (tupG [(setG 8), (setG 9)])) (seqS (setS 10 (op2 addD (op2 addD (slE (vr 5) noP (atP (vr 9))) (fnE lstD (yF (fnE F.k23_odd_deed (yF (vr 8) (yF (vr 1) aNil))) aNil))) (slE (vr 5) (atP (vr 9)) noP))) (seqS (ifS (tv (op2 eqD (op2 modD (op2 fdivD (vr 8) (cst (.int 38))) (cst (.int 8))) (cst (.int 0)))) (setS 10 (op2 ixD (fnE lstD (yF (fnE tofD (yF (vr 5) aNil)) (yF (cst .non) (yF (cst (.str "swap")) (yF (cst (.int 0)) (yF dctN (yF (cst (.bl true)) (yF (fnE tupD aNil) (yF (fnE lstD (yF (vr 5) aNil)) aNil))))))))) (op2 modD (op2 fdivD (vr 8) (cst (.int 304))) (cst (.int 8))))) nxS) (seqS (ifS (orT (notT (tv (fnE F.k23_refused (yF (vr 3) (yF (vr 10) aNil))))) (tv (op2 neD (vr 3) (vr 4)))) (retS (cst (.bl false))) nxS) (ifS (andT (tv (op2 eqD (op2 modD (vr 8) (cst (.int 3))) (cst (.int 0)))) (tv (op2 neD (fnE F.done (yF (vr 3) (yF (vr 5) aNil))) (vr 6)))) (retS (cst (.bl false))) nxS)))))) (seqS (ifS (orT (notT (tv (fnE F.k23_refused (yF (vr 3) (yF (fnE lstD (yF (fnE tupD (yF (cst (.str "scale")) (yF (cst (.bl true)) (yF (fnE tupD (yF (cst (.int 3)) (yF (cst (.int 7)) aNil))) aNil)))) aNil)) aNil))))) (notT (tv (fnE F.k23_refused (yF (vr 3) (yF (fnE lstD (yF (fnE tupD (yF (cst (.str "add")) (yF (cst (.int 0)) (yF (cst (.bl false)) (yF (fnE tupD (yF (cst (.int 3)) (yF (cst (.int 7)) aNil))) aNil))))) aNil)) aNil)))))) (retS (cst (.bl false))) nxS) (seqS (ifS (orT (notT (tv (fnE F.k23_refused (yF (vr 3) (yF (fnE lstD (yF (fnE tupD (yF (cst (.str "swap")) (yF (cst (.int 0)) (yF (cst (.bl true)) aNil)))) aNil)) aNil))))) (notT (tv (fnE F.k23_refused (yF (vr 3) (yF (fnE lstD (yF (fnE tupD (yF (cst (.str "swap")) (yF (cst (.bl false)) (yF (cst (.int 1)) aNil)))) aNil)) aNil)))))) (retS (cst (.bl false))) nxS) (seqS (forS (itE itL (fnE lstD (yF (fnE tupD (yF (cst (.int 2)) (yF (cst (.int 4)) aNil))) (yF (cst (.int 3)) (yF (cst .non) (yF (fnE tupD (yF (cst (.int 1)) (yF (cst (.int 0)) aNil))) aNil)))))) (setG 11) (ifS (notT (tv (fnE F.k23_refused (yF (vr 3) (yF (fnE lstD (yF (fnE tupD (yF (cst (.str "add")) (yF (cst (.int 0)) (yF (op2 subD (vr 1) (cst (.int 1))) (yF (vr 11) aNil))))) aNil)) aNil))))) (retS (cst (.bl false))) nxS)) (retS (andV (op2 eqD (fnE F.done (yF (fnE lstD aNil) (yF (fnE lstD aNil) aNil))) (fnE lstD aNil)) (andV (fnE F.k23_refused (yF (fnE lstD aNil) (yF (fnE lstD (yF (fnE tupD (yF (cst (.str "scale")) (yF (cst (.int 0)) (yF (fnE tupD (yF (cst (.int 3)) (yF (cst (.int 7)) aNil))) aNil)))) aNil)) aNil))) (op2 eqD (fnE F.done (yF (vr 3) (yF (vr 5) aNil))) (vr 6)))))))))))))))
def F.k23_law : List D → Sto → R D := fnF 12 1 Den.k23_law
end
end
section
namespace Np
open PySem
def ratD (r : Rat) : D := .tup [.int r.num, .int (r.den : Int)]
def asRat : D → Option Rat
 | .tup [.int n, .int d] => if (Rat.divInt n d).num = n ∧ ((Rat.divInt n d).den : Int) = d then some (Rat.divInt n d) else none
 | _ => none
@[simp] theorem asRat_ratD (r : Rat) : asRat (ratD r) = some r := by
 have h : Rat.divInt r.num (r.den : Int) = r := Rat.num_divInt_den r
 simp [asRat, ratD, h]
def Le (n : Nat) (r : Rat) : Prop := r.num.natAbs < 2 ^ n ∧ r.den < 2 ^ n
theorem Le.mono {m n : Nat} {r : Rat} (h : Le m r) (k : m ≤ n) : Le n r := by
 have : 2 ^ m ≤ 2 ^ n := Nat.pow_le_pow_right (by decide) k
 exact ⟨Nat.lt_of_lt_of_le h.1 this, Nat.lt_of_lt_of_le h.2 this⟩
theorem log2_le {n k : Nat} (h : k < 2 ^ n) : k.log2 ≤ n := by
 rcases Nat.eq_zero_or_pos k with z | z
 ·subst z; simp
 ·exact Nat.le_of_lt ((Nat.log2_lt (Nat.ne_of_gt z)).mpr h)
theorem Le.num {n : Nat} {r : Rat} (h : Le n r) : r.num.natAbs.log2 ≤ n := log2_le h.1
theorem Le.den {n : Nat} {r : Rat} (h : Le n r) : ((r.den : Int)).natAbs.log2 ≤ n := by
 rw [Int.natAbs_natCast]; exact log2_le h.2
theorem num_divInt_le (a b : Int) : (Rat.divInt a b).num.natAbs ≤ a.natAbs := by
 rw [Rat.num_divInt]
 by_cases hb : b = 0
 ·subst hb; simp
 ·have e : (b.sign * a / (b.gcd a : Int)).natAbs ≤ (b.sign * a).natAbs := by
   rw [Int.natAbs_ediv_of_dvd]
   ·exact Nat.div_le_self _ _
   ·exact Int.dvd_mul_of_dvd_right (Int.gcd_dvd_right ..)
  refine Nat.le_trans e ?_
  rw [Int.natAbs_mul, Int.natAbs_sign_of_ne_zero hb, Nat.one_mul]
  exact Nat.le_refl _
theorem den_divInt_le {a b : Int} (hb : b ≠ 0) : (Rat.divInt a b).den ≤ b.natAbs := by
 rw [Rat.den_divInt, if_neg hb]
 exact Nat.div_le_self _ _
theorem Le.divInt {n : Nat} {a b : Int} (hb : b ≠ 0) (h1 : a.natAbs < 2 ^ n) (h2 : b.natAbs < 2 ^ n) : Le n (Rat.divInt a b) :=
 ⟨Nat.lt_of_le_of_lt (num_divInt_le a b) h1, Nat.lt_of_le_of_lt (den_divInt_le hb) h2⟩
theorem den_pos' (r : Rat) : (0 : Int) < r.den := by have := r.den_pos; omega
theorem add_divInt (a b : Rat) : a + b = Rat.divInt (a.num * b.den + b.num * a.den) (a.den * b.den) := by
 rw [Rat.add_def', ← Rat.divInt_ofNat]
 norm_cast
theorem mul_divInt (a b : Rat) : a * b = Rat.divInt (a.num * b.num) (a.den * b.den) := by
 rw [Rat.mul_def', ← Rat.divInt_ofNat]
 norm_cast
theorem den2_ne (a b : Rat) : (a.den : Int) * b.den ≠ 0 := Int.mul_ne_zero (by have := den_pos' a; omega) (by have := den_pos' b; omega)
theorem mul_lt_pow {x y m n : Nat} (h1 : x < 2 ^ m) (h2 : y < 2 ^ n) : x * y < 2 ^ (m + n) := by
 rw [Nat.pow_add]
 exact Nat.mul_lt_mul'' h1 h2
theorem Le.add {m n : Nat} {a b : Rat} (ha : Le m a) (hb : Le n b) : Le (m + n + 1) (a + b) := by
 rw [add_divInt]
 refine Le.divInt (den2_ne a b) ?_ ?_
 ·have h1 : (a.num * (b.den : Int)).natAbs < 2 ^ (m + n) := by rw [Int.natAbs_mul, Int.natAbs_natCast]; exact mul_lt_pow ha.1 hb.2
  have h2 : (b.num * (a.den : Int)).natAbs < 2 ^ (m + n) := by rw [Int.natAbs_mul, Int.natAbs_natCast, Nat.add_comm]; exact mul_lt_pow hb.1 ha.2
  have h3 := Int.natAbs_add_le (a.num * (b.den : Int)) (b.num * (a.den : Int))
  rw [Nat.pow_succ]
  omega
 ·rw [Int.natAbs_mul, Int.natAbs_natCast, Int.natAbs_natCast]
  exact Nat.lt_trans (mul_lt_pow ha.2 hb.2) (Nat.pow_lt_pow_right (by decide) (Nat.lt_succ_self _))
theorem Le.mul {m n : Nat} {a b : Rat} (ha : Le m a) (hb : Le n b) : Le (m + n) (a * b) := by
 rw [mul_divInt]
 refine Le.divInt (den2_ne a b) ?_ ?_
 ·rw [Int.natAbs_mul]; exact mul_lt_pow ha.1 hb.1
 ·rw [Int.natAbs_mul, Int.natAbs_natCast, Int.natAbs_natCast]; exact mul_lt_pow ha.2 hb.2
def sm (r : Rat) : Prop := r.num.natAbs.log2 ≤ 40000000 ∧ r.den.log2 ≤ 40000000
theorem Le.sm {n : Nat} {r : Rat} (h : Le n r) (k : n ≤ 40000000) : sm r := ⟨Nat.le_trans (log2_le h.1) k, Nat.le_trans (log2_le h.2) k⟩
end Np
end
section
namespace Np
open PySem
theorem W_fnF {n k : Nat} {g : DSt} {ds : List D} {S : Sto} {Q : D → Sto → Prop} (h : ds.length = k) (q : W (outF (g (startD n ds) S)) Q) : W (fnF n k g ds S) Q := by unfold fnF; rw [if_pos h, W_noer]; exact q
theorem rd_int (n : Nat) (S : Sto) (i : Int) : rd n S (.int i) = some (.int i) := by cases n <;> rfl
theorem rd_bl (n : Nat) (S : Sto) (b : Bool) : rd n S (.bl b) = some (.bl b) := by cases n <;> rfl
theorem eqD_int (i j : Int) (S : Sto) : eqD (.int i) (.int j) S = ok (.bl (decide (i = j))) S := by
 unfold eqD; rw [rd_int, rd_int]; rfl
theorem neD_int (i j : Int) (S : Sto) : neD (.int i) (.int j) S = ok (.bl (!decide (i = j))) S := by
 unfold neD; rw [rd_int, rd_int]; rfl
theorem eqD_bl (i j : Bool) (S : Sto) : eqD (.bl i) (.bl j) S = ok (.bl (i == j)) S := by
 unfold eqD; rw [rd_bl, rd_bl]; rfl
def ratT (q : Rat) : T := .tup [.int q.num, .int q.den]
theorem rd_rat (n : Nat) (S : Sto) (q : Rat) : rd (n + 1) S (ratD q) = some (ratT q) := by
 simp [rd, rdl, ratD, ratT, rd_int]
theorem rat_ext {p q : Rat} (h1 : p.num = q.num) (h2 : (p.den : Int) = q.den) : p = q := Rat.ext h1 (by omega)
theorem eqT_rat (p q : Rat) : eqT (ratT p) (ratT q) = decide (p = q) := by
 simp only [ratT, eqT, eqTs, Bool.and_true]
 by_cases h : p = q
 ·subst h; simp
 ·rw [decide_eq_false h]
  by_cases h1 : p.num = q.num
  ·have h2 : ¬ (p.den : Int) = q.den := fun h2 => h (rat_ext h1 h2)
   simp [h1]
   exact fun h3 => h2 h3
  ·simp [h1]
theorem eqD_rat (p q : Rat) (S : Sto) : eqD (ratD p) (ratD q) S = ok (.bl (decide (p = q))) S := by
 unfold eqD; rw [rd_rat, rd_rat]
 show ok (D.bl (eqT (ratT p) (ratT q))) S = _
 rw [eqT_rat]
theorem neD_rat (p q : Rat) (S : Sto) : neD (ratD p) (ratD q) S = ok (.bl (!decide (p = q))) S := by
 unfold neD; rw [rd_rat, rd_rat]
 show ok (D.bl (!eqT (ratT p) (ratT q))) S = _
 rw [eqT_rat]
theorem rat0 : D.tup [.int 0, .int 1] = ratD 0 := rfl
theorem rat1 : D.tup [.int 1, .int 1] = ratD 1 := rfl
theorem tup2 (x y : D) (S : Sto) : tupD [x, y] S = ok (.tup [x, y]) S := rfl
theorem rdl_map {f : D → Option T} {α : Type} (g : α → D) (h : α → T) (hf : ∀ x, f (g x) = some (h x)) : ∀ xs : List α, rdl f (xs.map g) = some (xs.map h)
 | [] => rfl
 | x :: xs => by simp [rdl, hf, rdl_map g h hf xs]
theorem eqTs_rat : ∀ xs ys : List Rat, eqTs (xs.map ratT) (ys.map ratT) = decide (xs = ys)
 | [], [] => by simp [eqTs]
 | [], _ :: _ => by simp [eqTs]
 | _ :: _, [] => by simp [eqTs]
 | x :: xs, y :: ys => by
  simp only [List.map_cons, eqTs, eqT_rat, eqTs_rat xs ys, List.cons.injEq]
  by_cases h1 : x = y <;> by_cases h2 : xs = ys <;> simp [h1, h2]
abbrev RowA (S : Sto) (a : Nat) (xs : List Rat) : Prop := zH S a = some (xs.map ratD)
theorem rd_row {S : Sto} {a : Nat} {xs : List Rat} (n : Nat) (h : RowA S a xs) : rd (n + 2) S (.ref a) = some (.lst (xs.map ratT)) := by
 show (match zH S a with | some ds => (rdl (rd (n + 1) S) ds).map T.lst | none => none) = _
 rw [h]
 show (rdl (rd (n + 1) S) (xs.map ratD)).map T.lst = _
 rw [rdl_map ratD ratT (rd_rat n S)]
 rfl
theorem addD_int (i j : Int) (S : Sto) : addD (.int i) (.int j) S = ok (.int (i + j)) S := rfl
theorem subD_int (i j : Int) (S : Sto) : subD (.int i) (.int j) S = ok (.int (i - j)) S := rfl
theorem negD_int (i : Int) (S : Sto) : negD (.int i) S = ok (.int (-i)) S := rfl
theorem absD_int (i : Int) (S : Sto) : absD [.int i] S = ok (.int (if i < 0 then -i else i)) S := rfl
theorem ltD_int (i j : Int) (S : Sto) : ltD (.int i) (.int j) S = ok (.bl (decide (i < j))) S := rfl
theorem leD_int (i j : Int) (S : Sto) : leD (.int i) (.int j) S = ok (.bl (decide (i ≤ j))) S := rfl
theorem gtD_int (i j : Int) (S : Sto) : gtD (.int i) (.int j) S = ok (.bl (decide (j < i))) S := rfl
theorem geD_int (i j : Int) (S : Sto) : geD (.int i) (.int j) S = ok (.bl (decide (j ≤ i))) S := rfl
theorem fdivD_int {i j : Int} (h : j ≠ 0) (S : Sto) : fdivD (.int i) (.int j) S = ok (.int (i.fdiv j)) S := by show (if _ then _ else _) = _; rw [if_neg h]
theorem modD_int {i j : Int} (h : j ≠ 0) (S : Sto) : modD (.int i) (.int j) S = ok (.int (i.fmod j)) S := by show (if _ then _ else _) = _; rw [if_neg h]
theorem mulD_int {i j : Int} (h : i.natAbs.log2 + j.natAbs.log2 ≤ 100000000) (S : Sto) : mulD (.int i) (.int j) S = ok (.int (i * j)) S := by
 show (if _ then _ else _) = _
 rw [if_pos h]
theorem atPK_int (i : Int) (S : Sto) : atPK (.int i) S = ok (some i) S := rfl
theorem isND_non (x : D) (S : Sto) : isND x .non S = ok (.bl (isNoneB x)) S := rfl
theorem isNND_non (x : D) (S : Sto) : isNND x .non S = ok (.bl (!isNoneB x)) S := rfl
theorem noneB_non : isNoneB .non = true := rfl
theorem noneB_ref (a : Nat) : isNoneB (.ref a) = false := rfl
theorem noneB_tup (a : List D) : isNoneB (.tup a) = false := rfl
theorem noneB_int (a : Int) : isNoneB (.int a) = false := rfl
theorem noneB_rat (a : Rat) : isNoneB (ratD a) = false := rfl
theorem isi_int_int (i : Int) (S : Sto) : isiD .int (.int i) S = ok (.bl true) S := rfl
theorem isi_bool_int (i : Int) (S : Sto) : isiD .bool (.int i) S = ok (.bl false) S := rfl
theorem isi_bool_bl (i : Bool) (S : Sto) : isiD .bool (.bl i) S = ok (.bl true) S := rfl
theorem isi_tup_rat (p : Rat) (S : Sto) : isiD .tup (ratD p) S = ok (.bl true) S := rfl
theorem isi_tup_tup (p : List D) (S : Sto) : isiD .tup (.tup p) S = ok (.bl true) S := rfl
theorem isi_lst_ref {S : Sto} {a : Nat} {xs : List D} (h : zH S a = some xs) : isiD .lst (.ref a) S = ok (.bl true) S := by
 unfold zH at h
 split at h
 ·rename_i e
  show (match (match S[a]? with | some (.lst _) => some true | some (.dct _) => some false | _ => none) with | some b => ok (D.bl b) S | none => none) = _
  rw [e]
 ·cases h
theorem lenD_ref {S : Sto} {a : Nat} {xs : List D} (h : zH S a = some xs) : lenD [.ref a] S = ok (.int xs.length) S := by
 show lenK (zH S a) S = _
 rw [h]; rfl
theorem lenD_rat (p : Rat) (S : Sto) : lenD [ratD p] S = ok (.int 2) S := rfl
theorem lenD_tup (xs : List D) (S : Sto) : lenD [.tup xs] S = ok (.int xs.length) S := rfl
theorem lenD_scr (xs : List D) (S : Sto) : lenD [.scr xs] S = ok (.int xs.length) S := rfl
theorem ixA_nat {n i : Nat} (h : i < n) : ixA n (i : Int) = some i := by
 unfold ixA
 rw [if_pos (by omega), if_pos (by omega)]
 rfl
theorem ixD_ref {S : Sto} {a i : Nat} {xs : List D} {d : D} (h : zH S a = some xs) (hi : xs[i]? = some d) : ixD (.ref a) (.int i) S = ok d S := by
 have hl : i < xs.length := (List.getElem?_eq_some_iff.mp hi).1
 show ixK (zH S a) i S = _
 rw [h]
 unfold ixK
 simp only [ixA_nat hl, Option.bind_some, hi]
theorem ixD_scr {S : Sto} {i : Nat} {xs : List D} {d : D} (hi : xs[i]? = some d) : ixD (.scr xs) (.int i) S = ok d S := by
 have hl : i < xs.length := (List.getElem?_eq_some_iff.mp hi).1
 show ixK (some xs) i S = _
 unfold ixK
 simp only [ixA_nat hl, Option.bind_some, hi]
theorem ix0 (p : Rat) (S : Sto) : ixD (ratD p) (.int 0) S = ok (.int p.num) S := rfl
theorem ix1 (p : Rat) (S : Sto) : ixD (ratD p) (.int 1) S = ok (.int p.den) S := rfl
theorem itL_ref {S : Sto} {a : Nat} {xs : List D} (h : zH S a = some xs) : itL (.ref a) S = ok (.one a) S := by
 show (match zH S a with | some _ => ok (Src.one a) S | none => none) = _
 rw [h]
theorem itL_scr (xs : List D) (S : Sto) : itL (.scr xs) S = ok (.fix xs) S := rfl
theorem lofD_ref {S : Sto} {a : Nat} {xs : List D} (h : zH S a = some xs) : lofD [.ref a] S = ok (.ref S.length) (S ++ [.lst xs]) := by
 show (match zH S a with | some xs => newO (.lst xs) S | none => none) = _
 rw [h]; rfl
theorem appD_ref {S : Sto} {a : Nat} {xs : List D} (d : D) (h : zH S a = some xs) (hl : xs.length < 1000000) : appD (.ref a) d S = ok .non (S.set a (.lst (xs ++ [d]))) := by
 show (match zH S a with | some xs => _ | none => none) = _
 rw [h]
 show (if _ then _ else _) = _
 rw [if_pos hl]
theorem opMK_ref {S : Sto} {a : Nat} {xs : List D} (h : zH S a = some xs) (f : D → D → Sto → R D) (b : DE) (δ : DS) : opMK f b δ (.ref a) S = bnd (b δ S) (f (.ref a)) := by
 unfold opMK isL
 simp only [h, Option.isSome_some, if_true]
theorem sm.nn {a b : Rat} (ha : sm a) (hb : sm b) : a.num.natAbs.log2 + b.num.natAbs.log2 ≤ 100000000 := by have := ha.1; have := hb.1; omega
theorem sm.nd {a b : Rat} (ha : sm a) (hb : sm b) : a.num.natAbs.log2 + ((b.den : Int)).natAbs.log2 ≤ 100000000 := by have := ha.1; have := hb.2; rw [Int.natAbs_natCast]; omega
theorem sm.dd {a b : Rat} (ha : sm a) (hb : sm b) : ((a.den : Int)).natAbs.log2 + ((b.den : Int)).natAbs.log2 ≤ 100000000 := by have := ha.2; have := hb.2; rw [Int.natAbs_natCast, Int.natAbs_natCast]; omega
end Np
end
local macro_rules
  | `(tactic| simp_all [$xs,*]) => do
    let ys : Lean.Syntax.TSepArray [`Lean.Parser.Tactic.simpStar, `Lean.Parser.Tactic.simpErase, `Lean.Parser.Tactic.simpLemma] "," := ⟨xs.elemsAndSeps⟩
    `(tactic| simp only [Np.ifK_t, Np.ifK_f, Np.ifEK_t, Np.ifEK_f, Np.andTK_t, Np.andTK_f, Np.orTK_t, Np.orTK_f, Np.andVB_t, Np.andVB_f, Np.orVB_t, Np.orVB_f, Np.chnB_t, Np.chnB_f, Np.W_bnd, Np.W_ok, Np.W_outF, Np.outQ, Np.seqS, Np.asgS, Np.asgK, Np.setS, Np.setG, Np.retS, Np.retK, Np.ifS, Np.dropS, Np.dropK, Np.nxS, Np.seqK_nx, Np.seqK_rt, Np.vr, Np.cst, Np.op1, Np.op2, Np.op2K, Np.opM, Np.opM3, Np.op3, Np.op3J, Np.op3K, Np.op3K2, Np.fnE, Np.fnD, Np.yF, Np.aConsK, Np.consK, Np.aNil, Np.tv, Np.truV_bl,
  Np.andT, Np.orT, Np.notT, Np.notK, Np.andV, Np.andVK, Np.orV, Np.orVK, Np.notV, Np.notVK, Np.notVB, Np.ifE, Np.chn, Np.chnK, Np.chnK2, Np.chnT, Np.parS, Np.parK, Np.parK2, Np.tupGs, Np.bnd_ok, Np.itE, Np.itA, Np.forS, Np.cntS, Np.brkS,
  Np.startD, List.map_cons, List.map_nil, List.length_cons, List.length_nil, List.replicate, List.cons_append, List.nil_append, List.getElem?_cons_zero, List.getElem?_cons_succ, List.set_cons_zero, List.set_cons_succ, Nat.reduceAdd, Nat.reduceSub, Nat.zero_add,
  Np.addD_int, Np.subD_int, Np.negD_int, Np.absD_int, Np.ltD_int, Np.leD_int, Np.gtD_int, Np.geD_int, Np.isi_int_int, Np.isi_bool_int, Np.isi_bool_bl, Np.isi_tup_rat, Np.isi_tup_tup, Np.isND_non, Np.isNND_non, Np.noneB_non, Np.noneB_ref, Np.noneB_tup, Np.noneB_int, Np.noneB_rat, Np.eqD_int, Np.neD_int, Np.eqD_bl, Np.eqD_rat, Np.neD_rat, Np.tup2, Np.rat0, Np.rat1, Np.slE, Np.slK, Np.slK1, Np.slK2, Np.noP, Np.atP, Np.atPK_int,
  Np.lenD_rat, Np.lenD_tup, Np.lenD_scr, Np.ix0, Np.ix1, Np.itL_scr,
  decide_true, decide_false, Bool.not_true, Bool.not_false, Bool.not_not, decide_eq_true_eq, Bool.not_eq_true', decide_eq_false_iff_not, Bool.false_eq_true, if_true, if_false, Bool.not_eq_eq_eq_not, reduceIte, reduceCtorEq, ne_eq, not_true_eq_false, not_false_eq_true, and_self, $ys,*])
section
namespace Nm
open Np PySem
theorem gcd_step {a b : Int} (hb : 0 < b) (ha : 0 ≤ a) : 0 ≤ a.fmod b ∧ a.fmod b < b ∧ Int.gcd b (a.fmod b) = Int.gcd a b := by
 rw [Int.fmod_eq_emod_of_nonneg a (by omega)]
 refine ⟨Int.emod_nonneg _ (by omega), Int.emod_lt_of_pos _ hb, ?_⟩
 obtain ⟨x, rfl⟩ := Int.eq_ofNat_of_zero_le ha
 obtain ⟨y, rfl⟩ := Int.eq_ofNat_of_zero_le (Int.le_of_lt hb)
 rw [← Int.natCast_emod, Int.gcd_natCast_natCast, Int.gcd_natCast_natCast, Nat.gcd_comm y, ← Nat.gcd_rec, Nat.gcd_comm]
theorem W_eq {α : Type} {m : R α} {a : α} {S : Sto} (h : W m fun b S' => b = a ∧ S' = S) : m = ok a S := by
 obtain ⟨b, S', e, rfl, rfl⟩ := h.out
 exact e
theorem greatest_common_eq {a b : Int} (ha : 0 ≤ a) (hb : 0 ≤ b) (S : Sto) : F.greatest_common [.int a, .int b] S = ok (.int (Int.gcd a b)) S := by
 refine W_eq ?_
 (unfold F.greatest_common; refine Np.W_fnF rfl ?_; unfold Den.greatest_common; simp_all [])
 refine W_whileS (fun δ S' => S' = S ∧ ∃ x y o, δ = [some (.int a), some (.int b), some (.int x), some (.int y), o] ∧ 0 ≤ x ∧ 0 ≤ y ∧ Int.gcd x y = Int.gcd a b) (fun δ _ => match δ with | [_, _, _, some (.int y), _] => y.natAbs | _ => 0) ⟨rfl, a, b, none, rfl, ha, hb, rfl⟩ ?_
 rintro δ S' ⟨rfl, x, y, o, rfl, hx, hy, hg⟩
 simp_all []
 by_cases h0 : y = 0
 ·subst h0
  simp_all []
  rw [← hg]
  simp
  omega
 ·rw [if_pos h0]
  obtain ⟨h1, h2, h3⟩ := gcd_step (a := x) (b := y) (by omega) hx
  simp_all [modD_int h0]
  simp only [loopQ]
  refine ⟨⟨trivial, y, x.fmod y, _, rfl, hy, h1, by rw [h3, hg]⟩, by omega⟩
theorem gcd_abs (a b : Int) : Int.gcd (if a < 0 then -a else a) (if b < 0 then -b else b) = Int.gcd b a := by
 rw [Int.gcd_comm b a]
 unfold Int.gcd
 congr 1 <;> split <;> simp
theorem fdiv_exact {a b : Int} (h : b ∣ a) (hb : b ≠ 0) : a.fdiv b = a / b := by
 obtain ⟨c, rfl⟩ := h
 rw [Int.mul_fdiv_cancel_left _ hb, Int.mul_ediv_cancel_left _ hb]
theorem ratio_parts {a b : Int} (hb : b ≠ 0) : ∀ c : Int, c = (if b < 0 then -((Int.gcd b a : Nat) : Int) else ((Int.gcd b a : Nat) : Int)) → c ≠ 0 ∧ a.fdiv c = (Rat.divInt a b).num ∧ b.fdiv c = ((Rat.divInt a b).den : Int) := by
 intro c hc
 have g0 : Int.gcd b a ≠ 0 := fun z => hb (Int.eq_zero_of_gcd_eq_zero_left z)
 have g1 : ((Int.gcd b a : Nat) : Int) ∣ a := Int.gcd_dvd_right ..
 have g2 : ((Int.gcd b a : Nat) : Int) ∣ b := Int.gcd_dvd_left ..
 have g3 : ((Int.gcd b a : Nat) : Int) ≠ 0 := by omega
 rw [Rat.num_divInt, Rat.den_divInt, if_neg hb]
 split at hc
 ·rename_i hn
  subst hc
  refine ⟨by omega, ?_, ?_⟩
  ·rw [fdiv_exact (Int.neg_dvd.mpr g1) (by omega), Int.ediv_neg, Int.sign_eq_neg_one_of_neg hn, Int.neg_one_mul, Int.neg_ediv_of_dvd g1]
  ·rw [fdiv_exact (Int.neg_dvd.mpr g2) (by omega), Int.ediv_neg, Int.natCast_ediv, Int.ofNat_natAbs_of_nonpos (by omega), Int.neg_ediv_of_dvd g2]
 ·rename_i hn
  subst hc
  refine ⟨g3, ?_, ?_⟩
  ·rw [fdiv_exact g1 g3, Int.sign_eq_one_of_pos (by omega), Int.one_mul]
  ·rw [fdiv_exact g2 g3, Int.natCast_ediv, Int.natAbs_of_nonneg (by omega)]
theorem abs_nonneg (a : Int) : 0 ≤ (if a < 0 then -a else a) := by split <;> omega
theorem ratio_eq {a b : Int} (hb : b ≠ 0) (S : Sto) : F.ratio [.int a, .int b] S = ok (ratD (Rat.divInt a b)) S := by
 refine W_eq ?_
 (unfold F.ratio; refine Np.W_fnF rfl ?_; unfold Den.ratio; simp_all [])
 simp_all [hb, greatest_common_eq (abs_nonneg _) (abs_nonneg _), gcd_abs]
 by_cases hn : b < 0
 ·obtain ⟨c0, c1, c2⟩ := ratio_parts (a := a) hb (-((Int.gcd b a : Nat) : Int)) (by rw [if_pos hn])
  simp_all [hn, fdivD_int c0]
  simp only [c1, c2, ratD, and_self]
 ·obtain ⟨c0, c1, c2⟩ := ratio_parts (a := a) hb (((Int.gcd b a : Nat) : Int)) (by rw [if_neg hn])
  simp_all [hn, fdivD_int c0]
  simp only [c1, c2, ratD, and_self]
theorem plus_eq {p q : Rat} (hp : sm p) (hq : sm q) (S : Sto) : F.plus [ratD p, ratD q] S = ok (ratD (p + q)) S := by
 refine W_eq ?_
 (unfold F.plus; refine Np.W_fnF rfl ?_; unfold Den.plus; simp_all [])
 simp_all [mulD_int (hp.nd hq), mulD_int (hq.nd hp), mulD_int (hp.dd hq), ratio_eq (den2_ne p q), ← add_divInt]
theorem times_eq {p q : Rat} (hp : sm p) (hq : sm q) (S : Sto) : F.times [ratD p, ratD q] S = ok (ratD (p * q)) S := by
 refine W_eq ?_
 (unfold F.times; refine Np.W_fnF rfl ?_; unfold Den.times; simp_all [])
 simp_all [mulD_int (hp.nn hq), mulD_int (hp.dd hq), ratio_eq (den2_ne p q), ← mul_divInt]
end Nm
end
section
namespace Nm
open Np PySem
def Has (src : Src) (S : Sto) (xs : List D) : Prop := xs.length ≤ src.len S ∧ ∀ i, src.get S i = some xs[i]?
theorem Has.fix (xs : List D) (S : Sto) : Has (.fix xs) S xs := ⟨Nat.le_refl _, fun _ => rfl⟩
theorem get_one {a : Nat} {S : Sto} {xs : List D} (h : zH S a = some xs) (i : Nat) : (Src.one a).get S i = some xs[i]? := by
 show (match zH S a with | some xs => some xs[i]? | none => none) = _
 rw [h]
theorem len_one {a : Nat} {S : Sto} {xs : List D} (h : zH S a = some xs) : (Src.one a).len S = xs.length := by
 show (match zH S a with | some xs => xs.length | none => 0) = _
 rw [h]
theorem Has.one {a : Nat} {S : Sto} {xs : List D} (h : zH S a = some xs) : Has (.one a) S xs := ⟨by rw [len_one h]; exact Nat.le_refl _, get_one h⟩
def pairs (xs ys : List D) : List D := List.zipWith (fun x y => .tup [x, y]) xs ys
theorem get_two {a b : Nat} {S : Sto} {xs ys : List D} (h : zH S a = some xs) (k : zH S b = some ys) (i : Nat) : (Src.two a b).get S i = some (pairs xs ys)[i]? := by
 show (match zH S a, zH S b with | some xs, some ys => some (two1 xs[i]? ys[i]?) | _, _ => none) = _
 rw [h, k]
 show some (two1 xs[i]? ys[i]?) = _
 unfold pairs
 rw [List.getElem?_zipWith]
 cases xs[i]? <;> cases ys[i]? <;> rfl
theorem len_two {a b : Nat} {S : Sto} {xs : List D} (h : zH S a = some xs) : (Src.two a b).len S = xs.length := by
 show (match zH S a with | some xs => xs.length | none => 0) = _
 rw [h]
theorem Has.two {a b : Nat} {S : Sto} {xs ys : List D} (h : zH S a = some xs) (k : zH S b = some ys) : Has (.two a b) S (pairs xs ys) := ⟨by
 rw [len_two h]; unfold pairs; rw [List.length_zipWith]; omega, get_two h k⟩
theorem zip2D_ref {a b : Nat} {S : Sto} {xs ys : List D} (h : zH S a = some xs) (k : zH S b = some ys) : zip2D [.ref a, .ref b] S = ok (.two a b) S := by
 show (match zH S a, zH S b with | some _, some _ => ok (Src.two a b) S | _, _ => none) = _
 rw [h, k]
theorem rng1D_nat {n : Nat} (h : n < 1000000) (S : Sto) : rng1D [.int n] S = ok (.fix (intsD 0 n)) S := by
 have hlim := lim_eq
 simp only [rng1D]
 rw [if_pos (by omega)]
 rfl
theorem intsD_map : ∀ (n : Nat) (lo : Nat), intsD lo n = (List.range' lo n).map fun i => D.int (i : Nat)
 | 0, _ => rfl
 | n + 1, lo => by
  have := intsD_map n (lo + 1)
  simp only [List.range'_succ, List.map_cons, intsD]
  rw [← this]
  rfl
theorem intsD_zero (n : Nat) : intsD 0 n = (List.range n).map fun i => D.int (i : Nat) := by
 have := intsD_map n 0
 rw [List.range_eq_range']
 exact this
theorem comp_pure {it : DI} {g : DG} {e : DE} {base : DS} {k : Nat} {S : Sto} {src : Src} (vals : D → List (Option D)) {xs : List D} {f : D → D} {P : D → Prop} (hg : Tg g k vals base P) (hit : it base S = ok src S) (hs : Has src S xs) (hl : src.len S ≤ 1000000) (hP : ∀ x ∈ xs, P x)
  (step : ∀ x ∈ xs, e (base ++ vals x) S = ok (f x) S) : compE it k g e base S = ok (.ref S.length) (S ++ [.lst (xs.map f)]) := by
 refine W_eq ?_
 refine W_compE vals xs (fun i acc S' => S' = S ∧ acc = (xs.take i).map f) P hP hg ?_ ?_ ?_
 ·rw [hit, W_ok]
  exact ⟨hs.1, hl, ⟨rfl, rfl⟩, fun i acc S' ⟨h, _⟩ => by rw [h]; exact hs.2 i⟩
 ·rintro i x acc S' hx ha ⟨rfl, he⟩
  rw [step x (List.mem_of_getElem? hx), W_ok]
  refine ⟨rfl, ?_⟩
  rw [he, List.take_add_one, hx]
  simp
 ·rintro acc S' ⟨rfl, he⟩ _
  rw [he, List.take_length]
  exact ⟨rfl, rfl⟩
theorem W_compX {it : DI} {g : DG} {e : DE} {base : DS} {k : Nat} {S : Sto} {Q : D → Sto → Prop} (vals : D → List (Option D)) (xs : List D) (Rl : D → D → Prop) (P : D → Prop) (hg : Tg g k vals base P) (hP : ∀ x ∈ xs, P x)
  (hit : W (it base S) fun src S' => xs.length ≤ src.len S' ∧ src.len S' ≤ 1000000 ∧ SLe S S' ∧ ∀ i S'', SLe S' S'' → src.get S'' i = some xs[i]?)
  (step : ∀ x S', x ∈ xs → SLe S S' → W (e (base ++ vals x) S') fun d S'' => Rl x d ∧ SLe S' S'')
  (fin : ∀ ds S', SLe S S' → ds.length = xs.length → (∀ (i : Nat) x d, xs[i]? = some x → ds[i]? = some d → Rl x d) → Q (.ref S'.length) (S' ++ [.lst ds])) : W (compE it k g e base S) Q := by
 obtain ⟨src, S0, e0, h1, h2, h3, h4⟩ := hit.out
 refine W_compE vals xs (fun i acc S' => SLe S0 S' ∧ acc.length = i ∧ ∀ (j : Nat) x d, xs[j]? = some x → acc[j]? = some d → Rl x d) P hP hg ?_ ?_ ?_
 ·rw [e0, W_ok]
  exact ⟨h1, h2, ⟨SLe.rfl, rfl, fun j x d _ h => by simp at h⟩, fun i acc S'' h => h4 i S'' h.1⟩
 ·intro i x acc S' hx ha ⟨hS, _, he⟩
  refine (step x S' (List.mem_of_getElem? hx) (h3.trans hS)).mono fun d S'' ⟨h1, h2⟩ => ⟨hS.trans h2, by simp [ha], fun j y d' hy hd => ?_⟩
  by_cases hj : j < acc.length
  ·rw [List.getElem?_append_left hj] at hd
   exact he j y d' hy hd
  ·rw [List.getElem?_append_right (by omega)] at hd
   have : j = i := by
    have := (List.getElem?_eq_some_iff.mp hd).1
    simp at this
    omega
   subst this
   rw [hx] at hy
   cases hy
   rw [← ha] at hd
   simp at hd
   rw [← hd]
   exact h1
 ·intro acc S' ⟨hS, hl, he⟩ hl'
  exact fin acc S' (h3.trans hS) hl' he
theorem mem_pairs {xs ys : List D} {z : D} (h : z ∈ pairs xs ys) : ∃ p q, z = .tup [p, q] := by
 unfold pairs at h
 obtain ⟨i, hi, rfl⟩ := List.getElem_of_mem h
 rw [List.getElem_zipWith]
 exact ⟨_, _, rfl⟩
theorem pairs_map (f : D → D) (g : Rat → Rat → Rat) (hf : ∀ p q : Rat, f (.tup [ratD p, ratD q]) = ratD (g p q)) : ∀ xs ys : List Rat, (pairs (xs.map ratD) (ys.map ratD)).map f = (List.zipWith g xs ys).map ratD
 | [], _ => rfl
 | _ :: _, [] => rfl
 | x :: xs, y :: ys => by
  have := pairs_map f g hf xs ys
  unfold pairs at this ⊢
  simp [hf, this]
noncomputable def pr (g : Rat → Rat → Rat) (d : D) : D := match d with
 | .tup [p, q] => match asRat p, asRat q with
  | some a, some b => ratD (g a b)
  | _, _ => .non
 | _ => .non
theorem pr_eq (g : Rat → Rat → Rat) (p q : Rat) : pr g (.tup [ratD p, ratD q]) = ratD (g p q) := by
 show (match asRat (ratD p), asRat (ratD q) with | some a, some b => ratD (g a b) | _, _ => .non) = _
 rw [asRat_ratD, asRat_ratD]
theorem zip_step {f : List D → Sto → R D} {g : Rat → Rat → Rat} {S : Sto} {xs ys : List Rat} (hf : ∀ p ∈ xs, ∀ q ∈ ys, f [ratD p, ratD q] S = ok (ratD (g p q)) S) : ∀ z ∈ pairs (xs.map ratD) (ys.map ratD), ∃ p ∈ xs, ∃ q ∈ ys, z = .tup [ratD p, ratD q] ∧ f [ratD p, ratD q] S = ok (pr g z) S := by
 intro z hz
 unfold pairs at hz
 obtain ⟨i, hi, rfl⟩ := List.getElem_of_mem hz
 rw [List.getElem_zipWith, List.getElem_map, List.getElem_map]
 rw [List.length_zipWith, List.length_map, List.length_map] at hi
 exact ⟨_, List.getElem_mem _, _, List.getElem_mem _, rfl, by rw [pr_eq]; exact hf _ (List.getElem_mem _) _ (List.getElem_mem _)⟩
theorem comp_zip {f : List D → Sto → R D} {g : Rat → Rat → Rat} {S : Sto} {a b : Nat} {xs ys : List Rat} (ha : RowA S a xs) (hb : RowA S b ys) (hl : xs.length ≤ 1000000) (hf : ∀ p ∈ xs, ∀ q ∈ ys, f [ratD p, ratD q] S = ok (ratD (g p q)) S) :
  compE (itA zip2D (yF (vr 0) (yF (vr 1) aNil))) 2 (tupG [(setG 2), (setG 3)]) (fnE f (yF (vr 2) (yF (vr 3) aNil))) [some (.ref a), some (.ref b)] S = ok (.ref S.length) (S ++ [.lst ((List.zipWith g xs ys).map ratD)]) := by
 have := comp_pure (it := itA zip2D (yF (vr 0) (yF (vr 1) aNil))) (e := fnE f (yF (vr 2) (yF (vr 3) aNil))) (f := pr g) _ (tg_two [some (.ref a), some (.ref b)]) (src := .two a b) (S := S) (by
   simp only [itA, yF, aConsK, aNil, consK, vr, List.getElem?_cons_zero, List.getElem?_cons_succ, bnd_ok]
   exact zip2D_ref ha hb) (Has.two ha hb) (by rw [len_two ha, List.length_map]; exact hl) (fun x hx => mem_pairs hx) (fun z hz => by
   obtain ⟨p, _, q, _, rfl, h⟩ := zip_step hf z hz
   exact h)
 rw [pairs_map (pr g) g (pr_eq g)] at this
 exact this
theorem added_eq {S : Sto} {a b : Nat} {xs ys : List Rat} (ha : RowA S a xs) (hb : RowA S b ys) (hl : xs.length ≤ 1000000) (sx : ∀ x ∈ xs, sm x) (sy : ∀ y ∈ ys, sm y) : F.added [.ref a, .ref b] S = ok (.ref S.length) (S ++ [.lst ((List.zipWith (· + ·) xs ys).map ratD)]) := by
 refine W_eq ?_
 (unfold F.added; refine Np.W_fnF rfl ?_; unfold Den.added; simp_all [])
 rw [comp_zip ha hb hl fun p hp q hq => plus_eq (sx p hp) (sy q hq) S]
 simp_all []
noncomputable def on1 (g : Rat → D) (d : D) : D := match asRat d with
 | some a => g a
 | none => .non
theorem on1_eq (g : Rat → D) (p : Rat) : on1 g (ratD p) = g p := by unfold on1; rw [asRat_ratD]
theorem map_on1 (g : Rat → D) (xs : List Rat) : (xs.map ratD).map (on1 g) = xs.map g := by
 rw [List.map_map]
 exact List.map_congr_left fun x _ => on1_eq g x
theorem comp_row {e : DE} {base : DS} {S : Sto} {a : Nat} {xs : List Rat} {g : Rat → D} {it : DI} (hit : it base S = ok (.one a) S) (ha : RowA S a xs) (hl : xs.length ≤ 1000000) (he : ∀ x ∈ xs, e (base ++ [some (ratD x)]) S = ok (g x) S) :
  compE it 1 (setG base.length) e base S = ok (.ref S.length) (S ++ [.lst (xs.map g)]) := by
 rw [comp_pure _ (tg_one base) hit (Has.one ha) (by rw [len_one ha, List.length_map]; exact hl) (fun _ _ => trivial) (f := on1 g) fun x hx => by
  obtain ⟨q, hq, rfl⟩ := List.mem_map.mp hx
  rw [on1_eq]
  exact he q hq]
 rw [map_on1]
theorem scaled_eq {S : Sto} {a : Nat} {xs : List Rat} {q : Rat} (ha : RowA S a xs) (hl : xs.length ≤ 1000000) (sx : ∀ x ∈ xs, sm x) (sq : sm q) : F.scaled [.ref a, ratD q] S = ok (.ref S.length) (S ++ [.lst ((xs.map (· * q)).map ratD)]) := by
 refine W_eq ?_
 (unfold F.scaled; refine Np.W_fnF rfl ?_; unfold Den.scaled; simp_all [])
 have := comp_row (it := itE itL (vr 0)) (e := fnE F.times (yF (vr 2) (yF (vr 1) aNil))) (base := [some (.ref a), some (ratD q)]) (g := fun x => ratD (x * q)) (by
  simp only [itE, vr, List.getElem?_cons_zero, bnd_ok]
  exact itL_ref ha) ha hl fun x hx => times_eq (sx x hx) sq S
 rw [show ([some (D.ref a), some (ratD q)] : DS).length = 2 from rfl] at this
 rw [this]
 simp_all []
 rw [List.map_map]
 exact ⟨trivial, rfl⟩
theorem allB_map {α : Type} (p : α → Bool) : ∀ xs : List α, allB (xs.map fun x => D.bl (p x)) = some (xs.all p)
 | [] => rfl
 | x :: xs => by
  rw [List.map_cons, List.all_cons]
  show (match allB (xs.map fun x => D.bl (p x)) with | some c => some (p x && c) | none => none) = _
  rw [allB_map p xs]
theorem allD_ref {S : Sto} {a : Nat} {xs : List D} {b : Bool} (h : zH S a = some xs) (hb : allB xs = some b) : allD [.ref a] S = ok (.bl b) S := by
 show (match zH S a with | some xs => (match allB xs with | some b => ok (D.bl b) S | none => none) | none => none) = _
 rw [h]
 show (match allB xs with | some b => ok (D.bl b) S | none => none) = _
 rw [hb]
end Nm
end
section
namespace Nm
open Np PySem
theorem powD_ok {a j : Int} (h : (0 ≤ j ∧ j ≤ 1000) ∧ a.natAbs < 1000000) (S : Sto) : powD (.int a) (.int j) S = ok (.int (a ^ j.toNat)) S := by
 simp only [powD]
 rw [if_pos h]
theorem p10_60 (S : Sto) : powD (.int 10) (.int 60) S = ok (.int (10 ^ 60)) S := powD_ok (by decide) S
theorem p10_20 (S : Sto) : powD (.int 10) (.int 20) S = ok (.int (10 ^ 20)) S := powD_ok (by decide) S
theorem whole_int (i : Int) (S : Sto) : F.k02_whole [.int i] S = ok (.bl true) S := by
 refine W_eq ?_
 (unfold F.k02_whole; refine Np.W_fnF rfl ?_; unfold Den.k02_whole; simp_all [])
theorem gcd_abs1 (a b : Int) : Int.gcd (if a < 0 then -a else a) b = Int.gcd a b := by
 split
 ·unfold Int.gcd; rw [Int.natAbs_neg]
 ·rfl
theorem gcd_num_den (r : Rat) : Int.gcd r.num (r.den : Int) = 1 := r.reduced
theorem cell_at_scr (ns : List Int) (k : Nat) (S : Sto) : ∃ c : Int, (c = 0 ∨ c ∈ ns) ∧ F.k11_cell_at [.scr (ns.map D.int), .int k] S = ok (.int c) S := by
 by_cases h : k < ns.length
 ·refine ⟨ns[k], .inr (List.getElem_mem _), W_eq ?_⟩
  (unfold F.k11_cell_at; refine Np.W_fnF rfl ?_; unfold Den.k11_cell_at; simp_all [])
  have h1 : (k : Int) < ((ns.map D.int).length : Int) := by rw [List.length_map]; omega
  have h2 : (ns.map D.int)[k]? = some (.int ns[k]) := by simp [h]
  simp_all [h1, ixD_scr h2]
 ·refine ⟨0, .inl rfl, W_eq ?_⟩
  (unfold F.k11_cell_at; refine Np.W_fnF rfl ?_; unfold Den.k11_cell_at; simp_all [])
  have h1 : ¬ (k : Int) < ((ns.map D.int).length : Int) := by rw [List.length_map]; omega
  simp_all [h1]
theorem eight (i : Int) (h0 : 0 ≤ i) (h8 : i < 8) {S : Sto} {a : Nat} (h : zH S a = some [.int 1, .int 1, .int 1, .int 2, .int 3, .int 4, .int 6, .int 12]) : ∃ c : Int, 1 ≤ c ∧ c ≤ 12 ∧ ixD (.ref a) (.int i) S = ok (.int c) S := by
 have : i = 0 ∨ i = 1 ∨ i = 2 ∨ i = 3 ∨ i = 4 ∨ i = 5 ∨ i = 6 ∨ i = 7 := by omega
 rcases this with rfl | rfl | rfl | rfl | rfl | rfl | rfl | rfl
 ·exact ⟨1, by decide, by decide, ixD_ref (i := 0) h rfl⟩
 ·exact ⟨1, by decide, by decide, ixD_ref (i := 1) h rfl⟩
 ·exact ⟨1, by decide, by decide, ixD_ref (i := 2) h rfl⟩
 ·exact ⟨2, by decide, by decide, ixD_ref (i := 3) h rfl⟩
 ·exact ⟨3, by decide, by decide, ixD_ref (i := 4) h rfl⟩
 ·exact ⟨4, by decide, by decide, ixD_ref (i := 5) h rfl⟩
 ·exact ⟨6, by decide, by decide, ixD_ref (i := 6) h rfl⟩
 ·exact ⟨12, by decide, by decide, ixD_ref (i := 7) h rfl⟩
theorem lstD_eq {ds : List D} (h : ds.length ≤ 1000) (S : Sto) : lstD ds S = ok (.ref S.length) (S ++ [.lst ds]) := by
 unfold lstD; rw [if_pos h]; rfl
theorem Le.divInt' {n : Nat} {a b : Int} (hb : 0 < b) (h1 : a.natAbs < 2 ^ n) (h2 : b.natAbs < 2 ^ n) : Le n (Rat.divInt a b) := Le.divInt (by omega) h1 h2
theorem fmod_bd (a : Int) {b : Int} (hb : 0 < b) : 0 ≤ a.fmod b ∧ a.fmod b < b := by
 rw [Int.fmod_eq_emod_of_nonneg a (by omega)]
 exact ⟨Int.emod_nonneg _ (by omega), Int.emod_lt_of_pos _ hb⟩
end Nm
end
section
namespace Nm
open Np PySem
def Scr (ns : List Int) : Prop := ns.length ≤ 63 ∧ ∀ z ∈ ns, z.natAbs.log2 < 1048577
theorem W_new {m : R D} {S : Sto} {xs : List D} {Q : D → Sto → Prop} (h : m = ok (.ref S.length) (S ++ [.lst xs])) (k : ∀ S' b, SLe S S' → S.length ≤ b → zH S' b = some xs → Q (.ref b) S') : W m Q :=
 W.intro h (k _ _ (SLe.app _) (Nat.le_refl _) (lstAt_push S xs))
theorem W_app {S : Sto} {b : Nat} {xs : List D} {d : D} {Q : D → Sto → Prop} (h : zH S b = some xs) (hl : xs.length < 1000000) (k : ∀ S', S'.length = S.length → (∀ S0, SLe S0 S → S0.length ≤ b → SLe S0 S') → (∀ c, c ≠ b → zH S' c = zH S c) → zH S' b = some (xs ++ [d]) → Q .non S') : W (appD (.ref b) d S) Q := by
 refine W.intro (appD_ref d h hl) (k _ (by simp) (fun S0 l hb => l.set hb _) (fun c hc => lstAt_set_ne (Ne.symm hc)) (lstAt_set h))
theorem slD_scr (xs : List D) (lo hi : Option Int) (S : Sto) : slD (.scr xs) lo hi S = ok (.ref S.length) (S ++ [.lst (cutD xs lo hi)]) := rfl
theorem slD_ref {S : Sto} {a : Nat} {xs : List D} (h : zH S a = some xs) (lo hi : Option Int) : slD (.ref a) lo hi S = ok (.ref S.length) (S ++ [.lst (cutD xs lo hi)]) := by
 show (match zH S a with | some xs => newO (.lst (cutD xs lo hi)) S | none => none) = _
 rw [h]; rfl
theorem RowA.mapf {S : Sto} {a : Nat} {xs : List Rat} {f : Rat → Rat} (h : zH S a = some (xs.map fun x => ratD (f x))) : RowA S a (xs.map f) := by
 show zH S a = _
 rw [h, List.map_map]
 rfl
def TabR (S : Sto) (a : Nat) (as : List Nat) (T : List (List Rat)) : Prop := zH S a = some (as.map D.ref) ∧ as.length = T.length ∧ ∀ (i b : Nat) r, as[i]? = some b → T[i]? = some r → RowA S b r
theorem rdl_tab {S : Sto} (n : Nat) : ∀ (as : List Nat) (T : List (List Rat)), as.length = T.length → (∀ (i b : Nat) r, as[i]? = some b → T[i]? = some r → RowA S b r) → rdl (rd (n + 2) S) (as.map D.ref) = some (T.map fun r => Np.T.lst (r.map ratT))
 | [], [], _, _ => rfl
 | [], _ :: _, h, _ => by cases h
 | _ :: _, [], h, _ => by cases h
 | a :: as, r :: T, h, k => by
  have h0 := rd_row n (k 0 a r rfl rfl)
  have ih := rdl_tab n as T (by simpa using h) fun i b r h1 h2 => k (i + 1) b r (by simpa using h1) (by simpa using h2)
  simp only [List.map_cons, rdl, h0, ih]
theorem rd_tab {S : Sto} {a : Nat} {as : List Nat} {T : List (List Rat)} (n : Nat) (h : TabR S a as T) : rd (n + 3) S (.ref a) = some (.lst (T.map fun r => Np.T.lst (r.map ratT))) := by
 show (match zH S a with | some ds => (rdl (rd (n + 2) S) ds).map Np.T.lst | none => none) = _
 rw [h.1]
 show (rdl (rd (n + 2) S) (as.map D.ref)).map Np.T.lst = _
 rw [rdl_tab n as T h.2.1 h.2.2]
 rfl
theorem eqTs_tab : ∀ A B : List (List Rat), eqTs (A.map fun r => Np.T.lst (r.map ratT)) (B.map fun r => Np.T.lst (r.map ratT)) = decide (A = B)
 | [], [] => by simp [eqTs]
 | [], _ :: _ => by simp [eqTs]
 | _ :: _, [] => by simp [eqTs]
 | x :: xs, y :: ys => by
  simp only [List.map_cons, eqTs, eqT, eqTs_rat, eqTs_tab xs ys, List.cons.injEq]
  by_cases h1 : x = y <;> by_cases h2 : xs = ys <;> simp [h1, h2]
theorem eqD_tab {S : Sto} {a b : Nat} {as bs : List Nat} {A B : List (List Rat)} (ha : TabR S a as A) (hb : TabR S b bs B) : eqD (.ref a) (.ref b) S = ok (.bl (decide (A = B))) S := by
 unfold eqD; rw [rd_tab 6 ha, rd_tab 6 hb]
 show ok (D.bl (eqTs (A.map fun r => Np.T.lst (r.map ratT)) (B.map fun r => Np.T.lst (r.map ratT)))) S = _
 rw [eqTs_tab]
theorem neD_tab {S : Sto} {a b : Nat} {as bs : List Nat} {A B : List (List Rat)} (ha : TabR S a as A) (hb : TabR S b bs B) : neD (.ref a) (.ref b) S = ok (.bl (!decide (A = B))) S := by
 unfold neD; rw [rd_tab 6 ha, rd_tab 6 hb]
 show ok (D.bl (!eqTs (A.map fun r => Np.T.lst (r.map ratT)) (B.map fun r => Np.T.lst (r.map ratT)))) S = _
 rw [eqTs_tab]
theorem TabR.le {S S' : Sto} {a : Nat} {as : List Nat} {T : List (List Rat)} (h : TabR S a as T) (l : SLe S S') : TabR S' a as T := ⟨l.lst h.1, h.2.1, fun i b r h1 h2 => l.lst (h.2.2 i b r h1 h2)⟩
theorem one_src {a : Nat} {S : Sto} {xs : List D} (h : zH S a = some xs) (hl : xs.length ≤ 1000000) : xs.length ≤ (Src.one a).len S ∧ (Src.one a).len S ≤ 1000000 ∧ SLe S S ∧ ∀ i S'', SLe S S'' → (Src.one a).get S'' i = some xs[i]? := by
 rw [len_one h]
 exact ⟨Nat.le_refl _, hl, SLe.rfl, fun i S'' l => get_one (l.lst h) i⟩
theorem comp_to {it : DI} {g : DG} {e : DE} {base : DS} {k : Nat} {S : Sto} {src : Src} (vals : D → List (Option D)) {xs zs : List D} {P : D → Prop} (hg : Tg g k vals base P) (hit : it base S = ok src S) (hs : Has src S xs) (hl : src.len S ≤ 1000000) (hP : ∀ x ∈ xs, P x) (hz : zs.length = xs.length)
  (step : ∀ (i : Nat) x z, xs[i]? = some x → zs[i]? = some z → e (base ++ vals x) S = ok z S) : compE it k g e base S = ok (.ref S.length) (S ++ [.lst zs]) := by
 refine W_eq ?_
 refine W_compE vals xs (fun i acc S' => S' = S ∧ acc = zs.take i) P hP hg ?_ ?_ ?_
 ·rw [hit, W_ok]
  exact ⟨hs.1, hl, ⟨rfl, rfl⟩, fun i acc S' ⟨h, _⟩ => by rw [h]; exact hs.2 i⟩
 ·rintro i x acc S' hx ha ⟨rfl, he⟩
  have hi : i < zs.length := by rw [hz]; exact (List.getElem?_eq_some_iff.mp hx).1
  have hzi : zs[i]? = some zs[i] := by simp [hi]
  rw [step i x _ hx hzi, W_ok]
  refine ⟨rfl, ?_⟩
  rw [he, List.take_add_one, hzi]
  rfl
 ·rintro acc S' ⟨rfl, he⟩ _
  rw [he, ← hz, List.take_length]
  exact ⟨rfl, rfl⟩
theorem it_rng1 {as : DA} {base : DS} {S : Sto} {n : Nat} (h : as base S = ok [.int (n : Int)] S) (hn : n < 1000000) : itA rng1D as base S = ok (.fix (intsD 0 n)) S := by
 unfold itA
 rw [h, bnd_ok, rng1D_nat hn S]
theorem get_map {α : Type} {xs : List α} {f : α → D} {i : Nat} {z : D} (h : (xs.map f)[i]? = some z) : ∃ x, xs[i]? = some x ∧ z = f x := by
 rw [List.getElem?_map] at h
 cases q : xs[i]? with
 | none => rw [q] at h; cases h
 | some x => rw [q] at h; cases h; exact ⟨x, rfl, rfl⟩
theorem get_zipWith {α β γ : Type} {f : α → β → γ} {xs : List α} {ys : List β} {i : Nat} {z : γ} (h : (List.zipWith f xs ys)[i]? = some z) : ∃ x y, xs[i]? = some x ∧ ys[i]? = some y ∧ z = f x y := by
 rw [List.getElem?_zipWith] at h
 cases q : xs[i]? with
 | none => rw [q] at h; simp at h
 | some x =>
  cases q2 : ys[i]? with
  | none => rw [q, q2] at h; simp at h
  | some y => rw [q, q2] at h; simp at h; exact ⟨x, y, rfl, rfl, h.symm⟩
theorem map_get {α : Type} {xs : List α} {i : Nat} {x : α} (f : α → D) (h : xs[i]? = some x) : (xs.map f)[i]? = some (f x) := by simp [h]
theorem zK {α : Type} {xs : List α} {i : Nat} {x : α} (h : xs[i]? = some x) : x ∈ xs := List.mem_of_getElem? h
theorem RowA.to {S : Sto} {a : Nat} {xs ys : List Rat} (h : zH S a = some (xs.map ratD)) (e : xs = ys) : RowA S a ys := e ▸ h
theorem sm_of {n : Nat} {xs : List Rat} (h : ∀ x ∈ xs, Le n x) (hn : n ≤ 40000000) : ∀ x ∈ xs, sm x := fun x hx => (h x hx).sm hn
end Nm
end
section
namespace Nm
open Np PySem
theorem le_zip {f : Rat → Rat → Rat} {k m n : Nat} (hf : ∀ a b, Le m a → Le n b → Le k (f a b)) {xs ys : List Rat} (hx : ∀ x ∈ xs, Le m x) (hy : ∀ y ∈ ys, Le n y) : ∀ z ∈ List.zipWith f xs ys, Le k z := fun z hz => by
 obtain ⟨i, hi, rfl⟩ := List.getElem_of_mem hz
 rw [List.getElem_zipWith]
 exact hf _ _ (hx _ (List.getElem_mem _)) (hy _ (List.getElem_mem _))
end Nm
end
section
namespace Nm
open Np PySem
abbrev addR (xs ys : List Rat) : List Rat := List.zipWith (· + ·) xs ys
abbrev sclR (xs : List Rat) (q : Rat) : List Rat := xs.map (· * q)
def Wide (T : List (List Rat)) (n : Nat) : Prop := ∀ r ∈ T, r.length = n
theorem Wide.tl {r : List Rat} {T : List (List Rat)} {n : Nat} (h : Wide (r :: T) n) : Wide T n := fun x hx => h x (.tail _ hx)
theorem zQ {α : Type} {xs : List α} {i : Nat} (h : i < xs.length) : ∃ x, xs[i]? = some x := ⟨xs[i], by simp [h]⟩
def LeT (n : Nat) (T : List (List Rat)) : Prop := ∀ r ∈ T, ∀ x ∈ r, Le n x
end Nm
end
section
namespace Nm
open Np PySem
structure FT (n : Nat) (S : Sto) (c : Nat) (cs : List Nat) (U : List (List Rat)) : Prop where
 tab : TabR S c cs U
 lo : ∀ b ∈ cs, n ≤ b
 inc : cs.Nodup
 ne : ∀ b ∈ cs, b ≠ c
 nc : n ≤ c
theorem get_snoc {α : Type} {xs : List α} {x y : α} {i : Nat} (h : (xs ++ [x])[i]? = some y) : (i < xs.length ∧ xs[i]? = some y) ∨ (i = xs.length ∧ y = x) := by
 by_cases hi : i < xs.length
 ·rw [List.getElem?_append_left hi] at h
  exact .inl ⟨hi, h⟩
 ·rw [List.getElem?_append_right (by omega)] at h
  have := (List.getElem?_eq_some_iff.mp h).1
  have e : i = xs.length := by simp at this; omega
  subst e
  simp at h
  exact .inr ⟨rfl, h.symm⟩
theorem W_compT {it : DI} {g : DG} {e : DE} {base : DS} {k : Nat} {S : Sto} {Q : D → Sto → Prop} (vals : D → List (Option D)) (xs : List D) (U : List (List Rat)) (P : D → Prop) (hg : Tg g k vals base P) (hP : ∀ x ∈ xs, P x) (hU : U.length = xs.length)
  (hit : W (it base S) fun src S' => xs.length ≤ src.len S' ∧ src.len S' ≤ 1000000 ∧ SLe S S' ∧ ∀ i S'', SLe S' S'' → src.get S'' i = some xs[i]?)
  (step : ∀ (i : Nat) x r S', xs[i]? = some x → U[i]? = some r → SLe S S' → W (e (base ++ vals x) S') fun d S'' => ∃ c, d = .ref c ∧ S'.length ≤ c ∧ SLe S' S'' ∧ RowA S'' c r)
  (fin : ∀ S' c cs, SLe S S' → FT S.length S' c cs U → Q (.ref c) S') : W (compE it k g e base S) Q := by
 obtain ⟨src, S0, e0, h1, h2, h3, h4⟩ := hit.out
 refine W_compE vals xs (fun i acc S' => SLe S0 S' ∧ ∃ cs : List Nat, acc = cs.map D.ref ∧ cs.length = i ∧ (∀ (j b : Nat) r, cs[j]? = some b → U[j]? = some r → RowA S' b r) ∧ (∀ b ∈ cs, S.length ≤ b) ∧ cs.Pairwise (· < ·) ∧ ∀ b ∈ cs, b < S'.length) P hP hg ?_ ?_ ?_
 ·rw [e0, W_ok]
  exact ⟨h1, h2, ⟨SLe.rfl, [], rfl, rfl, fun j b r h => (by simp at h), fun _ h => (by cases h), .nil, fun _ h => (by cases h)⟩, fun i acc S'' h => h4 i S'' h.1⟩
 ·rintro i x acc S' hx ha ⟨hS, cs, rfl, hl, hr, hlo, hinc, htop⟩
  have hi : i < U.length := by rw [hU]; exact (List.getElem?_eq_some_iff.mp hx).1
  obtain ⟨r, hri⟩ := zQ hi
  refine (step i x r S' hx hri (h3.trans hS)).mono ?_
  rintro d S'' ⟨c, rfl, hc, hS', hrow⟩
  refine ⟨hS.trans hS', cs ++ [c], by simp, by simp [hl], fun j b r' hb hr' => ?_, fun b hb => ?_, ?_, fun b hb => ?_⟩
  ·rcases get_snoc hb with ⟨_, h⟩ | ⟨rfl, rfl⟩
   ·exact hS'.lst (hr j b r' h hr')
   ·rw [hl] at hr'
    rw [hri] at hr'
    cases hr'
    exact hrow
  ·rcases List.mem_append.mp hb with h | h
   ·exact hlo b h
   ·rw [List.mem_singleton.mp h]
    have := (h3.trans hS).len
    omega
  ·rw [List.pairwise_append]
   refine ⟨hinc, List.pairwise_singleton _ _, fun b hb b' hb' => ?_⟩
   rw [List.mem_singleton.mp hb']
   exact Nat.lt_of_lt_of_le (htop b hb) hc
  ·rcases List.mem_append.mp hb with h | h
   ·exact Nat.lt_of_lt_of_le (htop b h) hS'.len
   ·rw [List.mem_singleton.mp h]
    exact lstAt_lt hrow
 ·rintro acc S' ⟨hS, cs, rfl, hl, hr, hlo, hinc, htop⟩ _
  refine fin _ _ cs ((h3.trans hS).push _) ⟨⟨lstAt_push S' _, by rw [hl, hU], fun i b r h1 h2 => (SLe.app _).lst (hr i b r h1 h2)⟩, hlo, hinc.imp fun h => Nat.ne_of_lt h, fun b hb => Nat.ne_of_lt (htop b hb), (h3.trans hS).len⟩
theorem cut_gen {xs : List D} {l k : Nat} (hl : l ≤ k) : cutD xs (some (l : Int)) (some (k : Int)) = (xs.drop l).take (k - l) := by
 unfold cutD sIxD
 simp only []
 rw [if_neg (by omega), if_neg (by omega), Int.toNat_natCast, Int.toNat_natCast]
 by_cases h : l ≤ xs.length
 ·by_cases h2 : k ≤ xs.length
  ·congr 2 <;> omega
  ·rw [Nat.min_eq_left h, Nat.min_eq_right (by omega), List.take_of_length_le (by simp), List.take_of_length_le (by simp; omega)]
 ·rw [List.drop_eq_nil_of_le (as := xs) (i := l) (by omega), List.drop_eq_nil_of_le (as := xs) (i := min l xs.length) (by omega)]
  simp
theorem copy_tab {it : DI} {e : DE} {base : DS} {S : Sto} {Q : D → Sto → Prop} {a : Nat} {as : List Nat} {T : List (List Rat)} (ha : TabR S a as T) (hl : T.length ≤ 1000000) (hit : it base S = ok (.one a) S) (he : ∀ b S', e (base ++ [some (.ref b)]) S' = lofD [.ref b] S')
  (fin : ∀ S' c cs, SLe S S' → FT S.length S' c cs T → Q (.ref c) S') : W (compE it 1 (setG base.length) e base S) Q := by
 refine W_compT _ (as.map D.ref) T _ (tg_one base) (fun _ _ => trivial) (by simp [ha.2.1]) ?_ ?_ fin
 ·rw [hit, W_ok]
  exact one_src ha.1 (by simp [ha.2.1]; exact hl)
 ·intro i x r S' hx hr hS
  obtain ⟨b, hb, rfl⟩ := get_map hx
  rw [he]
  exact W_new (lofD_ref (hS.lst (ha.2.2 i b r hb hr))) fun S'' c l n r' => ⟨c, rfl, n, l, r'⟩
theorem FT.le {n : Nat} {S S' : Sto} {c : Nat} {cs : List Nat} {U : List (List Rat)} (h : FT n S c cs U) (l : SLe S S') : FT n S' c cs U := ⟨h.tab.le l, h.lo, h.inc, h.ne, h.nc⟩
theorem FT.lt {n : Nat} {S : Sto} {c : Nat} {cs : List Nat} {U : List (List Rat)} (h : FT n S c cs U) : ∀ b ∈ cs, b < S.length := fun b hb => by
 obtain ⟨i, hi⟩ := List.getElem?_of_mem hb
 obtain ⟨r, hr⟩ := zQ (show i < U.length by rw [← h.tab.2.1]; exact (List.getElem?_eq_some_iff.mp hi).1)
 exact lstAt_lt (h.tab.2.2 i b r hi hr)
theorem FT.snoc {n : Nat} {S S' : Sto} {c b : Nat} {cs : List Nat} {U : List (List Rat)} {r : List Rat} (h : FT n S c cs U) (hb : RowA S b r) (hn : n ≤ b) (hlt : ∀ x ∈ cs, x < b) (hbc : b ≠ c) (k1 : ∀ a, a ≠ c → zH S' a = zH S a) (k2 : zH S' c = some (cs.map D.ref ++ [.ref b])) : FT n S' c (cs ++ [b]) (U ++ [r]) := by
 refine ⟨⟨by rw [k2]; simp, by simp [h.tab.2.1], fun i x r' h1 h2 => ?_⟩, fun x hx => ?_, ?_, fun x hx => ?_, h.nc⟩
 ·rcases get_snoc h1 with ⟨hi, h1⟩ | ⟨rfl, rfl⟩
  ·rw [List.getElem?_append_left (by rw [← h.tab.2.1]; exact hi)] at h2
   show zH S' x = _
   rw [k1 x (h.ne x (zK h1))]
   exact h.tab.2.2 i x r' h1 h2
  ·rw [h.tab.2.1, List.getElem?_append_right (Nat.le_refl _)] at h2
   simp at h2
   subst h2
   show zH S' x = _
   rw [k1 x hbc]
   exact hb
 ·rcases List.mem_append.mp hx with hx | hx
  ·exact h.lo x hx
  ·rw [List.mem_singleton.mp hx]; exact hn
 ·show List.Pairwise _ _
  rw [List.pairwise_append]
  exact ⟨h.inc, List.pairwise_singleton _ _, fun x hx y hy => by rw [List.mem_singleton.mp hy]; exact Nat.ne_of_lt (hlt x hx)⟩
 ·rcases List.mem_append.mp hx with hx | hx
  ·exact h.ne x hx
  ·rw [List.mem_singleton.mp hx]; exact hbc
theorem FT.nil {n : Nat} {S : Sto} {c : Nat} (h : zH S c = some []) (hn : n ≤ c) : FT n S c [] [] := ⟨⟨h, rfl, fun i b r h => by simp at h⟩, fun _ h => (by cases h), .nil, fun _ h => (by cases h), hn⟩
theorem range_get {n i j : Nat} (h : (List.range n)[i]? = some j) : j = i ∧ i < n := by
 have hi : i < n := by
  have := (List.getElem?_eq_some_iff.mp h).1
  simpa using this
 exact ⟨by simpa [hi] using h.symm, hi⟩
theorem range_map_get {α : Type} {n i : Nat} {f : Nat → α} {x : α} (h : ((List.range n).map f)[i]? = some x) : x = f i ∧ i < n := by
 rw [List.getElem?_map] at h
 cases q : (List.range n)[i]? with
 | none => rw [q] at h; cases h
 | some j =>
  rw [q] at h
  obtain ⟨rfl, hi⟩ := range_get q
  exact ⟨(Option.some.inj h).symm, hi⟩
theorem setXA_ref {S : Sto} {a i : Nat} {xs : List D} (v : D) (δ : DS) (h : zH S a = some xs) (hi : i < xs.length) : setXA v δ (.ref a) (.int (i : Int)) S = ok δ (S.set a (.lst (xs.set i v))) := by
 show (match zH S a with | some xs => _ | none => none) = _
 rw [h]
 simp only [ixA_nat hi]
theorem W_setX {S : Sto} {b i : Nat} {xs : List D} {v : D} {δ : DS} {Q : DS → Sto → Prop} (h : zH S b = some xs) (hi : i < xs.length) (k : ∀ S', S'.length = S.length → (∀ S0, SLe S0 S → S0.length ≤ b → SLe S0 S') → (∀ c, c ≠ b → zH S' c = zH S c) → zH S' b = some (xs.set i v) → Q δ S') : W (setXA v δ (.ref b) (.int (i : Int)) S) Q := by
 refine W.intro (setXA_ref v δ h hi) (k _ (by simp) (fun S0 l hb => l.set hb _) (fun c hc => lstAt_set_ne (Ne.symm hc)) (lstAt_set h))
theorem maxD_nat (i j : Nat) (S : Sto) : maxD [.int (i : Int), .int (j : Int)] S = ok (.int ((max i j : Nat) : Int)) S := by
 show ok (D.int (if (j : Int) > i then j else i)) S = _
 congr 2
 split <;> omega
theorem natOf (v : Int) {k : Int} (hk : 0 < k) : ∃ m : Nat, v.fmod k = (m : Int) ∧ (m : Int) < k := by
 obtain ⟨h1, h2⟩ := fmod_bd v hk
 exact ⟨(v.fmod k).toNat, by omega, by omega⟩
end Nm
end
section
namespace Nm
open Np PySem
inductive Deed where
 | swap (i j : Nat) | scale (i : Nat) (q : Rat) | add (i j : Nat) (q : Rat)
def Deed.d : Deed → D
 | .swap i j => .tup [.str "swap", .int (i : Int), .int (j : Int)]
 | .scale i q => .tup [.str "scale", .int (i : Int), ratD q]
 | .add i j q => .tup [.str "add", .int (i : Int), .int (j : Int), ratD q]
def Deed.Ok (m : Nat) : Deed → Prop
 | .swap i j => i < m ∧ j < m ∧ i ≠ j
 | .scale i q => i < m ∧ q ≠ 0
 | .add i j _ => i < m ∧ j < m ∧ i ≠ j
def zR (T : List (List Rat)) (i : Nat) : List Rat := T.getD i []
def doD (T : List (List Rat)) : Deed → List (List Rat)
 | .swap i j => (T.set i (zR T j)).set j (zR T i)
 | .scale i q => T.set i (sclR (zR T i) q)
 | .add i j q => T.set i (addR (zR T i) (sclR (zR T j) q))
def doneR (T : List (List Rat)) (ds : List Deed) : List (List Rat) := ds.foldl doD T
theorem eqD_str {x y : Str} (hx : x.cps.all (· < 0x110000) = true) (hy : y.cps.all (· < 0x110000) = true) (S : Sto) : eqD (.str x) (.str y) S = ok (.bl (x == y)) S := by
 have e : ∀ {x : Str}, x.cps.all (· < 0x110000) = true → rd 9 S (.str x) = some (.str x) := by
  intro x hx
  show (if x.cps.all (· < 0x110000) = true then some (T.str x) else none) = _
  rw [if_pos hx]
 unfold eqD
 rw [e hx, e hy]
 rfl
theorem str_ss (S : Sto) : eqD (.str "swap") (.str "swap") S = ok (.bl true) S := by rw [eqD_str (by decide +kernel) (by decide +kernel)]; rw [show (("swap" : Str) == ("swap" : Str)) = true by decide +kernel]
theorem str_cs (S : Sto) : eqD (.str "scale") (.str "swap") S = ok (.bl false) S := by rw [eqD_str (by decide +kernel) (by decide +kernel)]; rw [show (("scale" : Str) == ("swap" : Str)) = false by decide +kernel]
theorem str_as (S : Sto) : eqD (.str "add") (.str "swap") S = ok (.bl false) S := by rw [eqD_str (by decide +kernel) (by decide +kernel)]; rw [show (("add" : Str) == ("swap" : Str)) = false by decide +kernel]
theorem str_sc (S : Sto) : eqD (.str "swap") (.str "scale") S = ok (.bl false) S := by rw [eqD_str (by decide +kernel) (by decide +kernel)]; rw [show (("swap" : Str) == ("scale" : Str)) = false by decide +kernel]
theorem str_cc (S : Sto) : eqD (.str "scale") (.str "scale") S = ok (.bl true) S := by rw [eqD_str (by decide +kernel) (by decide +kernel)]; rw [show (("scale" : Str) == ("scale" : Str)) = true by decide +kernel]
theorem str_ac (S : Sto) : eqD (.str "add") (.str "scale") S = ok (.bl false) S := by rw [eqD_str (by decide +kernel) (by decide +kernel)]; rw [show (("add" : Str) == ("scale" : Str)) = false by decide +kernel]
theorem str_sa (S : Sto) : eqD (.str "swap") (.str "add") S = ok (.bl false) S := by rw [eqD_str (by decide +kernel) (by decide +kernel)]; rw [show (("swap" : Str) == ("add" : Str)) = false by decide +kernel]
theorem str_ca (S : Sto) : eqD (.str "scale") (.str "add") S = ok (.bl false) S := by rw [eqD_str (by decide +kernel) (by decide +kernel)]; rw [show (("scale" : Str) == ("add" : Str)) = false by decide +kernel]
theorem str_aa (S : Sto) : eqD (.str "add") (.str "add") S = ok (.bl true) S := by rw [eqD_str (by decide +kernel) (by decide +kernel)]; rw [show (("add" : Str) == ("add" : Str)) = true by decide +kernel]
theorem isi_str_str (x : Str) (S : Sto) : isiD .str (.str x) S = ok (.bl true) S := rfl
theorem tix (ds : List D) (i : Nat) (d : D) (h : ds[i]? = some d) (S : Sto) : ixD (.tup ds) (.int (i : Int)) S = ok d S := by
 have hl : i < ds.length := (List.getElem?_eq_some_iff.mp h).1
 show ixK (some ds) i S = _
 unfold ixK
 simp only [ixA_nat hl, Option.bind_some, h]
theorem tix0 (a : D) (r : List D) (S : Sto) : ixD (.tup (a :: r)) (.int 0) S = ok a S := tix (a :: r) 0 a rfl S
theorem tix1 (a b : D) (r : List D) (S : Sto) : ixD (.tup (a :: b :: r)) (.int 1) S = ok b S := tix (a :: b :: r) 1 b rfl S
theorem tix2 (a b c : D) (r : List D) (S : Sto) : ixD (.tup (a :: b :: c :: r)) (.int 2) S = ok c S := tix (a :: b :: c :: r) 2 c rfl S
theorem tix3 (a b c d : D) (r : List D) (S : Sto) : ixD (.tup (a :: b :: c :: d :: r)) (.int 3) S = ok d S := tix (a :: b :: c :: d :: r) 3 d rfl S
theorem is_ratio_rat (q : Rat) (S : Sto) : F.is_ratio [ratD q] S = ok (.bl true) S := by
 refine W_eq ?_
 have h1 : (1 : Int) ≤ q.den := by have := den_pos' q; omega
 have h2 : Int.gcd (if q.num < 0 then -q.num else q.num) (q.den : Int) = 1 := by rw [gcd_abs1]; exact gcd_num_den q
 (unfold F.is_ratio; refine Np.W_fnF rfl ?_; unfold Den.is_ratio; simp_all [])
 simp_all [whole_int, h1, greatest_common_eq (abs_nonneg q.num) (show (0 : Int) ≤ q.den by omega), h2]
 exact ⟨rfl, trivial⟩
theorem row_number_eq {i m : Nat} (h : i < m) (S : Sto) : F.is_row_number [.int (i : Int), .int (m : Int)] S = ok (.bl true) S := by
 refine W_eq ?_
 (unfold F.is_row_number; refine Np.W_fnF rfl ?_; unfold Den.is_row_number; simp_all [])
 have h1 : (0 : Int) ≤ (i : Int) := by omega
 have h2 : (i : Int) < (m : Int) := by omega
 simp_all [whole_int, h1, h2]
theorem unlike_eq {i j m : Nat} (hi : i < m) (hj : j < m) (h : i ≠ j) (S : Sto) : F.are_unlike_rows [.int (i : Int), .int (j : Int), .int (m : Int)] S = ok (.bl true) S := by
 refine W_eq ?_
 (unfold F.are_unlike_rows; refine Np.W_fnF rfl ?_; unfold Den.are_unlike_rows; simp_all [])
 have h1 : ¬ ((i : Int) = (j : Int)) := by omega
 simp_all [row_number_eq hi, row_number_eq hj, h1]
theorem is_deed_eq {d : Deed} {m : Nat} (h : d.Ok m) (S : Sto) : F.is_deed [d.d, .int (m : Int)] S = ok (.bl true) S := by
 refine W_eq ?_
 unfold F.is_deed
 refine W_fnF rfl ?_
 unfold Den.is_deed
 cases d with
 | swap i j => simp_all [Deed.d, tix0, tix1, tix2, isi_str_str, str_ss, unlike_eq h.1 h.2.1 h.2.2, Int.reduceEq, show ((0 + 1 + 1 + 1 : Nat) : Int) = 3 from rfl]
 | scale i q =>
  have hq : ¬ q = 0 := h.2
  simp_all [Deed.d, tix0, tix1, tix2, isi_str_str, str_cs, str_cc, row_number_eq h.1, is_ratio_rat, hq, Int.reduceEq, show ((0 + 1 + 1 + 1 : Nat) : Int) = 3 from rfl]
 | add i j q => simp_all [Deed.d, tix0, tix1, tix2, tix3, isi_str_str, str_as, str_ac, str_aa, unlike_eq h.1 h.2.1 h.2.2, is_ratio_rat, Int.reduceEq, show ((0 + 1 + 1 + 1 + 1 : Nat) : Int) = 4 from rfl]
def Deed.le (n : Nat) : Deed → Prop
 | .swap _ _ => True
 | .scale _ q => Le n q
 | .add _ _ q => Le n q
theorem doD_length (T : List (List Rat)) (d : Deed) : (doD T d).length = T.length := by cases d <;> simp [doD]
theorem yB {T : List (List Rat)} {i : Nat} {r : List Rat} (h : T[i]? = some r) : zR T i = r := by simp [zR, h]
theorem doD_wide {T : List (List Rat)} {d : Deed} {n m : Nat} (hw : Wide T n) (hd : d.Ok T.length) : Wide (doD T d) n := by
 have hrow : ∀ i, i < T.length → (zR T i).length = n := fun i hi => by
  obtain ⟨r, hr⟩ := zQ hi
  rw [yB hr]
  exact hw r (zK hr)
 intro r hr
 cases d with
 | swap i j =>
  rcases List.mem_or_eq_of_mem_set hr with h | h
  ·rcases List.mem_or_eq_of_mem_set h with h | h
   ·exact hw r h
   ·rw [h]; exact hrow j hd.2.1
  ·rw [h]; exact hrow i hd.1
 | scale i q =>
  rcases List.mem_or_eq_of_mem_set hr with h | h
  ·exact hw r h
  ·rw [h]; simp [hrow i hd.1]
 | add i j q =>
  rcases List.mem_or_eq_of_mem_set hr with h | h
  ·exact hw r h
  ·rw [h]; simp [hrow i hd.1, hrow j hd.2.1]
theorem set_get {α : Type} {xs : List α} {i k : Nat} {x y : α} (h : (xs.set i x)[k]? = some y) : (k = i ∧ y = x) ∨ (k ≠ i ∧ xs[k]? = some y) := by
 by_cases e : i = k
 ·subst e
  rw [List.getElem?_set] at h
  split at h
  ·split at h
   ·exact .inl ⟨rfl, (Option.some.inj h).symm⟩
   ·cases h
  ·exact absurd rfl (by assumption)
 ·rw [List.getElem?_set_ne e] at h
  exact .inr ⟨fun z => e z.symm, h⟩
theorem TabR.set {S S' : Sto} {c i b : Nat} {cs : List Nat} {U : List (List Rat)} {r : List Rat} (hl : cs.length = U.length) (hr : ∀ (k x : Nat) u, cs[k]? = some x → U[k]? = some u → RowA S x u) (hb : RowA S b r) : ∀ (k x : Nat) u, (cs.set i b)[k]? = some x → (U.set i r)[k]? = some u → RowA S x u := by
 intro k x u h1 h2
 rcases set_get h1 with ⟨rfl, rfl⟩ | ⟨hk, h1⟩
 ·rcases set_get h2 with ⟨_, rfl⟩ | ⟨hk, _⟩
  ·exact hb
  ·exact absurd rfl hk
 ·rcases set_get h2 with ⟨rfl, _⟩ | ⟨_, h2⟩
  ·exact absurd rfl hk
  ·exact hr k x u h1 h2
theorem nodup_set {cs : List Nat} {i b : Nat} (h : cs.Nodup) (hb : b ∉ cs) : (cs.set i b).Nodup := by
 induction cs generalizing i with
 | nil => exact h
 | cons c cs ih =>
  have h' := List.nodup_cons.mp h
  cases i with
  | zero =>
   rw [List.set_cons_zero, List.nodup_cons]
   exact ⟨fun z => hb (.tail _ z), h'.2⟩
  | succ i =>
   rw [List.set_cons_succ, List.nodup_cons]
   refine ⟨fun z => ?_, ih h'.2 fun z => hb (.tail _ z)⟩
   rcases List.mem_or_eq_of_mem_set z with z | z
   ·exact h'.1 z
   ·exact hb (by rw [← z]; exact .head _)
theorem map_set_ref (cs : List Nat) (i b : Nat) : (cs.map D.ref).set i (.ref b) = (cs.set i b).map D.ref := by rw [List.map_set]
theorem swap_get {α : Type} {xs : List α} {i j k : Nat} {a b y : α} (hi : xs[i]? = some a) (hj : xs[j]? = some b) (h : ((xs.set i b).set j a)[k]? = some y) : (k = j ∧ y = a) ∨ (k ≠ j ∧ k = i ∧ y = b) ∨ (k ≠ j ∧ k ≠ i ∧ xs[k]? = some y) := by
 rcases set_get h with ⟨rfl, rfl⟩ | ⟨hk, h⟩
 ·exact .inl ⟨rfl, rfl⟩
 ·rcases set_get h with ⟨rfl, rfl⟩ | ⟨hk2, h⟩
  ·exact .inr (.inl ⟨hk, rfl, rfl⟩)
  ·exact .inr (.inr ⟨hk, hk2, h⟩)
theorem nodup_swap {xs : List Nat} {i j a b : Nat} (h : xs.Nodup) (hi : xs[i]? = some a) (hj : xs[j]? = some b) : ((xs.set i b).set j a).Nodup := by
 show List.Pairwise _ _
 rw [List.pairwise_iff_getElem]
 intro p q hp hq hpq
 have hql : q < xs.length := by simpa using hq
 have inj : ∀ {u v x : Nat}, xs[u]? = some x → xs[v]? = some x → u = v := by
  intro u v x hu hv
  have h1 := (List.getElem?_eq_some_iff.mp hu)
  have h2 := (List.getElem?_eq_some_iff.mp hv)
  exact (List.getElem_inj h).mp (h1.2.trans h2.2.symm)
 obtain ⟨x, hx⟩ := zQ (xs := (xs.set i b).set j a) (i := p) (by simp; omega)
 obtain ⟨y, hy⟩ := zQ (xs := (xs.set i b).set j a) (i := q) (by simp; omega)
 intro e
 have e : x = y := by
  have h1 := (List.getElem?_eq_some_iff.mp hx).2
  have h2 := (List.getElem?_eq_some_iff.mp hy).2
  rw [← h1, ← h2]
  exact e
 subst e
 rcases swap_get hi hj hx with ⟨e1, e2⟩ | ⟨p1, e1, e2⟩ | ⟨p1, p2, hx'⟩ <;> rcases swap_get hi hj hy with ⟨e3, e4⟩ | ⟨q1, e3, e4⟩ | ⟨q1, q2, hy'⟩
 ·omega
 ·rw [e2] at e4; rw [← e4] at hj; have := inj hi hj; omega
 ·rw [e2] at hy'; have := inj hy' hi; omega
 ·rw [e2] at e4; rw [← e4] at hi; have := inj hi hj; omega
 ·omega
 ·rw [e2] at hy'; have := inj hy' hj; omega
 ·rw [e4] at hx'; have := inj hx' hi; omega
 ·rw [e4] at hx'; have := inj hx' hj; omega
 ·have := inj hx' hy'; omega
theorem done_once_w {S : Sto} {n t k N : Nat} {ts : List Nat} {T : List (List Rat)} {d : Deed} (f : FT n S t ts T) (hd : d.Ok T.length) (hw : Wide T k) (hk : k ≤ 1000000) (hm : T.length ≤ 1000000) (hT : LeT N T) (hq : d.le N) (hN : N ≤ 20000000) :
  W (F.done_once [.ref t, d.d] S) fun e S' => ∃ c cs, e = .ref c ∧ SLe S S' ∧ FT n S' c cs (doD T d) := by
 have htl := f.tab.2.1
 (unfold F.done_once; refine Np.W_fnF rfl ?_; unfold Den.done_once; simp_all [])
 refine W_new (lofD_ref f.tab.1) fun S1 c l1 n1 r1 => ?_
 have hnc : n ≤ c := by have := lstAt_lt f.tab.1; have := f.nc; omega
 have f1 := f.le l1
 have hcs : ∀ x ∈ ts, x ≠ c := fun x hx => by have := f.lt x hx; omega
 cases d with
 | swap i j =>
  obtain ⟨hi, hj, hij⟩ := hd
  obtain ⟨bi, hbi⟩ := zQ (xs := ts) (i := i) (by omega)
  obtain ⟨bj, hbj⟩ := zQ (xs := ts) (i := j) (by omega)
  obtain ⟨ri, hri⟩ := zQ hi
  obtain ⟨rj, hrj⟩ := zQ hj
  have row1 := f1.tab.2.2 i bi ri hbi hri
  have row2 := f1.tab.2.2 j bj rj hbj hrj
  simp_all [Deed.d, tix0, tix1, tix2, str_ss, ixD_ref f1.tab.1 (map_get D.ref hbj), ixD_ref f1.tab.1 (map_get D.ref hbi), setXG, setXK]
  refine W_setX r1 (by simp; omega) fun S2 _ k2 kne2 r2 => ?_
  have tc : t ≠ c := by have := lstAt_lt f.tab.1; omega
  simp_all [Deed.d, ixD_ref (show zH S2 t = some (ts.map D.ref) by rw [kne2 t tc]; exact f1.tab.1) (map_get D.ref hbi), tix2, setXG, setXK]
  refine W_setX r2 (by simp; omega) fun S3 _ k3 kne3 r3 => ?_
  simp_all []
  rw [map_set_ref, map_set_ref] at r3
  refine ⟨c, (ts.set i bj).set j bi, rfl, k3 _ (k2 _ l1 n1) n1, ⟨⟨r3, by simp [doD, htl], ?_⟩, fun x hx => ?_, nodup_swap f.inc hbi hbj, fun x hx => ?_, hnc⟩⟩
  ·intro p x u h1 h2
   have key : ∀ x u, RowA S1 x u → x ∈ ts → RowA S3 x u := fun x u hx hm => by
    show zH S3 x = _
    rw [kne3 x (hcs x hm), kne2 x (hcs x hm)]
    exact hx
   simp only [doD, yB hri, yB hrj] at h2
   rcases swap_get hbi hbj h1 with ⟨rfl, rfl⟩ | ⟨p1, rfl, rfl⟩ | ⟨p1, p2, h1⟩ <;> rcases swap_get hri hrj h2 with ⟨e1, e2⟩ | ⟨q1, e1, e2⟩ | ⟨q1, q2, h2⟩
   ·subst e2; exact key _ _ row1 (zK hbi)
   ·exact absurd rfl q1
   ·exact absurd rfl q1
   ·exact absurd e1 p1
   ·subst e2; exact key _ _ row2 (zK hbj)
   ·exact absurd rfl q2
   ·exact absurd e1 p1
   ·exact absurd e1 p2
   ·exact key _ _ (f1.tab.2.2 p x u h1 h2) (zK h1)
  ·rcases List.mem_or_eq_of_mem_set hx with h | h
   ·rcases List.mem_or_eq_of_mem_set h with h | h
    ·exact f.lo x h
    ·rw [h]; exact f.lo _ (zK hbj)
   ·rw [h]; exact f.lo _ (zK hbi)
  ·rcases List.mem_or_eq_of_mem_set hx with h | h
   ·rcases List.mem_or_eq_of_mem_set h with h | h
    ·exact hcs x h
    ·rw [h]; exact hcs _ (zK hbj)
   ·rw [h]; exact hcs _ (zK hbi)
 | scale i q =>
  obtain ⟨hi, hq0⟩ := hd
  obtain ⟨bi, hbi⟩ := zQ (xs := ts) (i := i) (by omega)
  obtain ⟨ri, hri⟩ := zQ hi
  have row1 := f1.tab.2.2 i bi ri hbi hri
  have hq : Le N q := hq
  simp_all [Deed.d, tix0, tix1, tix2, str_cs, str_cc, ixD_ref f1.tab.1 (map_get D.ref hbi)]
  refine W_new (scaled_eq row1 (by rw [hw ri (zK hri)]; exact hk) (sm_of (hT ri (zK hri)) (by omega)) (hq.sm (by omega))) fun S2 b l2 n2 r2 => ?_
  simp_all [setXG, setXK]
  refine W_setX (l2.lst r1) (by simp; omega) fun S3 _ k3 kne3 r3 => ?_
  simp_all []
  rw [map_set_ref] at r3
  have hbc : b ≠ c := by have := lstAt_lt r1; omega
  have hbt : b ∉ ts := fun z => by have := f1.lt b z; omega
  refine ⟨c, ts.set i b, rfl, k3 _ (l1.trans l2) n1, ⟨⟨r3, by simp [doD, htl], ?_⟩, fun x hx => ?_, nodup_set f.inc hbt, fun x hx => ?_, hnc⟩⟩
  ·simp only [doD, yB hri]
   refine TabR.set (S' := S3) (c := c) htl (fun p x u h1 h2 => ?_) ?_
   ·show zH S3 x = _
    rw [kne3 x (hcs x (zK h1))]
    exact l2.lst (f1.tab.2.2 p x u h1 h2)
   ·show zH S3 b = _
    rw [kne3 b hbc]
    exact r2
  ·rcases List.mem_or_eq_of_mem_set hx with h | h
   ·exact f.lo x h
   ·rw [h]; have := l1.len; have := lstAt_lt r1; omega
  ·rcases List.mem_or_eq_of_mem_set hx with h | h
   ·exact hcs x h
   ·rw [h]; exact hbc
 | add i j q =>
  obtain ⟨hi, hj, hij⟩ := hd
  obtain ⟨bi, hbi⟩ := zQ (xs := ts) (i := i) (by omega)
  obtain ⟨bj, hbj⟩ := zQ (xs := ts) (i := j) (by omega)
  obtain ⟨ri, hri⟩ := zQ hi
  obtain ⟨rj, hrj⟩ := zQ hj
  have row1 := f1.tab.2.2 i bi ri hbi hri
  have row2 := f1.tab.2.2 j bj rj hbj hrj
  have hq : Le N q := hq
  simp_all [Deed.d, tix0, tix1, tix2, tix3, str_as, str_ac, ixD_ref f1.tab.1 (map_get D.ref hbj), ixD_ref f1.tab.1 (map_get D.ref hbi)]
  refine W_new (scaled_eq row2 (by rw [hw rj (zK hrj)]; exact hk) (sm_of (hT rj (zK hrj)) (by omega)) (hq.sm (by omega))) fun S2 b l2 n2 r2 => ?_
  have hsc : ∀ x ∈ rj.map (· * q), Le (N + N) x := fun x hx => by
   obtain ⟨y, hy, rfl⟩ := List.mem_map.mp hx
   exact (hT rj (zK hrj) y hy).mul hq
  refine W_new (added_eq (l2.lst row1) r2 (by rw [hw ri (zK hri)]; exact hk) (sm_of (hT ri (zK hri)) (by omega)) (sm_of hsc (by omega))) fun S3 b3 l3 n3 r3 => ?_
  simp_all [setXG, setXK]
  refine W_setX ((l2.trans l3).lst r1) (by simp; omega) fun S4 _ k4 kne4 r4 => ?_
  simp_all []
  rw [map_set_ref] at r4
  have hbc : b3 ≠ c := by have := lstAt_lt r1; have := l2.len; omega
  have hbt : b3 ∉ ts := fun z => by have := f1.lt b3 z; have := l2.len; omega
  refine ⟨c, ts.set i b3, rfl, k4 _ (l1.trans (l2.trans l3)) n1, ⟨⟨r4, by simp [doD, htl], ?_⟩, fun x hx => ?_, nodup_set f.inc hbt, fun x hx => ?_, hnc⟩⟩
  ·simp only [doD, yB hri, yB hrj]
   refine TabR.set (S' := S4) (c := c) htl (fun p x u h1 h2 => ?_) ?_
   ·show zH S4 x = _
    rw [kne4 x (hcs x (zK h1))]
    exact (l2.trans l3).lst (f1.tab.2.2 p x u h1 h2)
   ·show zH S4 b3 = _
    rw [kne4 b3 hbc]
    exact r3
  ·rcases List.mem_or_eq_of_mem_set hx with h | h
   ·exact f.lo x h
   ·rw [h]; have := l1.len; have := lstAt_lt r1; have := l2.len; omega
  ·rcases List.mem_or_eq_of_mem_set hx with h | h
   ·exact hcs x h
   ·rw [h]; exact hbc
theorem allB_true (n : Nat) : allB (List.replicate n (D.bl true)) = some true := by
 have := allB_map (fun _ : Nat => true) (List.range n)
 rw [List.map_const', List.length_range] at this
 rw [this]
 congr 1
 exact List.all_eq_true.mpr fun _ _ => rfl
theorem rep_get {α : Type} {n i : Nat} {x z : α} (h : (List.replicate n x)[i]? = some z) : z = x ∧ i < n := by
 rw [List.getElem?_replicate] at h
 split at h
 ·exact ⟨(Option.some.inj h).symm, by assumption⟩
 ·cases h
theorem are_deeds_w {S : Sto} {b m : Nat} {ds : List Deed} (hb : zH S b = some (ds.map Deed.d)) (hd : ∀ d ∈ ds, d.Ok m) (hl : ds.length ≤ 1000000) : W (F.are_deeds [.ref b, .int (m : Int)] S) fun d S' => d = .bl true ∧ SLe S S' := by
 (unfold F.are_deeds; refine Np.W_fnF rfl ?_; unfold Den.are_deeds; simp_all [])
 simp_all [isi_lst_ref hb]
 refine W_new (comp_to (base := [some (.ref b), some (.int (m : Int))]) _ (tg_one _) (src := .one b) (xs := ds.map Deed.d) (zs := List.replicate ds.length (.bl true)) (by simp only [Np.itA, Np.itE, Np.yF, Np.aConsK, Np.aNil, Np.consK, Np.vr, Np.cst, List.getElem?_cons_zero, List.getElem?_cons_succ, Np.bnd_ok]; exact itL_ref hb) (Has.one hb) (by rw [len_one hb]; simpa using hl) (fun _ _ => trivial) (by simp) fun i x z hx hz => ?_) fun S' c l n r => ?_
 ·obtain ⟨d, hdi, rfl⟩ := get_map hx
  obtain ⟨rfl, _⟩ := rep_get hz
  refine W_eq ?_
  simp_all [is_deed_eq (hd d (zK hdi))]
 ·simp_all [allD_ref r (allB_true _)]
  exact ⟨trivial, l⟩
theorem doneR_take {T : List (List Rat)} {ds : List Deed} {i : Nat} {d : Deed} (h : ds[i]? = some d) : doneR T (ds.take (i + 1)) = doD (doneR T (ds.take i)) d := by
 unfold doneR
 rw [List.take_add_one, h, List.foldl_append]
 rfl
theorem doneR_length (T : List (List Rat)) : ∀ ds : List Deed, (doneR T ds).length = T.length := by
 intro ds
 unfold doneR
 induction ds generalizing T with
 | nil => rfl
 | cons d ds ih => rw [List.foldl_cons, ih, doD_length]
theorem doneR_wide {T : List (List Rat)} {n m : Nat} (hl : T.length = m) (hw : Wide T n) : ∀ {ds : List Deed}, (∀ d ∈ ds, d.Ok m) → Wide (doneR T ds) n := by
 intro ds
 unfold doneR
 induction ds generalizing T with
 | nil => intro _; exact hw
 | cons d ds ih =>
  intro hd
  rw [List.foldl_cons]
  exact ih (by rw [doD_length]; exact hl) (doD_wide (m := m) hw (by rw [hl]; exact hd d (.head _))) fun x hx => hd x (.tail _ hx)
theorem done_w {S : Sto} {t b k N : Nat} {ts : List Nat} {T : List (List Rat)} {ds : List Deed} {Q : D → Sto → Prop} (ht : TabR S t ts T) (hb : zH S b = some (ds.map Deed.d)) (hd : ∀ d ∈ ds, d.Ok T.length) (hw : Wide T k) (hk : k ≤ 1000000) (hm : T.length ≤ 1000000) (hl : ds.length ≤ 1000000) (hT : ∀ i, i ≤ ds.length → LeT N (doneR T (ds.take i))) (hq : ∀ d ∈ ds, d.le N) (hN : N ≤ 20000000)
  (fin : ∀ S' c cs, SLe S S' → FT S.length S' c cs (doneR T ds) → Q (.ref c) S') : W (F.done [.ref t, .ref b] S) Q := by
 (unfold F.done; refine Np.W_fnF rfl ?_; unfold Den.done; simp_all [])
 simp_all [lenD_ref ht.1, List.length_map, ht.2.1]
 refine (are_deeds_w hb hd hl).mono ?_
 rintro d S1 ⟨rfl, l1⟩
 simp_all []
 refine copy_tab (base := [_, _, _, _]) (ht.le l1) hm (by simp only [Np.itA, Np.itE, Np.yF, Np.aConsK, Np.aNil, Np.consK, Np.vr, Np.cst, List.getElem?_cons_zero, List.getElem?_cons_succ, Np.bnd_ok]; exact itL_ref (l1.lst ht.1)) (fun b S' => rfl) fun S2 c cs l2 f2 => ?_
 have L := l1.trans l2
 simp_all [itL_ref (L.lst hb)]
 refine W_forK (ds.map Deed.d) (fun i δ S' => SLe S S' ∧ ∃ c cs o, δ = [some (.ref t), some (.ref b), some (.ref c), o] ∧ FT S.length S' c cs (doneR T (ds.take i))) (by rw [len_one (L.lst hb)]; exact Nat.le_refl _) ⟨L, c, cs, _, rfl, ⟨f2.tab, fun x hx => Nat.le_trans l1.len (f2.lo x hx), f2.inc, f2.ne, Nat.le_trans l1.len f2.nc⟩⟩ (fun i δ S' h => get_one (h.1.lst hb) i) ?_ ?_
 ·rintro i x δ S3 hx ⟨L3, c3, cs3, o, rfl, f3⟩
  obtain ⟨d, hdi, rfl⟩ := get_map hx
  have hi : i < ds.length := (List.getElem?_eq_some_iff.mp hdi).1
  simp_all []
  have hln : (doneR T (ds.take i)).length = T.length := doneR_length T _
  refine (done_once_w (k := k) (N := N) f3 (by rw [hln]; exact hd d (zK hdi)) (doneR_wide rfl hw fun x hx => hd x (List.mem_of_mem_take hx)) hk (by omega) (hT i (by omega)) (hq d (zK hdi)) hN).mono ?_
  rintro e S4 ⟨c4, cs4, rfl, l4, f4⟩
  exact ⟨L3.trans l4, c4, cs4, _, rfl, by rw [doneR_take hdi]; exact f4⟩
 ·rintro δ S3 ⟨L3, c3, cs3, o, rfl, f3⟩
  simp_all []
  rw [List.length_map, List.take_length] at f3
  exact fin S3 c3 cs3 L3 f3
theorem done_le {T : List (List Rat)} {ds : List Deed} {n m k : Nat} (hT : LeT n T) (hq : ∀ d ∈ ds, d.le m) (hn : 0 < n) : ∀ i, i ≤ ds.length → LeT (2 ^ ds.length * (n + m + 1)) (doneR T (ds.take i)) := by
 have rw0 : ∀ (T : List (List Rat)) (b : Nat), LeT b T → ∀ i, ∀ x ∈ zR T i, Le b x := by
  intro T b h i x hx
  unfold zR at hx
  rw [List.getD_eq_getElem?_getD] at hx
  cases q : T[i]? with
  | none => rw [q] at hx; cases hx
  | some r => rw [q] at hx; exact h r (zK q) x hx
 have step : ∀ (T : List (List Rat)) (d : Deed) (b : Nat), LeT b T → d.le m → LeT (2 * b + m + 1) (doD T d) := by
  intro T d b hb hd r hr x hx
  cases d with
  | swap i j =>
   have : Le b x := by
    rcases List.mem_or_eq_of_mem_set hr with h | h
    ·rcases List.mem_or_eq_of_mem_set h with h | h
     ·exact hb r h x hx
     ·rw [h] at hx; exact rw0 T b hb _ x hx
    ·rw [h] at hx; exact rw0 T b hb _ x hx
   exact this.mono (by omega)
  | scale i q =>
   rcases List.mem_or_eq_of_mem_set hr with h | h
   ·exact (hb r h x hx).mono (by omega)
   ·rw [h] at hx
    obtain ⟨y, hy, rfl⟩ := List.mem_map.mp hx
    exact ((rw0 T b hb _ y hy).mul hd).mono (by omega)
  | add i j q =>
   rcases List.mem_or_eq_of_mem_set hr with h | h
   ·exact (hb r h x hx).mono (by omega)
   ·rw [h] at hx
    have h1 : ∀ z ∈ sclR (zR T j) q, Le (b + m) z := fun z hz => by
     obtain ⟨y, hy, rfl⟩ := List.mem_map.mp hz
     exact (rw0 T b hb _ y hy).mul hd
    exact (le_zip (f := (· + ·)) (k := b + (b + m) + 1) (fun a b h1 h2 => h1.add h2) (rw0 T b hb i) h1 x hx).mono (by omega)
 have main : ∀ i, i ≤ ds.length → ∃ b, LeT b (doneR T (ds.take i)) ∧ b + m + 1 ≤ 2 ^ i * (n + m + 1) := by
  intro i
  induction i with
  | zero => exact fun _ => ⟨n, hT, by simp⟩
  | succ i ih =>
   intro hi
   obtain ⟨b, h1, h2⟩ := ih (by omega)
   obtain ⟨d, hd⟩ := zQ (show i < ds.length by omega)
   refine ⟨2 * b + m + 1, by rw [doneR_take hd]; exact step _ d b h1 (hq d (zK hd)), ?_⟩
   rw [Nat.pow_succ, Nat.mul_comm (2 ^ i) 2, Nat.mul_assoc]
   omega
 intro i hi
 obtain ⟨b, h1, h2⟩ := main i hi
 have : 2 ^ i * (n + m + 1) ≤ 2 ^ ds.length * (n + m + 1) := Nat.mul_le_mul_right _ (Nat.pow_le_pow_right (by decide) hi)
 exact fun r hr x hx => (h1 r hr x hx).mono (by omega)
end Nm
end
section
namespace Nm
open Np PySem
def Kn (S : Sto) : D → Prop
 | .ref a => (∃ xs, S[a]? = some (.lst xs)) ∨ ∃ kvs, S[a]? = some (.dct kvs)
 | .exc _ => False
 | .scr _ => False
 | _ => True
theorem Kn.mono {S S' : Sto} {d : D} (h : Kn S d) (l : SLe S S') : Kn S' d := by
 cases d with
 | ref a =>
  have : ∀ o, S[a]? = some o → S'[a]? = some o := fun o e => by
   rw [l.get (List.getElem?_eq_some_iff.mp e).1]; exact e
  rcases h with ⟨xs, e⟩ | ⟨kvs, e⟩
  ·exact .inl ⟨xs, this _ e⟩
  ·exact .inr ⟨kvs, this _ e⟩
 | _ => exact h
def wholeB : D → Bool
 | .int _ => true
 | _ => false
def intB : D → Bool
 | .int _ => true
 | .bl _ => true
 | _ => false
def boolB : D → Bool
 | .bl _ => true
 | _ => false
def tupB : D → Bool
 | .tup _ => true
 | _ => false
def strB : D → Bool
 | .str _ => true
 | _ => false
def lstB (S : Sto) : D → Bool
 | .ref a => (zH S a).isSome
 | _ => false
theorem isi_of {k : Kd} {d : D} {S : Sto} {b : Bool} (h : isK k d S = some b) : isiD k d S = ok (.bl b) S := by
 unfold isiD; rw [h]
theorem isK_ref {S : Sto} {a : Nat} (h : Kn S (.ref a)) (k : Kd) : isK k (.ref a) S = some (decide (k = .lst) && (zH S a).isSome) := by
 rcases h with ⟨xs, e⟩ | ⟨kvs, e⟩ <;> cases k <;> simp [isK, e, zH]
theorem isi_int {S : Sto} {d : D} (h : Kn S d) : isiD .int d S = ok (.bl (intB d)) S := by
 cases d with
 | ref a => exact isi_of (isK_ref h .int)
 | exc c => exact h.elim
 | scr c => exact h.elim
 | _ => rfl
theorem isi_bool {S : Sto} {d : D} (h : Kn S d) : isiD .bool d S = ok (.bl (boolB d)) S := by
 cases d with
 | ref a => exact isi_of (isK_ref h .bool)
 | exc c => exact h.elim
 | scr c => exact h.elim
 | _ => rfl
theorem isi_tup {S : Sto} {d : D} (h : Kn S d) : isiD .tup d S = ok (.bl (tupB d)) S := by
 cases d with
 | ref a => exact isi_of (isK_ref h .tup)
 | exc c => exact h.elim
 | scr c => exact h.elim
 | _ => rfl
theorem isi_str {S : Sto} {d : D} (h : Kn S d) : isiD .str d S = ok (.bl (strB d)) S := by
 cases d with
 | ref a => exact isi_of (isK_ref h .str)
 | exc c => exact h.elim
 | scr c => exact h.elim
 | _ => rfl
theorem isi_lst {S : Sto} {d : D} (h : Kn S d) : isiD .lst d S = ok (.bl (lstB S d)) S := by
 cases d with
 | ref a => rw [isi_of (isK_ref h .lst)]; simp [lstB]
 | exc c => exact h.elim
 | scr c => exact h.elim
 | _ => rfl
theorem whole_eq {S : Sto} {d : D} (h : Kn S d) : F.k02_whole [d] S = ok (.bl (wholeB d)) S := by
 refine W_eq ?_
 (unfold F.k02_whole; refine Np.W_fnF rfl ?_; unfold Den.k02_whole; simp_all [])
 simp_all [isi_int h]
 cases d <;> simp only [intB, wholeB] <;> simp_all [isi_bool h, boolB] <;> exact ⟨rfl, trivial⟩
theorem wholeB_int {d : D} (h : wholeB d = true) : ∃ i, d = .int i := by
 cases d <;> first | exact ⟨_, rfl⟩ | cases h
def partsD : D → List D
 | .tup xs => xs
 | _ => []
def Kn2 (S : Sto) (d : D) : Prop := Kn S d ∧ ∀ x ∈ partsD d, Kn S x
theorem Kn2.mono {S S' : Sto} {d : D} (h : Kn2 S d) (l : SLe S S') : Kn2 S' d := ⟨h.1.mono l, fun x hx => (h.2 x hx).mono l⟩
def ratioB : D → Bool
 | .tup [.int a, .int b] => decide (1 ≤ b) && decide (Int.gcd a b = 1)
 | _ => false
theorem ratioB_two {x y : D} (h : (wholeB x && wholeB y) = false) : ratioB (.tup [x, y]) = false := by
 cases x <;> cases y <;> first | rfl | cases h
theorem ratioB_tup {d : D} (h : tupB d = false) : ratioB d = false := by
 cases d <;> first | rfl | cases h
theorem is_ratio_eq {S : Sto} {d : D} (h : Kn2 S d) : F.is_ratio [d] S = ok (.bl (ratioB d)) S := by
 refine W_eq ?_
 (unfold F.is_ratio; refine Np.W_fnF rfl ?_; unfold Den.is_ratio; simp_all [])
 simp_all [isi_tup h.1]
 cases hd : tupB d with
 | false => 
  simp_all []
  exact ⟨by rw [ratioB_tup hd], trivial⟩
 | true =>
  cases d with
  | tup xs =>
   match xs, h with
   | [], _ =>
    simp_all [show decide (((0 : Nat) : Int) = 2) = false from rfl]
    exact ⟨rfl, trivial⟩
   | [x], _ =>
    simp_all [show decide (((1 : Nat) : Int) = 2) = false from rfl]
    exact ⟨by simp [ratioB], trivial⟩
   | [x, y], h =>
    have hx : Kn S x := h.2 x (by simp [partsD])
    have hy : Kn S y := h.2 y (by simp [partsD])
    simp_all [show decide (((2 : Nat) : Int) = 2) = true from rfl, tix0, tix1, whole_eq hx, whole_eq hy]
    cases ex : wholeB x with
    | false =>
     simp_all []
     exact ⟨by rw [ratioB_two (by simp [ex])], trivial⟩
    | true =>
     cases ey : wholeB y with
     | false =>
      simp_all [tix1, whole_eq hy, ey]
      exact ⟨by rw [ratioB_two (by simp [ey])], trivial⟩
     | true =>
      simp_all [tix1, whole_eq hy, ey]
      obtain ⟨a, rfl⟩ := wholeB_int ex
      obtain ⟨b, rfl⟩ := wholeB_int ey
      simp_all [tix0, tix1]
      by_cases h1 : 1 ≤ b
      ·simp_all [h1, tix0, tix1, greatest_common_eq (abs_nonneg a) (show (0 : Int) ≤ b by omega), gcd_abs1]
       refine ⟨?_, trivial⟩
       simp only [ratioB, h1, decide_true, Bool.true_and]
       congr 1
       exact decide_eq_decide.mpr (by omega)
      ·simp_all [h1]
       exact ⟨by simp [ratioB, h1], trivial⟩
   | x :: y :: z :: r, _ =>
    have hl : decide (((r.length + 3 : Nat) : Int) = 2) = false := decide_eq_false (by omega)
    simp_all [lenD_tup, hl]
    exact ⟨by simp [ratioB], trivial⟩
  | _ => cases hd
theorem comp06 {e : DE} {base : DS} {S : Sto} {a : Nat} {xs : List D} {f : D → D} {it : DI} (hit : it base S = ok (.one a) S) (ha : zH S a = some xs) (hl : xs.length ≤ 1000000) (he : ∀ x ∈ xs, e (base ++ [some x]) S = ok (f x) S) :
  compE it 1 (setG base.length) e base S = ok (.ref S.length) (S ++ [.lst (xs.map f)]) :=
 comp_to (zs := xs.map f) _ (tg_one base) hit (Has.one ha) (by rw [len_one ha]; exact hl) (fun _ _ => trivial) (by simp) fun i x z hx hz => by
  obtain ⟨y, hy, rfl⟩ := get_map hz
  rw [hx] at hy
  cases hy
  exact he x (zK hx)
theorem tofD_ref {S : Sto} {a : Nat} {xs : List D} (h : zH S a = some xs) : tofD [.ref a] S = ok (.tup xs) S := by
 show (match zH S a with | some xs => ok (D.tup xs) S | none => none) = _
 rw [h]
theorem W_join {A : DSt} {δ : DS} {c : Bool} {S : Sto} {K : Fl → Sto → Prop} (P : DS → Sto → Prop) (h1 : c = true → W (A δ S) fun fl S' => ∃ δ', fl = .nx δ' ∧ P δ' S') (h2 : c = false → P δ S) (k : ∀ δ' S', P δ' S' → K (.nx δ') S') : W (ifK A nxS δ c S) K := by
 cases c with
 | true =>
  show W (A δ S) K
  refine (h1 rfl).mono ?_
  rintro fl S' ⟨δ', rfl, hp⟩
  exact k δ' S' hp
 | false =>
  show W (nxS δ S) K
  unfold nxS
  rw [W_ok]
  exact k _ _ (h2 rfl)
def Gd (S : Sto) (d : D) : Prop := (Kn S d ∧ ∀ x ∈ partsD d, Kn2 S x) ∧ flat 8 d = true
theorem W_pick {S : Sto} {a : Nat} {xs : List D} {k m : Int} {Q : D → Sto → Prop} (ha : zH S a = some xs) (hk : 0 < k) (hl : (xs.length : Int) = k) (h : ∀ x ∈ xs, Q x S) : W (modD (.int m) (.int k) S) fun x S' => W (ixD (.ref a) x S') Q := by
 rw [modD_int (by omega), W_ok]
 obtain ⟨g1, g2⟩ := fmod_bd m hk
 obtain ⟨j, hj⟩ : ∃ j : Nat, m.fmod k = (j : Int) := ⟨(m.fmod k).toNat, by omega⟩
 rw [hj] at g2 ⊢
 have hj' : j < xs.length := by omega
 have e : xs[j]? = some xs[j] := List.getElem?_eq_getElem hj'
 rw [ixD_ref ha e, W_ok]
 exact h _ (List.getElem_mem hj')
def atomB : D → Bool
 | .non => true
 | .bl _ => true
 | .int _ => true
 | .str _ => true
 | _ => false
def atom1 : D → Bool
 | .tup ys => ys.all atomB
 | d => atomB d
theorem atom_kn {S : Sto} {d : D} (h : atomB d = true) : Kn S d ∧ partsD d = [] ∧ ∀ n, flat n d = true := by
 cases d <;> first | exact ⟨trivial, rfl, fun n => by cases n <;> rfl⟩ | cases h
theorem flats_all {n : Nat} : ∀ {xs : List D}, (∀ x ∈ xs, flat n x = true) → flats n xs = true
 | [], _ => by cases n <;> rfl
 | x :: xs, h => by
  have e : flats n (x :: xs) = (flat n x && flats n xs) := by cases n <;> rfl
  rw [e, h x (by simp), flats_all fun y hy => h y (by simp [hy])]
  rfl
theorem atom1_kn {S : Sto} {d : D} (h : atom1 d = true) : Kn2 S d ∧ ∀ n, flat (n + 1) d = true := by
 cases d with
 | tup ys =>
  have h : ∀ y ∈ ys, atomB y = true := by simpa [atom1, List.all_eq_true] using h
  exact ⟨⟨trivial, fun y hy => (atom_kn (h y hy)).1⟩, fun n => flats_all fun y hy => (atom_kn (S := S) (h y hy)).2.2 n⟩
 | exc c => cases h
 | scr c => cases h
 | ref a => cases h
 | _ => exact ⟨⟨trivial, fun y hy => by cases hy⟩, fun n => rfl⟩
theorem dctN_eq (δ : DS) (S : Sto) : dctN δ S = ok (.ref S.length) (S ++ [.dct []]) := rfl
theorem cut_mem {xs : List D} {lo hi : Option Int} {x : D} (h : x ∈ cutD xs lo hi) : x ∈ xs := List.mem_of_mem_drop (List.mem_of_mem_take h)
theorem cut_len (xs : List D) (lo hi : Option Int) : (cutD xs lo hi).length ≤ xs.length := by unfold cutD; simp; omega
theorem addL {S : Sto} {a b : Nat} {xs ys : List D} (ha : zH S a = some xs) (hb : zH S b = some ys) (hl : xs.length + ys.length ≤ 1000000) : addD (.ref a) (.ref b) S = ok (.ref S.length) (S ++ [.lst (xs ++ ys)]) := by
 show catD (zH S a) (zH S b) S = _
 rw [ha, hb]
 show (if _ then _ else _) = _
 rw [if_pos hl]; rfl
theorem tup0 (S : Sto) : tupD [] S = ok (.tup []) S := rfl
theorem tup1 (x : D) (S : Sto) : tupD [x] S = ok (.tup [x]) S := rfl
end Nm
end
section
namespace Nm
open Np PySem
theorem low_eq {a b : Int} (hb : 0 < b) (S : Sto) : F.k21_low [.int a, .int b] S = ok (ratD (Rat.divInt a b)) S := by
 refine W_eq ?_
 have hn : ¬ b < 0 := by omega
 obtain ⟨c0, c1, c2⟩ := ratio_parts (a := a) (b := b) (by omega) (((Int.gcd b a : Nat) : Int)) (by rw [if_neg hn])
 rw [Int.gcd_comm] at c0 c1 c2
 (unfold F.k21_low; refine Np.W_fnF rfl ?_; unfold Den.k21_low; simp_all [])
 refine W_whileS (fun δ S' => S' = S ∧ ∃ x y, δ = [some (.int a), some (.int b), some (.int x), some (.int y)] ∧ 0 ≤ x ∧ 0 ≤ y ∧ Int.gcd x y = Int.gcd a b) (fun δ _ => match δ with | [_, _, _, some (.int y)] => y.natAbs | _ => 0) ⟨rfl, _, b, rfl, abs_nonneg a, by omega, gcd_abs1 a b⟩ ?_
 rintro δ S' ⟨rfl, x, y, rfl, hx, hy, hg⟩
 simp_all []
 split
 ·rename_i h0
  obtain ⟨h1, h2, h3⟩ := gcd_step (a := x) (b := y) h0 hx
  simp_all [modD_int (show y ≠ 0 by omega)]
  simp only [loopQ]
  refine ⟨⟨trivial, y, x.fmod y, rfl, hy, h1, by rw [h3, hg]⟩, by omega⟩
 ·rename_i h0
  have hy0 : y = 0 := by omega
  subst hy0
  have hxg : x = ((Int.gcd a b : Nat) : Int) := by rw [← hg]; simp; omega
  subst hxg
  simp_all [fdivD_int c0]
  simp only [c1, c2, ratD, and_self]
theorem great21_eq (c : Int) (S : Sto) : ∃ v : Int, F.k21_great [.int c] S = ok (.int v) S := by
 have h1 : ((10 : Int) ^ 60).natAbs.log2 + ((10 : Int) ^ 24).natAbs.log2 ≤ 100000000 := by decide +kernel
 obtain ⟨g1, g2⟩ := fmod_bd c (show (0 : Int) < 10 ^ 60 by decide +kernel)
 have h2 : (c.fmod (10 ^ 60) + 41).natAbs.log2 + ((23 : Int) ^ 64).natAbs.log2 ≤ 100000000 := by
  have l1 : ((23 : Int) ^ 64).natAbs.log2 ≤ 300 := by decide +kernel
  have l2 : (c.fmod (10 ^ 60) + 41).natAbs.log2 ≤ 201 := by
   have e : (2 : Int) ^ 200 ≥ 10 ^ 60 := by decide +kernel
   refine log2_le ?_
   have e2 : ((2 : Nat) ^ 201 : Int) = 2 * 2 ^ 200 := by decide +kernel
   have e3 : (41 : Int) ≤ 2 ^ 200 := by decide +kernel
   have : ((c.fmod (10 ^ 60) + 41).natAbs : Int) < ((2 ^ 201 : Nat) : Int) := by
    rw [Int.natAbs_of_nonneg (by omega)]
    rw [Int.natCast_pow]
    show _ < ((2 : Nat) ^ 201 : Int)
    rw [e2]
    omega
   omega
  omega
 refine ⟨((c.fmod (10 ^ 60) + 41) * 23 ^ 64).fmod (10 ^ 60 * 10 ^ 24), W_eq ?_⟩
 (unfold F.k21_great; refine Np.W_fnF rfl ?_; unfold Den.k21_great; simp_all [])
 have q60 : powD (.int 10) (.int 60) = fun S => ok (.int (10 ^ 60)) S := by funext S; exact p10_60 S
 have q24 : ∀ S, powD (.int 10) (.int 24) S = ok (.int (10 ^ 24)) S := fun S => powD_ok (by decide) S
 have q23 : ∀ S, powD (.int 23) (.int 64) S = ok (.int (23 ^ 64)) S := fun S => powD_ok (by decide) S
 simp_all [p10_60, q24, q23, mulD_int h1, modD_int (show (10 : Int) ^ 60 ≠ 0 by decide +kernel), mulD_int h2, modD_int (show (10 : Int) ^ 60 * 10 ^ 24 ≠ 0 by decide +kernel)]
theorem dvm_eq {i j : Int} (h : j ≠ 0) (S : Sto) : dvmD [.int i, .int j] S = ok (.tup [.int (i.fdiv j), .int (i.fmod j)]) S := by
 show (if _ then _ else _) = _
 rw [if_neg h]
theorem tupG2 (a b : DG) (x y : D) (δ : DS) (S : Sto) : tupG [a, b] (.tup [x, y]) δ S = tupGs [a, b] [x, y] δ S := rfl
theorem ratio21_w (n : Int) (S : Sto) : W (F.k21_ratio [.int n] S) fun d S' => SLe S S' ∧ ∃ (v : Int) (q : Rat), Le 70 q ∧ d = .tup [.int v, ratD q] := by
 (unfold F.k21_ratio; refine Np.W_fnF rfl ?_; unfold Den.k21_ratio; simp_all [])
 have m2 : ((5 : Int)).natAbs.log2 + ((10 : Int) ^ 19).natAbs.log2 ≤ 100000000 := by decide +kernel
 have q19 : ∀ S, powD (.int 10) (.int 19) S = ok (.int (10 ^ 19)) S := fun S => powD_ok (by decide) S
 have h70 : (2 : Nat) ^ 70 = 1180591620717411303424 := by decide
 simp_all [Np.W_ifK, Np.W_ifEK, Np.W_andTK, Np.W_orTK, Np.W_andVB, Np.W_orVB, Np.W_chnB, dvm_eq (show (8 : Int) ≠ 0 by decide), dvm_eq (show (19 : Int) ≠ 0 by decide), tupG2, p10_20, q19, mulD_int m2, fdivD_int (show (1000 : Int) ≠ 0 by decide), modD_int (show (10 : Int) ^ 20 ≠ 0 by decide), lstD_eq (show [D.int 1, D.int 1, D.int 1, D.int 2, D.int 3, D.int 4, D.int 6, D.int 12].length ≤ 1000 by decide)]
 split
 ·obtain ⟨h1, h2⟩ := fmod_bd ((n.fdiv 8).fdiv 19) (show (0 : Int) < 10 ^ 20 by decide)
  refine ⟨SLe.rfl, _, (((n.fdiv 8).fdiv 19).fmod (10 ^ 20) - 5 * 10 ^ 19 : Int), ⟨?_, by show (1 : Nat) < _; omega⟩, rfl⟩
  show (((n.fdiv 8).fdiv 19).fmod (10 ^ 20) - 5 * 10 ^ 19).natAbs < _
  omega
 ·obtain ⟨h1, h2⟩ := fmod_bd n (show (0 : Int) < 8 by decide)
  obtain ⟨h3, h4⟩ := fmod_bd (n.fdiv 8) (show (0 : Int) < 19 by decide)
  obtain ⟨c, c1, c2, c3⟩ := eight _ h1 h2 (lstAt_push S _)
  simp_all [c3, low_eq (show (0 : Int) < c by omega)]
  exact ⟨SLe.app _, _, _, Le.divInt' (by omega) (by omega) (by omega), rfl⟩
theorem row21_w (n : Int) {k : Nat} (hk : k < 1000) (S : Sto) : W (F.k21_row [.int n, .int (k : Int)] S) fun d S' => ∃ c xs, d = .ref c ∧ S.length ≤ c ∧ SLe S S' ∧ RowA S' c xs ∧ xs.length = k ∧ ∀ x ∈ xs, Le 70 x := by
 (unfold F.k21_row; refine Np.W_fnF rfl ?_; unfold Den.k21_row; simp_all [])
 refine W_new (lstD_eq (by simp) _) fun S1 c l1 n1 r1 => ?_
 simp_all [rng1D_nat (show k < 1000000 by omega), intsD_zero]
 refine W_forK ((List.range k).map fun i => D.int (i : Nat)) (fun i δ S' => SLe S S' ∧ (∃ xs, RowA S' c xs ∧ xs.length = i ∧ ∀ x ∈ xs, Le 70 x) ∧ ∃ (v : Int) (o3 o4 : Option D), δ = [some (.int v), some (.int (k : Int)), some (.ref c), o3, o4]) (Nat.le_refl _)
  ⟨l1, ⟨[], r1, rfl, fun _ h => (by cases h)⟩, _, _, _, rfl⟩ (fun i δ S' _ => rfl) ?_ ?_
 ·rintro i x δ S2 hx ⟨L, ⟨xs, rc, hxl, hxs⟩, v, o3, o4, rfl⟩
  obtain ⟨rfl, hi⟩ := range_map_get hx
  simp_all []
  refine (ratio21_w v S2).mono ?_
  rintro d S3 ⟨l3, v', q, hq, rfl⟩
  simp_all [tupG2, opMK_ref (l3.lst rc)]
  refine W_app (l3.lst rc) (by simp; omega) fun S4 _ k4 _ r4 => ?_
  refine ⟨k4 _ (L.trans l3) n1, ⟨xs ++ [q], by show zH S4 c = _; rw [r4]; simp, by simp [hxl], fun x hx => ?_⟩, _, _, _, rfl⟩
  rcases List.mem_append.mp hx with h | h
  ·exact hxs x h
  ·rw [List.mem_singleton.mp h]; exact hq
 ·rintro δ S2 ⟨L, ⟨xs, rc, hxl, hxs⟩, v, o3, o4, rfl⟩
  simp_all []
  exact ⟨c, xs, rfl, n1, L, rc, by simpa using hxl, hxs⟩
theorem plus21_eq {p q : Rat} (hp : sm p) (hq : sm q) (S : Sto) : F.k21_plus [ratD p, ratD q] S = ok (ratD (p + q)) S := by
 refine W_eq ?_
 (unfold F.k21_plus; refine Np.W_fnF rfl ?_; unfold Den.k21_plus; simp_all [])
 simp_all [mulD_int (hp.nd hq), mulD_int (hq.nd hp), mulD_int (hp.dd hq), low_eq (show (0 : Int) < p.den * q.den from Int.mul_pos (den_pos' p) (den_pos' q)), ← add_divInt]
theorem times21_eq {p q : Rat} (hp : sm p) (hq : sm q) (S : Sto) : F.k21_times [ratD p, ratD q] S = ok (ratD (p * q)) S := by
 refine W_eq ?_
 (unfold F.k21_times; refine Np.W_fnF rfl ?_; unfold Den.k21_times; simp_all [])
 simp_all [mulD_int (hp.nn hq), mulD_int (hp.dd hq), low_eq (show (0 : Int) < p.den * q.den from Int.mul_pos (den_pos' p) (den_pos' q)), ← mul_divInt]
theorem table21_w {S : Sto} {a n : Nat} {ms : List Int} (ha : zH S a = some (ms.map D.int)) (hm : ms.length < 1000) (hn : n < 1000) :
  W (F.k21_table [.ref a, .int (n : Int), .bl false] S) fun d S' => ∃ c cs T, d = .ref c ∧ SLe S S' ∧ FT S.length S' c cs T ∧ T.length = ms.length ∧ Wide T n ∧ LeT 70 T := by
 (unfold F.k21_table; refine Np.W_fnF rfl ?_; unfold Den.k21_table; simp_all [])
 refine W_new (lstD_eq (by simp) _) fun S1 c l1 n1 r1 => ?_
 simp_all [lenD_ref (l1.lst ha), List.length_map, rng1D_nat (show ms.length < 1000000 by omega), intsD_zero]
 refine W_forK ((List.range ms.length).map fun i => D.int (i : Nat)) (fun i δ S' => SLe S S' ∧ (∃ cs T, FT S.length S' c cs T ∧ T.length = i ∧ Wide T n ∧ LeT 70 T) ∧ ∃ o4 o5 o6 o7, δ = [some (.ref a), some (.int (n : Int)), some (.bl false), some (.ref c), o4, o5, o6, o7]) (Nat.le_refl _)
  ⟨l1, ⟨[], [], FT.nil r1 n1, rfl, fun _ h => (by cases h), fun _ h => (by cases h)⟩, _, _, _, _, rfl⟩ (fun i δ S' _ => rfl) ?_ ?_
 ·rintro i x δ S2 hx ⟨L, ⟨cs, T, ft, hTl, hw, hT⟩, o4, o5, o6, o7, rfl⟩
  obtain ⟨rfl, hi⟩ := range_map_get hx
  obtain ⟨z, hz⟩ := zQ (xs := ms) (i := i) hi
  obtain ⟨v, hv⟩ := great21_eq z S2
  simp_all [ixD_ref (L.lst ha) (map_get D.int hz), hv, fdivD_int (show (9 : Int) ≠ 0 by decide)]
  refine (row21_w (v.fdiv 9) hn S2).mono ?_
  rintro d S3 ⟨b, xs, rfl, n3, l3, r3, hxl, hxs⟩
  simp_all [opMK_ref (l3.lst ft.tab.1)]
  have hbc : b ≠ c := by have := lstAt_lt ft.tab.1; omega
  refine W_app (l3.lst ft.tab.1) (by simp [ft.tab.2.1]; omega) fun S4 _ k4 kne r4 => ?_
  refine ⟨k4 _ (L.trans l3) ft.nc, ⟨cs ++ [b], T ++ [xs], (ft.le l3).snoc r3 (by have := L.len; omega) (fun x hx => by have := ft.lt x hx; omega) hbc kne r4, by simp [hTl], fun r hr => ?_, fun r hr => ?_⟩, _, _, _, _, rfl⟩
  ·rcases List.mem_append.mp hr with h | h
   ·exact hw r h
   ·rw [List.mem_singleton.mp h]; exact hxl
  ·rcases List.mem_append.mp hr with h | h
   ·exact hT r h
   ·rw [List.mem_singleton.mp h]; exact hxs
 ·rintro δ S2 ⟨L, ⟨cs, T, ft, hTl, hw, hT⟩, o4, o5, o6, o7, rfl⟩
  rw [List.length_map, List.length_range] at hTl
  simp_all []
  exact ⟨c, cs, T, rfl, L, ft, hTl, hw, hT⟩
theorem maxD_one (j : Nat) (S : Sto) : maxD [.int 1, .int (j : Int)] S = ok (.int ((max 1 j : Nat) : Int)) S := maxD_nat 1 j S
theorem tup3 (x y z : D) (S : Sto) : tupD [x, y, z] S = ok (.tup [x, y, z]) S := rfl
theorem tup4 (x y z w : D) (S : Sto) : tupD [x, y, z, w] S = ok (.tup [x, y, z, w]) S := rfl
theorem deed21_w (v : Int) {m : Nat} (hm : 0 < m) (S : Sto) : W (F.k21_deed [.int v, .int (m : Int)] S) fun e S' => SLe S S' ∧ ∃ d : Deed, e = d.d ∧ d.Ok m ∧ d.le 70 := by
 (unfold F.k21_deed; refine Np.W_fnF rfl ?_; unfold Den.k21_deed; simp_all [])
 have hm0 : (m : Int) ≠ 0 := by omega
 obtain ⟨i, hi, hi2⟩ := natOf (v.fdiv 3) (k := (m : Int)) (by omega)
 have e1 : (m : Int) - 1 = ((m - 1 : Nat) : Int) := by omega
 have hmx : ((max 1 (m - 1) : Nat) : Int) ≠ 0 := by omega
 obtain ⟨j, hj, hj2⟩ := natOf ((v.fdiv 3).fdiv (m : Int)) (k := ((max 1 (m - 1) : Nat) : Int)) (by omega)
 obtain ⟨w, hw, hw2⟩ := natOf v (k := 3) (by decide)
 simp_all [dvm_eq (show (3 : Int) ≠ 0 by decide), dvm_eq hm0, tupG2, e1, maxD_one, dvm_eq hmx, hi, hj, hw]
 by_cases hij : (i : Int) ≤ (j : Int)
 ·simp_all [hij, show (j : Int) + 1 = ((j + 1 : Nat) : Int) from rfl]
  refine (ratio21_w _ S).mono ?_
  rintro d S2 ⟨l2, v', q, hq, rfl⟩
  simp_all [tix1]
  by_cases hm1 : (m : Int) = 1
  ·simp_all [hm1, Int.reduceEq]
   by_cases hq0 : q = 0
   ·simp_all [hq0, negD_int, tup3]
    exact ⟨l2, .scale i (mkRat (-1) 7), rfl, ⟨by omega, by decide⟩, ⟨by decide, by decide⟩⟩
   ·simp_all [hq0, tup3]
    exact ⟨l2, .scale i q, rfl, ⟨by omega, hq0⟩, hq⟩
  ·simp_all [hm1]
   by_cases hw0 : (w : Int) = 0
   ·simp_all [hw0, tup3]
    exact ⟨l2, .swap i (j + 1), rfl, ⟨by omega, by omega, by omega⟩, trivial⟩
   ·simp_all [hw0]
    by_cases hw2' : (w : Int) = 2
    ·simp_all [hw2', tup4]
     exact ⟨l2, .add i (j + 1) q, rfl, ⟨by omega, by omega, by omega⟩, hq⟩
    ·simp_all [hw2']
     by_cases hq0 : q = 0
     ·simp_all [hq0, negD_int, tup3]
      exact ⟨l2, .scale i (mkRat (-1) 7), rfl, ⟨by omega, by decide⟩, ⟨by decide, by decide⟩⟩
     ·simp_all [hq0, tup3]
      exact ⟨l2, .scale i q, rfl, ⟨by omega, hq0⟩, hq⟩
 ·simp_all [hij]
  refine (ratio21_w _ S).mono ?_
  rintro d S2 ⟨l2, v', q, hq, rfl⟩
  simp_all [tix1]
  by_cases hm1 : (m : Int) = 1
  ·omega
  ·simp_all [hm1]
   by_cases hw0 : (w : Int) = 0
   ·simp_all [hw0, tup3]
    exact ⟨l2, .swap i j, rfl, ⟨by omega, by omega, by omega⟩, trivial⟩
   ·simp_all [hw0]
    by_cases hw2' : (w : Int) = 2
    ·simp_all [hw2', tup4]
     exact ⟨l2, .add i j q, rfl, ⟨by omega, by omega, by omega⟩, hq⟩
    ·simp_all [hw2']
     by_cases hq0 : q = 0
     ·simp_all [hq0, negD_int, tup3]
      exact ⟨l2, .scale i (mkRat (-1) 7), rfl, ⟨by omega, by decide⟩, ⟨by decide, by decide⟩⟩
     ·simp_all [hq0, tup3]
      exact ⟨l2, .scale i q, rfl, ⟨by omega, hq0⟩, hq⟩
theorem FT.put {n : Nat} {S S' : Sto} {c b i : Nat} {cs : List Nat} {U : List (List Rat)} {r : List Rat} (h : FT n S c cs U) (hb : RowA S b r) (hn : n ≤ b) (hbt : b ∉ cs) (hbc : b ≠ c) (k1 : ∀ a, a ≠ c → zH S' a = zH S a) (k2 : zH S' c = some ((cs.map D.ref).set i (.ref b))) : FT n S' c (cs.set i b) (U.set i r) := by
 rw [map_set_ref] at k2
 refine ⟨⟨k2, by simp [h.tab.2.1], TabR.set (S' := S') (c := c) h.tab.2.1 (fun p x u h1 h2 => ?_) ?_⟩, fun x hx => ?_, nodup_set h.inc hbt, fun x hx => ?_, h.nc⟩
 ·show zH S' x = _
  rw [k1 x (h.ne x (zK h1))]
  exact h.tab.2.2 p x u h1 h2
 ·show zH S' b = _
  rw [k1 b hbc]
  exact hb
 ·rcases List.mem_or_eq_of_mem_set hx with z | z
  ·exact h.lo x z
  ·rw [z]; exact hn
 ·rcases List.mem_or_eq_of_mem_set hx with z | z
  ·exact h.ne x z
  ·rw [z]; exact hbc
theorem FT.swap {n : Nat} {S S' : Sto} {c i j bi bj : Nat} {cs : List Nat} {U : List (List Rat)} {ri rj : List Rat} (h : FT n S c cs U) (hbi : cs[i]? = some bi) (hbj : cs[j]? = some bj) (hri : U[i]? = some ri) (hrj : U[j]? = some rj) (k1 : ∀ a, a ≠ c → zH S' a = zH S a) (k2 : zH S' c = some (((cs.map D.ref).set i (.ref bj)).set j (.ref bi))) :
  FT n S' c ((cs.set i bj).set j bi) ((U.set i rj).set j ri) := by
 rw [map_set_ref, map_set_ref] at k2
 have key : ∀ x u, RowA S x u → x ∈ cs → RowA S' x u := fun x u hx hm => by
  show zH S' x = _
  rw [k1 x (h.ne x hm)]
  exact hx
 have row1 := h.tab.2.2 i bi ri hbi hri
 have row2 := h.tab.2.2 j bj rj hbj hrj
 refine ⟨⟨k2, by simp [h.tab.2.1], fun p x u h1 h2 => ?_⟩, fun x hx => ?_, nodup_swap h.inc hbi hbj, fun x hx => ?_, h.nc⟩
 ·rcases swap_get hbi hbj h1 with ⟨e0, e5⟩ | ⟨p1, e0, e5⟩ | ⟨p1, p2, h1⟩ <;> rcases swap_get hri hrj h2 with ⟨e1, e2⟩ | ⟨q1, e1, e2⟩ | ⟨q1, q2, h2⟩
  ·rw [e5, e2]; exact key _ _ row1 (zK hbi)
  ·exact absurd e0 q1
  ·exact absurd e0 q1
  ·exact absurd e1 p1
  ·rw [e5, e2]; exact key _ _ row2 (zK hbj)
  ·exact absurd e0 q2
  ·exact absurd e1 p1
  ·exact absurd e1 p2
  ·exact key _ _ (h.tab.2.2 p x u h1 h2) (zK h1)
 ·rcases List.mem_or_eq_of_mem_set hx with z | z
  ·rcases List.mem_or_eq_of_mem_set z with z | z
   ·exact h.lo x z
   ·rw [z]; exact h.lo _ (zK hbj)
  ·rw [z]; exact h.lo _ (zK hbi)
 ·rcases List.mem_or_eq_of_mem_set hx with z | z
  ·rcases List.mem_or_eq_of_mem_set z with z | z
   ·exact h.ne x z
   ·rw [z]; exact h.ne _ (zK hbj)
  ·rw [z]; exact h.ne _ (zK hbi)
theorem zip_scl (q : Rat) : ∀ xs ys : List Rat, List.zipWith (fun x y => x + y * q) xs ys = addR xs (sclR ys q)
 | [], _ => rfl
 | _ :: _, [] => rfl
 | x :: xs, y :: ys => by
  have := zip_scl q xs ys
  simp only [addR, sclR, List.map_cons, List.zipWith_cons_cons] at this ⊢
  rw [this]
theorem done21_w {S : Sto} {t b k N : Nat} {ts : List Nat} {T : List (List Rat)} {ds : List Deed} (ht : TabR S t ts T) (hb : zH S b = some (ds.map Deed.d)) (hd : ∀ d ∈ ds, d.Ok T.length) (hw : Wide T k) (hk : k ≤ 1000000) (hm : T.length ≤ 1000000) (hT : ∀ i, i ≤ ds.length → LeT N (doneR T (ds.take i))) (hq : ∀ d ∈ ds, d.le N) (hN : N ≤ 20000000) :
  W (F.k21_done [.ref t, .ref b] S) fun e S' => ∃ c cs, e = .ref c ∧ SLe S S' ∧ FT S.length S' c cs (doneR T ds) := by
 (unfold F.k21_done; refine Np.W_fnF rfl ?_; unfold Den.k21_done; simp_all [])
 refine copy_tab (base := [_, _, _, _, _, _]) ht hm (by simp only [Np.itA, Np.itE, Np.yF, Np.aConsK, Np.aNil, Np.consK, Np.vr, Np.cst, List.getElem?_cons_zero, List.getElem?_cons_succ, Np.bnd_ok]; exact itL_ref ht.1) (fun b S' => rfl) fun S2 c cs0 L f2 => ?_
 simp_all [itL_ref (L.lst hb)]
 refine W_forK (ds.map Deed.d) (fun i δ S' => SLe S S' ∧ ∃ cs o3 o4 o5, δ = [some (.ref t), some (.ref b), some (.ref c), o3, o4, o5] ∧ FT S.length S' c cs (doneR T (ds.take i))) (by rw [len_one (L.lst hb)]; exact Nat.le_refl _) ⟨L, cs0, _, _, _, rfl, f2⟩ (fun i δ S' h => get_one (h.1.lst hb) i) ?_ ?_
 ·rintro p x δ S3 hx ⟨L3, cs, o3, o4, o5, rfl, f⟩
  obtain ⟨d, hdi, rfl⟩ := get_map hx
  have hp : p < ds.length := (List.getElem?_eq_some_iff.mp hdi).1
  have hok := hd d (zK hdi)
  have hle := hq d (zK hdi)
  have hTp := hT p (by omega)
  have hwp : Wide (doneR T (ds.take p)) k := doneR_wide rfl hw fun x hx => hd x (List.mem_of_mem_take hx)
  have hln : (doneR T (ds.take p)).length = T.length := doneR_length T _
  have htake := doneR_take (T := T) hdi
  rw [htake]
  obtain ⟨U, hU⟩ : ∃ U, U = doneR T (ds.take p) := ⟨_, rfl⟩
  rw [← hU] at f hTp hwp hln htake ⊢
  have hcl : cs.length = U.length := f.tab.2.1
  cases d with
  | swap i j =>
   obtain ⟨hi, hj, hij⟩ := hok
   obtain ⟨bi, hbi⟩ := zQ (xs := cs) (i := i) (by omega)
   obtain ⟨bj, hbj⟩ := zQ (xs := cs) (i := j) (by omega)
   obtain ⟨ri, hri⟩ := zQ (xs := U) (i := i) (by omega)
   obtain ⟨rj, hrj⟩ := zQ (xs := U) (i := j) (by omega)
   simp_all [Deed.d, tix0, tix1, tix2, str_ss, str_sc, str_sa, ixD_ref f.tab.1 (map_get D.ref hbj), ixD_ref f.tab.1 (map_get D.ref hbi), setXG, setXK]
   refine W_setX f.tab.1 (by simp; omega) fun S4 _ k4 kne4 r4 => ?_
   simp_all [Deed.d, tix0, tix1, tix2, str_ss, str_sc, str_sa, setXG, setXK]
   refine W_setX r4 (by simp; omega) fun S5 _ k5 kne5 r5 => ?_
   simp_all [Deed.d, tix0, tix1, tix2, str_ss, str_sc, str_sa]
   refine ⟨k5 _ (k4 _ L3 f.nc) f.nc, (cs.set i bj).set j bi, _, _, _, rfl, ?_⟩
   simp only [doD, yB hri, yB hrj]
   exact f.swap hbi hbj hri hrj (fun a ha => (kne5 a ha).trans (kne4 a ha)) r5
  | scale i q =>
   obtain ⟨hi, hq0⟩ := hok
   obtain ⟨bi, hbi⟩ := zQ (xs := cs) (i := i) (by omega)
   obtain ⟨ri, hri⟩ := zQ (xs := U) (i := i) (by omega)
   have row1 := f.tab.2.2 i bi ri hbi hri
   have hle : Le N q := hle
   simp_all [Deed.d, tix0, tix1, tix2, str_cs, str_cc, str_ca]
   refine W_new (comp_row (base := [_, _, _, _, _, _]) (g := fun x => ratD (x * q)) (a := bi) (xs := ri) ?_ row1 (by rw [hwp ri (zK hri)]; exact hk) fun x hx => ?_) fun S4 b4 l4 n4 r4 => ?_
   ·simp only [itE, op2, op2K, vr, List.getElem?_cons_zero, List.getElem?_cons_succ, bnd_ok, ixD_ref f.tab.1 (map_get D.ref hbi)]
    exact itL_ref row1
   ·refine W_eq ?_
    simp_all [tix2, times21_eq ((hTp ri (zK hri) x hx).sm (by omega)) (hle.sm (by omega))]
   replace r4 := RowA.mapf r4
   simp_all [setXG, setXK]
   refine W_setX (l4.lst f.tab.1) (by simp; omega) fun S5 _ k5 kne5 r5 => ?_
   simp_all [Deed.d, tix0, tix1, tix2, str_cs, str_cc, str_ca]
   refine ⟨k5 _ (L3.trans l4) f.nc, cs.set i b4, _, _, _, rfl, ?_⟩
   simp only [doD, yB hri]
   exact (f.le l4).put r4 (by have := L3.len; omega) (fun z => by have := f.lt b4 z; omega) (by have := lstAt_lt f.tab.1; omega) kne5 r5
  | add i j q =>
   obtain ⟨hi, hj, hij⟩ := hok
   obtain ⟨bi, hbi⟩ := zQ (xs := cs) (i := i) (by omega)
   obtain ⟨bj, hbj⟩ := zQ (xs := cs) (i := j) (by omega)
   obtain ⟨ri, hri⟩ := zQ (xs := U) (i := i) (by omega)
   obtain ⟨rj, hrj⟩ := zQ (xs := U) (i := j) (by omega)
   have row1 := f.tab.2.2 i bi ri hbi hri
   have row2 := f.tab.2.2 j bj rj hbj hrj
   have hle : Le N q := hle
   simp_all [Deed.d, tix0, tix1, tix2, str_as, str_ac, str_aa]
   refine W_new (comp_to (base := [_, _, _, _, _, _]) _ (tg_two [_, _, _, _, _, _]) (src := .two bi bj) (xs := pairs (ri.map ratD) (rj.map ratD)) (zs := (List.zipWith (fun x y => x + y * q) ri rj).map ratD) ?_ (Has.two row1 row2) (by rw [len_two row1, List.length_map, hwp ri (zK hri)]; exact hk) (fun x hx => mem_pairs hx) (by simp [pairs]) fun p' x z hx hz => ?_) fun S4 b4 l4 n4 r4 => ?_
   ·simp only [itA, yF, aConsK, aNil, consK, op2, op2K, cst, vr, List.getElem?_cons_zero, List.getElem?_cons_succ, bnd_ok, tix2, ixD_ref f.tab.1 (map_get D.ref hbi), ixD_ref f.tab.1 (map_get D.ref hbj)]
    exact zip2D_ref row1 row2
   ·obtain ⟨x1, x2, h1, h2, rfl⟩ := get_zipWith hx
    obtain ⟨y1, hy1, rfl⟩ := get_map h1
    obtain ⟨y2, hy2, rfl⟩ := get_map h2
    obtain ⟨z', hz', rfl⟩ := get_map hz
    obtain ⟨u1, u2, g1, g2, rfl⟩ := get_zipWith hz'
    rw [hy1] at g1
    rw [hy2] at g2
    cases g1
    cases g2
    have m1 := hTp ri (zK hri) y1 (zK hy1)
    have m2 := hTp rj (zK hrj) y2 (zK hy2)
    refine W_eq ?_
    simp_all [pr1, pr2, tix3, times21_eq (m2.sm (by omega)) (hle.sm (by omega)), plus21_eq (m1.sm (by omega)) ((m2.mul hle).sm (by omega))]
   rw [zip_scl] at r4
   simp_all [setXG, setXK]
   refine W_setX (l4.lst f.tab.1) (by simp; omega) fun S5 _ k5 kne5 r5 => ?_
   refine ⟨k5 _ (L3.trans l4) f.nc, cs.set i b4, _, _, _, rfl, ?_⟩
   simp only [doD, yB hri, yB hrj]
   exact (f.le l4).put r4 (by have := L3.len; omega) (fun z => by have := f.lt b4 z; omega) (by have := lstAt_lt f.tab.1; omega) kne5 r5
 ·rintro δ S3 ⟨L3, cs, o3, o4, o5, rfl, f⟩
  simp_all []
  rw [List.length_map, List.take_length] at f
  exact ⟨c, cs, rfl, L3, f⟩
end Nm
end
section
namespace Nm
open Np PySem
def Deed.back : Deed → Deed
 | .swap i j => .swap i j
 | .scale i q => .scale i (1 / q)
 | .add i j q => .add i j (0 - q)
def Deed.t : Deed → T
 | .swap i j => .tup [.str "swap", .int (i : Int), .int (j : Int)]
 | .scale i q => .tup [.str "scale", .int (i : Int), ratT q]
 | .add i j q => .tup [.str "add", .int (i : Int), .int (j : Int), ratT q]
end Nm
end
section
namespace Nm
open Np PySem
theorem deeds21_w {S : Sto} {a m : Nat} {ms : List Int} {it : DI} {base : DS} {Q : D → Sto → Prop} (e : DE) (hm : 0 < m) (hl : ms.length ≤ 1000) (hit : W (it base S) fun src S' => ms.length ≤ src.len S' ∧ src.len S' ≤ 1000000 ∧ SLe S S' ∧ ∀ i S'', SLe S' S'' → src.get S'' i = some (ms.map D.int)[i]?)
  (he : ∀ z S' Q, W (F.k21_great [.int z] S') (fun d S'' => W (F.k21_deed [d, .int (m : Int)] S'') Q) → W (e (base ++ [some (.int z)]) S') Q)
  (fin : ∀ (ds : List Deed) S' b, SLe S S' → S.length ≤ b → ds.length = ms.length → (∀ d ∈ ds, d.Ok m ∧ d.le 70) → zH S' b = some (ds.map Deed.d) → Q (.ref b) S') : W (compE it 1 (setG base.length) e base S) Q := by
 refine W_compX _ (ms.map D.int) (fun _ x => ∃ d : Deed, x = d.d ∧ d.Ok m ∧ d.le 70) _ (tg_one base) (fun _ _ => trivial) ?_ ?_ ?_
 ·exact hit.mono fun src S' h => by simpa using h
 ·intro x S' hx hS
  obtain ⟨z, hz', rfl⟩ := List.mem_map.mp hx
  refine he z S' _ ?_
  obtain ⟨v, hv⟩ := great21_eq z S'
  rw [hv, W_ok]
  exact (deed21_w v hm S').mono fun d S'' ⟨h1, h2⟩ => ⟨h2, h1⟩
 ·intro xs S' hS hxl hr
  have h : ∃ ds : List Deed, xs = ds.map Deed.d ∧ ∀ d ∈ ds, d.Ok m ∧ d.le 70 := by
   have : ∀ x ∈ xs, ∃ d : Deed, x = d.d ∧ d.Ok m ∧ d.le 70 := fun x hm => by
    obtain ⟨i, hi, rfl⟩ := List.getElem_of_mem hm
    exact hr i ((ms.map D.int)[i]'(by omega)) _ (by simp) (by simp [hi])
   clear hr hxl
   induction xs with
   | nil => exact ⟨[], rfl, fun _ h => by cases h⟩
   | cons x xs ih =>
    obtain ⟨d, rfl, hd⟩ := this x (.head _)
    obtain ⟨ds, rfl, hds⟩ := ih fun y hy => this y (.tail _ hy)
    exact ⟨d :: ds, rfl, fun y hy => by
     rcases List.mem_cons.mp hy with rfl | hy
     ·exact hd
     ·exact hds y hy⟩
  obtain ⟨ds, rfl, hd⟩ := h
  exact fin ds _ _ (hS.push _) hS.len (by simpa using hxl) hd (lstAt_push S' _)
theorem cells_w {ns : List Int} (hs : Scr ns) {S : Sto} {m : Nat} {as : DA} {base : DS} {Q : D → Sto → Prop} (e : DE) (hm : m < 1000) (has : as base S = ok [.int (m : Int)] S) (he : ∀ i S' Q, W (F.k11_cell_at [.scr (ns.map D.int), .int ((2 + i : Nat) : Int)] S') Q → W (e (base ++ [some (.int (i : Nat))]) S') Q)
  (fin : ∀ (ms : List Int) S' b, SLe S S' → S.length ≤ b → ms.length = m → zH S' b = some (ms.map D.int) → Q (.ref b) S') : W (compE (itA rng1D as) 1 (setG base.length) e base S) Q := by
 refine W_compX _ ((List.range m).map fun i => D.int (i : Nat)) (fun _ x => ∃ c : Int, x = .int c) _ (tg_one base) (fun _ _ => trivial) ?_ ?_ ?_
 ·rw [it_rng1 has (by omega), intsD_zero, W_ok]
  exact ⟨Nat.le_refl _, by show List.length _ ≤ _; simp; omega, SLe.rfl, fun i S'' _ => rfl⟩
 ·intro x S' hx hS
  obtain ⟨i, hi, rfl⟩ := List.mem_map.mp hx
  refine he i S' _ ?_
  obtain ⟨c, _, hc⟩ := cell_at_scr ns (2 + i) S'
  rw [hc, W_ok]
  exact ⟨⟨c, rfl⟩, SLe.rfl⟩
 ·intro xs S' hS hxl hr
  have h : ∃ ms : List Int, xs = ms.map D.int := by
   have : ∀ x ∈ xs, ∃ c : Int, x = .int c := fun x hm => by
    obtain ⟨i, hi, rfl⟩ := List.getElem_of_mem hm
    exact hr i (((List.range m).map fun i => D.int (i : Nat))[i]'(by omega)) _ (List.getElem?_eq_getElem _) (by simp [hi])
   clear hr hxl
   induction xs with
   | nil => exact ⟨[], rfl⟩
   | cons x xs ih =>
    obtain ⟨c, rfl⟩ := this x (.head _)
    obtain ⟨ms, rfl⟩ := ih fun y hy => this y (.tail _ hy)
    exact ⟨c :: ms, rfl⟩
  obtain ⟨ms, rfl⟩ := h
  exact fin ms _ _ (hS.push _) hS.len (by simpa using hxl) (lstAt_push S' _)
theorem Deed.le.mono {m n : Nat} {d : Deed} (h : d.le m) (k : m ≤ n) : d.le n := by
 cases d with
 | swap i j => trivial
 | scale i q => exact Le.mono (r := q) h k
 | add i j q => exact Le.mono (r := q) h k
end Nm
end
section
namespace Nm
open Np PySem
theorem cps_swap : ("swap" : Str).cps.all (· < 0x110000) = true := by decide +kernel
theorem cps_scale : ("scale" : Str).cps.all (· < 0x110000) = true := by decide +kernel
theorem cps_add : ("add" : Str).cps.all (· < 0x110000) = true := by decide +kernel
def rowNumB (m : Nat) : D → Bool
 | .int i => decide (0 ≤ i) && decide (i < (m : Int))
 | _ => false
def unlikeB (m : Nat) (x y : D) : Bool := rowNumB m x && (rowNumB m y && (match x, y with
 | .int i, .int j => !decide (i = j)
 | _, _ => false))
theorem row_num_gen {S : Sto} {x : D} {m : Nat} (h : Kn S x) : F.is_row_number [x, .int (m : Int)] S = ok (.bl (rowNumB m x)) S := by
 refine W_eq ?_
 (unfold F.is_row_number; refine Np.W_fnF rfl ?_; unfold Den.is_row_number; simp_all [])
 simp_all [whole_eq h]
 cases hw : wholeB x with
 | false =>
  simp_all []
  exact ⟨by (cases x <;> first | rfl | cases hw), trivial⟩
 | true =>
  obtain ⟨i, rfl⟩ := wholeB_int hw
  by_cases h0 : 0 ≤ i
  ·by_cases h1 : i < (m : Int)
   ·simp_all [h0, h1]
    exact ⟨by simp [rowNumB, h0, h1], trivial⟩
   ·simp_all [h0, h1]
    exact ⟨by simp [rowNumB, h1], trivial⟩
  ·simp_all [h0]
   exact ⟨by simp [rowNumB, h0], trivial⟩
theorem rowNum_int {m : Nat} {x : D} (h : rowNumB m x = true) : ∃ i, x = .int i := by
 cases x <;> first | exact ⟨_, rfl⟩ | cases h
theorem unlike_gen {S : Sto} {x y : D} {m : Nat} (hx : Kn S x) (hy : Kn S y) : F.are_unlike_rows [x, y, .int (m : Int)] S = ok (.bl (unlikeB m x y)) S := by
 refine W_eq ?_
 (unfold F.are_unlike_rows; refine Np.W_fnF rfl ?_; unfold Den.are_unlike_rows; simp_all [])
 simp_all [row_num_gen hx]
 cases h1 : rowNumB m x with
 | false =>
  simp_all []
  exact ⟨by simp [unlikeB, h1], trivial⟩
 | true =>
  simp_all [row_num_gen hy]
  cases h2 : rowNumB m y with
  | false =>
   simp_all []
   exact ⟨by simp [unlikeB, h2], trivial⟩
  | true =>
   obtain ⟨i, rfl⟩ := rowNum_int h1
   obtain ⟨j, rfl⟩ := rowNum_int h2
   simp_all []
   exact ⟨by simp [unlikeB, h1, h2], trivial⟩
def deedB (m : Nat) : D → Bool
 | .tup (.str w :: r) =>
  if w == ("swap" : Str) then (match r with
   | [x, y] => unlikeB m x y
   | _ => false)
  else if w == ("scale" : Str) then (match r with
   | [x, q] => rowNumB m x && (ratioB q && !(match q with
    | .tup [.int a, .int b] => decide (a = 0) && decide (b = 1)
    | _ => false))
   | _ => false)
  else if w == ("add" : Str) then (match r with
   | [x, y, q] => unlikeB m x y && ratioB q
   | _ => false)
  else false
 | _ => false
theorem ratioB_tup2 {q : D} (h : ratioB q = true) : ∃ a b, q = .tup [.int a, .int b] := by
 unfold ratioB at h
 split at h
 ·exact ⟨_, _, rfl⟩
 ·cases h
theorem ne_pair (a b : Int) (S : Sto) : neD (.tup [.int a, .int b]) (.tup [.int 0, .int 1]) S = ok (.bl (!(decide (a = 0) && decide (b = 1)))) S := by
 unfold neD
 show eqK true S (some (Np.T.tup [.int a, .int b])) (some (Np.T.tup [.int 0, .int 1])) = _
 show ok (D.bl (!eqTs _ _)) S = _
 simp only [eqTs, eqT, Bool.and_true]
 rfl
def Kn3 (S : Sto) (d : D) : Prop := Kn S d ∧ ∀ x ∈ partsD d, Kn2 S x
theorem Kn3.mono {S S' : Sto} {d : D} (h : Kn3 S d) (l : SLe S S') : Kn3 S' d := ⟨h.1.mono l, fun x hx => (h.2 x hx).mono l⟩
theorem len_no {α : Type} {r : List α} {k : Nat} {j : Int} (h : ((r.length + k : Nat) : Int) ≠ j) : decide (((r.length + k : Nat) : Int) = j) = false := decide_eq_false h
theorem is_deed_gen {S : Sto} {d : D} {m : Nat} (h : Kn3 S d) (hw : ∀ w r, d = .tup (.str w :: r) → w.cps.all (· < 0x110000) = true) : F.is_deed [d, .int (m : Int)] S = ok (.bl (deedB m d)) S := by
 refine W_eq ?_
 (unfold F.is_deed; refine Np.W_fnF rfl ?_; unfold Den.is_deed; simp_all [])
 simp_all [isi_tup h.1]
 cases hd : tupB d with
 | false =>
  simp_all []
  exact ⟨by (cases d <;> first | rfl | cases hd), trivial⟩
 | true =>
  cases d with
  | tup xs =>
   match xs, h, hw with
   | [], _, _ =>
    simp_all [show decide (((0 : Nat) : Int) = 0) = true from rfl]
    exact ⟨rfl, trivial⟩
   | x :: r, h, hw =>
    have hx : Kn S x := (h.2 x (by simp [partsD])).1
    simp_all [len_no (r := r) (k := 1) (j := 0) (by omega), tix0, isi_str hx]
    cases hsx : strB x with
    | false =>
     simp_all []
     exact ⟨by (cases x <;> first | rfl | cases hsx), trivial⟩
    | true =>
     cases x with
     | str w =>
      have hw := hw w r rfl
      simp_all [eqD_str hw cps_swap]
      cases e1 : (w == ("swap" : Str)) with
      | true =>
       match r, h with
       | [], _ =>
        simp_all [show decide (((1 : Nat) : Int) = 3) = false from rfl]
        exact ⟨by simp [deedB, e1], trivial⟩
       | [a], _ =>
        simp_all [show decide (((2 : Nat) : Int) = 3) = false from rfl]
        exact ⟨by simp [deedB, e1], trivial⟩
       | [a, b], h =>
        have ha : Kn S a := (h.2 a (by simp [partsD])).1
        have hb : Kn S b := (h.2 b (by simp [partsD])).1
        simp_all [show decide (((3 : Nat) : Int) = 3) = true from rfl, tix1, tix2, unlike_gen ha hb]
        exact ⟨by simp [deedB, e1], trivial⟩
       | a :: b :: c :: r, _ =>
        simp_all [len_no (r := r) (k := 4) (j := 3) (by omega)]
        exact ⟨by simp [deedB, e1], trivial⟩
      | false =>
       simp_all [eqD_str hw cps_scale]
       cases e2 : (w == ("scale" : Str)) with
       | true =>
        match r, h with
        | [], _ =>
         simp_all [show decide (((1 : Nat) : Int) = 3) = false from rfl]
         exact ⟨by simp [deedB, e1, e2], trivial⟩
        | [a], _ =>
         simp_all [show decide (((2 : Nat) : Int) = 3) = false from rfl]
         exact ⟨by simp [deedB, e1, e2], trivial⟩
        | [a, b], h =>
         have ha : Kn S a := (h.2 a (by simp [partsD])).1
         have hb : Kn2 S b := h.2 b (by simp [partsD])
         simp_all [show decide (((3 : Nat) : Int) = 3) = true from rfl, tix1, row_num_gen ha]
         cases f1 : rowNumB m a with
         | false =>
          simp_all []
          exact ⟨by simp [deedB, e1, e2, f1], trivial⟩
         | true =>
          simp_all [tix2, is_ratio_eq hb]
          cases f2 : ratioB b with
          | false =>
           simp_all []
           exact ⟨by simp [deedB, e1, e2, f2], trivial⟩
          | true =>
           obtain ⟨u, v, rfl⟩ := ratioB_tup2 f2
           simp_all [tix2, ← rat0]
           rw [ne_pair, W_ok]
           exact ⟨by simp [deedB, e1, e2, f1, f2], rfl⟩
        | a :: b :: c :: r, _ =>
         simp_all [len_no (r := r) (k := 4) (j := 3) (by omega)]
         exact ⟨by simp [deedB, e1, e2], trivial⟩
       | false =>
        simp_all [eqD_str hw cps_add]
        cases e3 : (w == ("add" : Str)) with
        | true =>
         match r, h with
         | [], _ =>
          simp_all [show decide (((1 : Nat) : Int) = 4) = false from rfl]
          exact ⟨by simp [deedB, e1, e2, e3], trivial⟩
         | [a], _ =>
          simp_all [show decide (((2 : Nat) : Int) = 4) = false from rfl]
          exact ⟨by simp [deedB, e1, e2, e3], trivial⟩
         | [a, b], _ =>
          simp_all [show decide (((3 : Nat) : Int) = 4) = false from rfl]
          exact ⟨by simp [deedB, e1, e2, e3], trivial⟩
         | [a, b, c], h =>
          have ha : Kn S a := (h.2 a (by simp [partsD])).1
          have hb : Kn S b := (h.2 b (by simp [partsD])).1
          have hc : Kn2 S c := h.2 c (by simp [partsD])
          simp_all [show decide (((4 : Nat) : Int) = 4) = true from rfl, tix1, tix2, unlike_gen ha hb]
          cases f1 : unlikeB m a b with
          | false =>
           simp_all []
           exact ⟨by simp [deedB, e1, e2, e3, f1], trivial⟩
          | true =>
           simp_all [tix3, is_ratio_eq hc]
           exact ⟨by simp [deedB, e1, e2, e3, f1], trivial⟩
         | a :: b :: c :: d :: r, _ =>
          simp_all [len_no (r := r) (k := 5) (j := 4) (by omega)]
          exact ⟨by simp [deedB, e1, e2, e3], trivial⟩
        | false =>
         simp_all []
         exact ⟨by simp [deedB, e1, e2, e3], trivial⟩
     | _ => cases hsx
  | _ => cases hd
def Od (S : Sto) (d : D) : Prop := Kn3 S d ∧ ∀ w r, d = .tup (.str w :: r) → w.cps.all (· < 0x110000) = true
theorem Od.mono {S S' : Sto} {d : D} (h : Od S d) (l : SLe S S') : Od S' d := ⟨h.1.mono l, h.2⟩
theorem no_deeds {S : Sto} {d : D} {m : Nat} (h : Kn S d) (hl : lstB S d = false) : W (F.are_deeds [d, .int (m : Int)] S) fun r S' => r = .bl false ∧ SLe S S' := by
 (unfold F.are_deeds; refine Np.W_fnF rfl ?_; unfold Den.are_deeds; simp_all [])
 simp_all [isi_lst h, hl]
 exact ⟨trivial, SLe.rfl⟩
theorem bad_deeds {S : Sto} {b m : Nat} {xs : List D} {x : D} (hb : zH S b = some xs) (hl : xs.length ≤ 1000000) (ho : ∀ x ∈ xs, Od S x) (hx : x ∈ xs) (hn : deedB m x = false) : W (F.are_deeds [.ref b, .int (m : Int)] S) fun r S' => r = .bl false ∧ SLe S S' := by
 (unfold F.are_deeds; refine Np.W_fnF rfl ?_; unfold Den.are_deeds; simp_all [])
 have c1 := comp06 (base := [some (.ref b), some (.int (m : Int))]) (it := itE itL (vr 0)) (e := fnE F.is_deed (yF (vr 2) (yF (vr 1) aNil))) (f := fun x => .bl (deedB m x)) (by simp only [Np.itA, Np.itE, Np.yF, Np.aConsK, Np.aNil, Np.consK, Np.vr, Np.cst, List.getElem?_cons_zero, List.getElem?_cons_succ, Np.bnd_ok]; exact itL_ref hb) hb hl fun x hx => by
  refine W_eq ?_
  simp_all [is_deed_gen (m := m) (ho x hx).1 (ho x hx).2]
 simp only [List.length_cons, List.length_nil, Nat.reduceAdd] at c1
 simp_all [isi_lst_ref hb, c1, allD_ref (lstAt_push S _) (allB_map (deedB m) xs)]
 refine ⟨?_, SLe.app _⟩
 congr 1
 rw [← Bool.not_eq_true, List.all_eq_true]
 intro h
 rw [h x hx] at hn
 cases hn
theorem refused23_w {S : Sto} {t : Nat} {ts : List D} {d : D} (ht : zH S t = some ts) (h : W (F.are_deeds [d, .int (ts.length : Int)] S) fun r S' => r = .bl false ∧ SLe S S') : W (F.k23_refused [.ref t, d] S) fun r S' => r = .bl true ∧ SLe S S' := by
 obtain ⟨r, S', e, rfl, l⟩ := h.out
 have ex : X.done [.ref t, d] S = er "NoDeed" S' := by
  unfold X.done fnX DenX.done
  have e1 : lenD [.ref t] S = ok (.int (ts.length : Int)) S := lenD_ref ht
  simp [startD, seqS, noerS, noer, asgS, asgK, setG, nxS, ifS, tv, notT, notK, op2, op2K, vr, cst, fnE, yF, aConsK, aNil, consK, e1, e, raiseS, bnd_ok, bnd_er, outF_er, truV_bl, ifK_t, seqK_nx]
 (unfold F.k23_refused; refine Np.W_fnF rfl ?_; unfold Den.k23_refused; simp_all [])
 have t1 : tryEK X.done 3 ["NoDeed"] (setS 2 (fnE intD (yF (andV (op1 (isxD ["NoDeed", "NoRatio"]) (vr 3)) (op1 (isxD ["NoDeed", "NoRatio"]) (vr 3))) aNil))) [some (.ref t), some d, some (.int 0), none] [.ref t, d] S = ok (.nx [some (.ref t), some d, some (.int 1), none]) S' := by
  unfold tryEK
  rw [ex]
  rfl
 simp_all [tryE, t1, eqD_int]
 exact ⟨trivial, l⟩
theorem w_ss : (("swap" : Str) == ("swap" : Str)) = true := by decide +kernel
theorem w_cs : (("scale" : Str) == ("swap" : Str)) = false := by decide +kernel
theorem w_cc : (("scale" : Str) == ("scale" : Str)) = true := by decide +kernel
theorem w_as : (("add" : Str) == ("swap" : Str)) = false := by decide +kernel
theorem w_ac : (("add" : Str) == ("scale" : Str)) = false := by decide +kernel
theorem w_aa : (("add" : Str) == ("add" : Str)) = true := by decide +kernel
section
variable {m : Nat} {r : List D} {x y q : D}
theorem dB_word {w : Str} (h1 : (w == ("swap" : Str)) = false) (h2 : (w == ("scale" : Str)) = false) (h3 : (w == ("add" : Str)) = false) : deedB m (.tup (.str w :: r)) = false := by simp [deedB, h1, h2, h3]
theorem dB_swap_len (h : r.length ≠ 2) : deedB m (.tup (.str "swap" :: r)) = false := by
 simp only [deedB, w_ss, if_true]
 split
 ·exact absurd rfl h
 ·rfl
theorem dB_scale_len (h : r.length ≠ 2) : deedB m (.tup (.str "scale" :: r)) = false := by
 simp only [deedB, w_cs, w_cc, if_true, Bool.false_eq_true, if_false]
 split
 ·exact absurd rfl h
 ·rfl
theorem dB_add_len (h : r.length ≠ 3) : deedB m (.tup (.str "add" :: r)) = false := by
 simp only [deedB, w_as, w_ac, w_aa, if_true, Bool.false_eq_true, if_false]
 split
 ·exact absurd rfl h
 ·rfl
theorem dB_swap (h : unlikeB m x y = false) : deedB m (.tup [.str "swap", x, y]) = false := by simp only [deedB, w_ss, if_true, h]
theorem dB_scale_row (h : rowNumB m x = false) : deedB m (.tup [.str "scale", x, q]) = false := by simp only [deedB, w_cs, w_cc, if_true, Bool.false_eq_true, if_false, h, Bool.false_and]
theorem dB_scale_ratio (h : ratioB q = false) : deedB m (.tup [.str "scale", x, q]) = false := by simp only [deedB, w_cs, w_cc, if_true, Bool.false_eq_true, if_false, h, Bool.false_and, Bool.and_false]
theorem dB_scale_nought : deedB m (.tup [.str "scale", x, .tup [.int 0, .int 1]]) = false := by simp [deedB, w_cs, w_cc]
theorem dB_add (h : unlikeB m x y = false) : deedB m (.tup [.str "add", x, y, q]) = false := by simp only [deedB, w_as, w_ac, w_aa, if_true, Bool.false_eq_true, if_false, h, Bool.false_and]
theorem dB_add_ratio (h : ratioB q = false) : deedB m (.tup [.str "add", x, y, q]) = false := by simp only [deedB, w_as, w_ac, w_aa, if_true, Bool.false_eq_true, if_false, h, Bool.and_false]
theorem unl_same {i : Int} : unlikeB m (.int i) (.int i) = false := by simp [unlikeB]
theorem unl_l (h : rowNumB m x = false) : unlikeB m x y = false := by simp [unlikeB, h]
theorem unl_r (h : rowNumB m y = false) : unlikeB m x y = false := by simp [unlikeB, h]
theorem row_far {i : Int} (h : (m : Int) ≤ i) : rowNumB m (.int i) = false := by
 have : ¬ i < (m : Int) := by omega
 simp [rowNumB, this]
theorem row_neg : rowNumB m (.int (-1)) = false := rfl
end
theorem lstAt_O {S : Sto} {a : Nat} {xs : List D} (h : zH S a = some xs) : S[a]? = some (.lst xs) := by
 unfold zH at h
 split at h
 ·rename_i ys e
  cases h
  exact e
 ·cases h
theorem odP {S : Sto} {ds : List D} (h : ∀ x ∈ ds, Kn2 S x) (hw : ∀ w r, ds = .str w :: r → w.cps.all (· < 0x110000) = true) : Od S (.tup ds) := ⟨⟨trivial, h⟩, fun w r e => by cases e; exact hw w r rfl⟩
theorem kn2_1 {S : Sto} {d : D} (h : atom1 d = true) : Kn2 S d := (atom1_kn h).1
theorem kn2_L {S : Sto} {a : Nat} {xs : List D} (h : zH S a = some xs) : Kn2 S (.ref a) := ⟨.inl ⟨_, lstAt_O h⟩, fun y hy => by cases hy⟩
theorem odA {S : Sto} {d : D} (h : atomB d = true) : Od S d := by
 obtain ⟨h1, h2, h3⟩ := atom_kn (S := S) h
 exact ⟨⟨h1, fun y hy => by rw [h2] at hy; cases hy⟩, fun w r e => by subst e; cases h⟩
theorem odL {S : Sto} {a : Nat} {xs : List D} (h : zH S a = some xs) : Od S (.ref a) := ⟨⟨.inl ⟨_, lstAt_O h⟩, fun y hy => by cases hy⟩, fun w r e => by cases e⟩
def Bad (m : Nat) (S : Sto) (xs : List D) : Prop := ∀ x ∈ xs, Od S x ∧ deedB m x = false
theorem Bad.mono {m : Nat} {S S' : Sto} {xs : List D} (h : Bad m S xs) (l : SLe S S') : Bad m S' xs := fun x hx => ⟨(h x hx).1.mono l, (h x hx).2⟩
theorem Bad.nil {m : Nat} {S : Sto} : Bad m S [] := fun _ h => by cases h
theorem Bad.cons {m : Nat} {S : Sto} {x : D} {xs : List D} (h1 : Od S x) (h2 : deedB m x = false) (h : Bad m S xs) : Bad m S (x :: xs) := fun y hy => by
 rcases List.mem_cons.mp hy with rfl | hy
 ·exact ⟨h1, h2⟩
 ·exact h y hy
theorem more23 {m : Nat} {S : Sto} {a : Nat} {xs ds : List D} {Q : D → Sto → Prop} (ha : zH S a = some xs) (hl : xs.length + ds.length ≤ 1000) (hx : Bad m S xs) (hd : Bad m S ds)
  (q : ∀ S' b ys, SLe S S' → ys.length = xs.length + ds.length → zH S' b = some ys → Bad m S' ys → Q (.ref b) S') : W (lstD ds S) fun c S1 => W (addD (.ref a) c S1) Q := by
 rw [lstD_eq (by omega), W_ok, addL ((SLe.app _).lst ha) (lstAt_push _ _) (by omega), W_ok]
 refine q _ _ _ ((SLe.app _).trans (SLe.app _)) (by simp) (lstAt_push _ _) fun x h => ?_
 rcases List.mem_append.mp h with h | h
 ·exact (hx.mono ((SLe.app _).trans (SLe.app _))) x h
 ·exact (hd.mono ((SLe.app _).trans (SLe.app _))) x h
theorem odT {S : Sto} {ds : List D} (h : ds.all atom1 = true) (hw : ∀ w r, ds = .str w :: r → w.cps.all (· < 0x110000) = true) : Od S (.tup ds) := odP (fun x hx => kn2_1 (List.all_eq_true.mp h x hx)) hw
theorem first23 {m : Nat} {S : Sto} {ds : List D} {Q : D → Sto → Prop} (hl : ds.length ≤ 1000) (hd : Bad m S ds) (q : ∀ S' b, SLe S S' → zH S' b = some ds → Bad m S' ds → Q (.ref b) S') : W (lstD ds S) Q := by
 rw [lstD_eq hl, W_ok]
 exact q _ _ (SLe.app _) (lstAt_push _ _) (hd.mono (SLe.app _))
theorem odD {S : Sto} {a : Nat} {kvs : List (D × D)} (h : S[a]? = some (.dct kvs)) : Kn2 S (.ref a) := ⟨.inr ⟨_, h⟩, fun y hy => by cases hy⟩
theorem odQ {S : Sto} {a : Nat} {r : List D} (h : Kn2 S (.ref a)) (hr : r.all atom1 = true) : Od S (.tup (.ref a :: r)) := odP (fun x hx => by
 rcases List.mem_cons.mp hx with rfl | hx
 ·exact h
 ·exact kn2_1 (List.all_eq_true.mp hr x hx)) (fun w r e => by cases e)
theorem od3 {S : Sto} {a : Nat} {x : D} {w : Str} (h : Kn2 S (.ref a)) (hx : atom1 x = true) (hw : w.cps.all (· < 0x110000) = true) : Od S (.tup [.str w, x, .ref a]) := odP (fun y hy => by
 simp only [List.mem_cons, List.not_mem_nil, or_false] at hy
 rcases hy with rfl | rfl | rfl
 ·exact kn2_1 rfl
 ·exact kn2_1 hx
 ·exact h) (fun w r e => by cases e; exact hw)
theorem odd23_w (n : Int) {m : Nat} (hm : 0 < m) (S : Sto) : W (F.k23_odd_deed [.int n, .int (m : Int)] S) fun d S' => SLe S S' ∧ Od S' d ∧ deedB m d = false := by
 (unfold F.k23_odd_deed; refine Np.W_fnF rfl ?_; unfold Den.k23_odd_deed; simp_all [])
 have q30 : ∀ S, powD (.int 10) (.int 30) S = ok (.int (10 ^ 30)) S := fun S => powD_ok (by decide) S
 have hm0 : (m : Int) ≠ 0 := by omega
 simp_all [dvm_eq (show (38 : Int) ≠ 0 by decide), tupG2, modD_int hm0, fdivD_int (show (5 : Int) ≠ 0 by decide), q30, modD_int (show (10 : Int) ^ 30 ≠ 0 by decide), tup0, tup1, tup3, tup4]
 obtain ⟨i, hi⟩ : ∃ i, i = (n.fdiv 38).fmod (m : Int) := ⟨_, rfl⟩
 obtain ⟨f, hf⟩ : ∃ f, f = (m : Int) + ((n.fdiv 38).fdiv 5).fmod (10 ^ 30) := ⟨_, rfl⟩
 have hff : (m : Int) ≤ f := by
  have := (fmod_bd ((n.fdiv 38).fdiv 5) (show (0 : Int) < 10 ^ 30 by decide)).1
  omega
 have rf := row_far hff
 simp only [← hi, ← hf]
 clear hi hf
 refine first23 (m := m) (by simp) (by (repeat' (first | exact Bad.nil | refine Bad.cons ?_ ?_ ?_)) <;> first | exact odT rfl (by intro w r h; cases h <;> decide +kernel) | exact odA rfl | exact odL (by assumption) | exact odQ (by assumption) rfl | exact od3 (by assumption) rfl (by decide +kernel) | exact dB_word (by decide +kernel) (by decide +kernel) (by decide +kernel) | exact dB_swap unl_same | exact dB_swap (unl_r (by assumption)) | exact dB_swap (unl_l row_neg) | exact dB_swap_len (by simp) | exact dB_scale_nought | exact dB_scale_row (by first | assumption | exact row_neg | rfl) | exact dB_scale_ratio rfl | exact dB_scale_len (by simp) | exact dB_add unl_same | exact dB_add (unl_r (by first | assumption | exact row_neg)) | exact dB_add (unl_l (by assumption)) | exact dB_add_len (by simp) | rfl) fun S1 b1 l1 r1 B1 => ?_
 refine W_new (lstD_eq (by simp) _) fun S2 b2 l2 _ r2 => ?_
 simp only [← rat0]
 refine more23 (l2.lst r1) (by simp) (B1.mono l2) (by (repeat' (first | exact Bad.nil | refine Bad.cons ?_ ?_ ?_)) <;> first | exact odT rfl (by intro w r h; cases h <;> decide +kernel) | exact odA rfl | exact odL (by assumption) | exact odQ (by assumption) rfl | exact od3 (by assumption) rfl (by decide +kernel) | exact dB_word (by decide +kernel) (by decide +kernel) (by decide +kernel) | exact dB_swap unl_same | exact dB_swap (unl_r (by assumption)) | exact dB_swap (unl_l row_neg) | exact dB_swap_len (by simp) | exact dB_scale_nought | exact dB_scale_row (by first | assumption | exact row_neg | rfl) | exact dB_scale_ratio rfl | exact dB_scale_len (by simp) | exact dB_add unl_same | exact dB_add (unl_r (by first | assumption | exact row_neg)) | exact dB_add (unl_l (by assumption)) | exact dB_add_len (by simp) | rfl) fun S3 b3 xs3 l3 n3 r3 B3 => ?_
 refine more23 r3 (by rw [n3]; simp) B3 (by (repeat' (first | exact Bad.nil | refine Bad.cons ?_ ?_ ?_)) <;> first | exact odT rfl (by intro w r h; cases h <;> decide +kernel) | exact odA rfl | exact odL (by assumption) | exact odQ (by assumption) rfl | exact od3 (by assumption) rfl (by decide +kernel) | exact dB_word (by decide +kernel) (by decide +kernel) (by decide +kernel) | exact dB_swap unl_same | exact dB_swap (unl_r (by assumption)) | exact dB_swap (unl_l row_neg) | exact dB_swap_len (by simp) | exact dB_scale_nought | exact dB_scale_row (by first | assumption | exact row_neg | rfl) | exact dB_scale_ratio rfl | exact dB_scale_len (by simp) | exact dB_add unl_same | exact dB_add (unl_r (by first | assumption | exact row_neg)) | exact dB_add (unl_l (by assumption)) | exact dB_add_len (by simp) | rfl) fun S4 b4 xs4 l4 n4 r4 B4 => ?_
 refine W_new (lstD_eq (by simp) _) fun S5 b5 l5 _ r5 => ?_
 have k5 := kn2_L r5
 refine more23 (l5.lst r4) (by rw [n4, n3]; simp) (B4.mono l5) (by (repeat' (first | exact Bad.nil | refine Bad.cons ?_ ?_ ?_)) <;> first | exact odT rfl (by intro w r h; cases h <;> decide +kernel) | exact odA rfl | exact odL (by assumption) | exact odQ (by assumption) rfl | exact od3 (by assumption) rfl (by decide +kernel) | exact dB_word (by decide +kernel) (by decide +kernel) (by decide +kernel) | exact dB_swap unl_same | exact dB_swap (unl_r (by assumption)) | exact dB_swap (unl_l row_neg) | exact dB_swap_len (by simp) | exact dB_scale_nought | exact dB_scale_row (by first | assumption | exact row_neg | rfl) | exact dB_scale_ratio rfl | exact dB_scale_len (by simp) | exact dB_add unl_same | exact dB_add (unl_r (by first | assumption | exact row_neg)) | exact dB_add (unl_l (by assumption)) | exact dB_add_len (by simp) | rfl) fun S6 b6 xs6 l6 n6 r6 B6 => ?_
 refine more23 r6 (by rw [n6, n4, n3]; simp) B6 (by (repeat' (first | exact Bad.nil | refine Bad.cons ?_ ?_ ?_)) <;> first | exact odT rfl (by intro w r h; cases h <;> decide +kernel) | exact odA rfl | exact odL (by assumption) | exact odQ (by assumption) rfl | exact od3 (by assumption) rfl (by decide +kernel) | exact dB_word (by decide +kernel) (by decide +kernel) (by decide +kernel) | exact dB_swap unl_same | exact dB_swap (unl_r (by assumption)) | exact dB_swap (unl_l row_neg) | exact dB_swap_len (by simp) | exact dB_scale_nought | exact dB_scale_row (by first | assumption | exact row_neg | rfl) | exact dB_scale_ratio rfl | exact dB_scale_len (by simp) | exact dB_add unl_same | exact dB_add (unl_r (by first | assumption | exact row_neg)) | exact dB_add (unl_l (by assumption)) | exact dB_add_len (by simp) | rfl) fun S7 b7 xs7 l7 n7 r7 B7 => ?_
 refine more23 r7 (by rw [n7, n6, n4, n3]; simp) B7 (by (repeat' (first | exact Bad.nil | refine Bad.cons ?_ ?_ ?_)) <;> first | exact odT rfl (by intro w r h; cases h <;> decide +kernel) | exact odA rfl | exact odL (by assumption) | exact odQ (by assumption) rfl | exact od3 (by assumption) rfl (by decide +kernel) | exact dB_word (by decide +kernel) (by decide +kernel) (by decide +kernel) | exact dB_swap unl_same | exact dB_swap (unl_r (by assumption)) | exact dB_swap (unl_l row_neg) | exact dB_swap_len (by simp) | exact dB_scale_nought | exact dB_scale_row (by first | assumption | exact row_neg | rfl) | exact dB_scale_ratio rfl | exact dB_scale_len (by simp) | exact dB_add unl_same | exact dB_add (unl_r (by first | assumption | exact row_neg)) | exact dB_add (unl_l (by assumption)) | exact dB_add_len (by simp) | rfl) fun S8 b8 xs8 l8 n8 r8 B8 => ?_
 refine more23 r8 (by rw [n8, n7, n6, n4, n3]; simp) B8 (by (repeat' (first | exact Bad.nil | refine Bad.cons ?_ ?_ ?_)) <;> first | exact odT rfl (by intro w r h; cases h <;> decide +kernel) | exact odA rfl | exact odL (by assumption) | exact odQ (by assumption) rfl | exact od3 (by assumption) rfl (by decide +kernel) | exact dB_word (by decide +kernel) (by decide +kernel) (by decide +kernel) | exact dB_swap unl_same | exact dB_swap (unl_r (by assumption)) | exact dB_swap (unl_l row_neg) | exact dB_swap_len (by simp) | exact dB_scale_nought | exact dB_scale_row (by first | assumption | exact row_neg | rfl) | exact dB_scale_ratio rfl | exact dB_scale_len (by simp) | exact dB_add unl_same | exact dB_add (unl_r (by first | assumption | exact row_neg)) | exact dB_add (unl_l (by assumption)) | exact dB_add_len (by simp) | rfl) fun S9 b9 xs9 l9 n9 r9 B9 => ?_
 refine W_new (lstD_eq (by simp) _) fun S10 b10 l10 _ r10 => ?_
 have k10 := kn2_L r10
 simp_all [dctN_eq]
 obtain ⟨S11, h11⟩ : ∃ S11, S11 = S10 ++ [O.dct []] := ⟨_, rfl⟩
 rw [← h11]
 have l11 : SLe S10 S11 := by rw [h11]; exact SLe.app _
 have k11 : Kn2 S11 (.ref S10.length) := odD (kvs := []) (by rw [h11]; simp)
 have k12 := k10.mono l11
 have l911 := l10.trans l11
 refine more23 (l911.lst r9) (by rw [n9, n8, n7, n6, n4, n3]; simp) (B9.mono l911) (by (repeat' (first | exact Bad.nil | refine Bad.cons ?_ ?_ ?_)) <;> first | exact odT rfl (by intro w r h; cases h <;> decide +kernel) | exact odA rfl | exact odL (by assumption) | exact odQ (by assumption) rfl | exact od3 (by assumption) rfl (by decide +kernel) | exact dB_word (by decide +kernel) (by decide +kernel) (by decide +kernel) | exact dB_swap unl_same | exact dB_swap (unl_r (by assumption)) | exact dB_swap (unl_l row_neg) | exact dB_swap_len (by simp) | exact dB_scale_nought | exact dB_scale_row (by first | assumption | exact row_neg | rfl) | exact dB_scale_ratio rfl | exact dB_scale_len (by simp) | exact dB_add unl_same | exact dB_add (unl_r (by first | assumption | exact row_neg)) | exact dB_add (unl_l (by assumption)) | exact dB_add_len (by simp) | rfl) fun S12 b12 xs12 l12 n12 r12 B12 => ?_
 have L : SLe S S12 := l1.trans (l2.trans (l3.trans (l4.trans (l5.trans (l6.trans (l7.trans (l8.trans (l9.trans (l911.trans l12)))))))))
 have hl : xs12.length = 38 := by rw [n12, n9, n8, n7, n6, n4, n3]; rfl
 obtain ⟨g1, g2⟩ := fmod_bd n (show (0 : Int) < 38 by decide)
 obtain ⟨j, hj⟩ : ∃ j : Nat, n.fmod 38 = (j : Int) := ⟨(n.fmod 38).toNat, by omega⟩
 rw [hj] at g2 ⊢
 have hj' : j < xs12.length := by omega
 have e : xs12[j]? = some xs12[j] := List.getElem?_eq_getElem hj'
 rw [ixD_ref r12 e, W_ok]
 exact ⟨L, B12 _ (List.getElem_mem hj')⟩
end Nm
end
section
namespace Nm
open Np PySem
theorem deed_od {S : Sto} (d : Deed) : Od S d.d := by
 cases d <;> exact odT rfl (by intro w r h; cases h <;> decide +kernel)
def Refd (m : Nat) (S : Sto) (d : D) : Prop := (Kn S d ∧ lstB S d = false) ∨ ∃ b ys x, d = .ref b ∧ zH S b = some ys ∧ ys.length ≤ 1000000 ∧ (∀ y ∈ ys, Od S y) ∧ x ∈ ys ∧ deedB m x = false
theorem Refd.w {m : Nat} {S : Sto} {d : D} (h : Refd m S d) : W (F.are_deeds [d, .int (m : Int)] S) fun r S' => r = .bl false ∧ SLe S S' := by
 rcases h with ⟨h1, h2⟩ | ⟨b, ys, x, rfl, hb, hl, ho, hx, hn⟩
 ·exact no_deeds h1 h2
 ·exact bad_deeds hb hl ho hx hn
theorem refusedT_w {S : Sto} {t m : Nat} {ts : List Nat} {T : List (List Rat)} {d : D} (ht : TabR S t ts T) (hT : T.length = m) (h : Refd m S d) : W (F.k23_refused [.ref t, d] S) fun r S' => r = .bl true ∧ SLe S S' := by
 refine refused23_w ht.1 ?_
 have e : (ts.map D.ref).length = m := by rw [List.length_map, ht.2.1, hT]
 rw [e]
 exact h.w
theorem one23_w {S : Sto} {t m : Nat} {ts : List Nat} {T : List (List Rat)} {x : D} {Q : D → Sto → Prop} (ht : TabR S t ts T) (hT : T.length = m) (h1 : ∀ S, Od S x) (h2 : deedB m x = false) (q : ∀ S', SLe S S' → Q (.bl true) S') : W (lstD [x] S) fun a S1 => W (F.k23_refused [.ref t, a] S1) Q := by
 refine W_new (lstD_eq (by simp) _) fun S1 b l1 _ r1 => ?_
 refine (refusedT_w (ht.le l1) hT (.inr ⟨b, [x], x, rfl, r1, by simp, (fun y hy => by simp at hy; subst hy; exact h1 _), by simp, h2⟩)).mono ?_
 rintro d S2 ⟨rfl, l2⟩
 exact q S2 (l1.trans l2)
theorem k23_holds (ns : List Int) (hs : Scr ns) : W (F.k23_law [.scr (ns.map D.int)] []) fun d _ => d = .bl true := by
 (unfold F.k23_law; refine Np.W_fnF rfl ?_; unfold Den.k23_law; simp_all [])
 have hlen := hs.1
 obtain ⟨c0, _, e0⟩ := cell_at_scr ns 0 []
 obtain ⟨c1, _, e1⟩ := cell_at_scr ns 1 []
 have e0 : F.k11_cell_at [.scr (ns.map D.int), .int 0] [] = ok (.int c0) [] := e0
 have e1 : F.k11_cell_at [.scr (ns.map D.int), .int 1] [] = ok (.int c1) [] := e1
 obtain ⟨m0, hm0, hm5⟩ := natOf c0 (k := 5) (by decide)
 obtain ⟨w, hw, hw6⟩ := natOf c1 (k := 4) (by decide)
 obtain ⟨m, hm⟩ : ∃ m, m = 1 + m0 := ⟨_, rfl⟩
 simp_all [e0, e1, modD_int (show (5 : Int) ≠ 0 by decide), modD_int (show (4 : Int) ≠ 0 by decide), hm0, hw, show (1 : Int) + (m0 : Int) = (m : Int) by omega]
 refine cells_w hs (base := [_, _, _, _, _, _, _, _, _, _, _, _]) _ (m := m) (by omega) rfl (fun i S' Q h => by simp_all [show (2 : Int) + (i : Int) = ((2 + i : Nat) : Int) by omega]; exact h) fun ms S1 a1 l1 n1 hms r1 => ?_
 refine (table21_w r1 (by omega) (n := w) (by omega)).mono ?_
 rintro d S2 ⟨t, ts, T, rfl, l2, f2, hTl, hwd, hT⟩
 rw [hms] at hTl
 have t2 := f2.tab
 refine copy_tab (base := [_, _, _, _, _, _, _, _, _, _, _, _]) t2 (by omega) (by simp only [Np.itA, Np.itE, Np.yF, Np.aConsK, Np.aNil, Np.consK, Np.vr, Np.cst, List.getElem?_cons_zero, List.getElem?_cons_succ, Np.bnd_ok]; exact itL_ref t2.1) (fun b S' => rfl) fun S3 k ks l3 f3 => ?_
 refine deeds21_w (a := 0) (base := [_, _, _, _, _, _, _, _, _, _, _, _]) (m := m) (ms := (ns.drop 2).take (12 - 2)) _ (by omega) (by simp; omega) ?_ (fun z S' Q h => by simp_all []; exact h) fun ds S4 b4 l4 n4 hdl hd r4 => ?_
 ·simp_all []
  refine W_new (slD_scr _ _ _ _) fun S4 a4 l4 _ r4 => ?_
  rw [show cutD (ns.map D.int) (some 2) (some 12) = cutD (ns.map D.int) (some ((2 : Nat) : Int)) (some ((12 : Nat) : Int)) from rfl, cut_gen (by omega), ← List.map_drop, ← List.map_take] at r4
  simp_all [itL_ref r4]
  obtain ⟨h1, h2, h3, h4⟩ := one_src r4 (by simp; omega)
  exact ⟨by simpa using h1, h2, l4, h4⟩
 have hdl : ds.length ≤ 10 := by rw [hdl]; simp; omega
 have hok : ∀ d ∈ ds, d.Ok T.length := fun d hdd => by rw [hTl]; exact (hd d hdd).1
 have hle : ∀ d ∈ ds, d.le 70 := fun d hdd => (hd d hdd).2
 have bnd : ∀ i, i ≤ ds.length → LeT 9240576 (doneR T (ds.take i)) := fun i hi r hr x hx => by
  refine (done_le (k := 0) hT hle (by decide) i hi r hr x hx).mono ?_
  have : 2 ^ ds.length ≤ 2 ^ 16 := Nat.pow_le_pow_right (by decide) (by omega)
  have := Nat.mul_le_mul_right (70 + 70 + 1) this
  omega
 have hqN : ∀ d ∈ ds, d.le 9240576 := fun d hdd => Deed.le.mono (hle d hdd) (by decide)
 refine (done21_w (N := 9240576) (t2.le (l3.trans l4)) r4 hok hwd (by omega) (by omega) bnd hqN (by decide)).mono ?_
 rintro d S5 ⟨u, us, rfl, l5, f5⟩
 have t5 := t2.le (l3.trans (l4.trans l5))
 have k5 := f3.tab.le (l4.trans l5)
 have r5 := l5.lst r4
 have hlt : ∀ {S' : Sto}, SLe S5 S' → W (F.done [.ref t, .ref b4] S') fun d S2 => ∃ c cs, d = .ref c ∧ SLe S' S2 ∧ TabR S2 c cs (doneR T ds) := fun {S'} l => done_w (N := 9240576) (t5.le l) (l.lst r5) hok hwd (by omega) (by omega) (by omega) bnd hqN (by decide) fun S2 c cs l2 f => ⟨c, cs, rfl, l2, f.tab⟩
 refine W_new (slD_scr _ _ _ _) fun S6 a6 l6 _ r6 => ?_
 rw [show cutD (ns.map D.int) (some 2) (some 32) = cutD (ns.map D.int) (some ((2 : Nat) : Int)) (some ((32 : Nat) : Int)) from rfl, cut_gen (by omega), ← List.map_drop, ← List.map_take] at r6
 simp_all [itL_ref r6]
 refine W_forK (((ns.drop 2).take (32 - 2)).map D.int) (fun i δ S' => SLe S6 S' ∧ ∃ o7 o8 o9 o10 o11 : Option D, δ = [some (.scr (ns.map D.int)), some (.int (m : Int)), some (.int (w : Int)), some (.ref t), some (.ref k), some (.ref b4), some (.ref u), o7, o8, o9, o10, o11]) (by rw [len_one r6]; exact Nat.le_refl _) ⟨SLe.rfl, _, _, _, _, _, rfl⟩ (fun i δ S' h => get_one (h.1.lst r6) i) ?_ ?_
 ·rintro i x δ S7 hx ⟨L7, o7, o8, o9, o10, o11, rfl⟩
  obtain ⟨c, hc, rfl⟩ := get_map hx
  obtain ⟨v, hv⟩ := great21_eq c S7
  have L57 := l6.trans L7
  have hl0 : ((ds.length : Nat) : Int) + 1 ≠ 0 := by omega
  simp_all [hv, lenD_ref (L57.lst r5), List.length_map, dvm_eq hl0, tupG2]
  refine W_new (slD_ref (L57.lst r5) _ _) fun S8 a8 l8 _ r8 => ?_
  refine (odd23_w _ (by omega) S8).mono ?_
  rintro od S9 ⟨l9, hod, hbd⟩
  refine W_new (lstD_eq (by simp) _) fun S10 a10 l10 _ r10 => ?_
  have L89 := l9.trans l10
  refine W_new (addL (L89.lst r8) r10 (by have := cut_len (ds.map Deed.d) none (some (v.fmod ((ds.length : Nat) + 1))); simp at this ⊢; omega)) fun S11 a11 l11 _ r11 => ?_
  have L511 := L57.trans (l8.trans (L89.trans l11))
  refine W_new (slD_ref (L511.lst r5) _ _) fun S12 a12 l12 _ r12 => ?_
  refine W_new (addL (l12.lst r11) r12 (by
   have h1 := cut_len (ds.map Deed.d) none (some (v.fmod ((ds.length : Nat) + 1)))
   have h2 := cut_len (ds.map Deed.d) (some (v.fmod ((ds.length : Nat) + 1))) none
   simp at h1 h2 ⊢; omega)) fun S13 a13 l13 _ r13 => ?_
  have L513 := L511.trans (l12.trans l13)
  have L913 : SLe S9 S13 := l10.trans (l11.trans (l12.trans l13))
  have R13 : Refd m S13 (.ref a13) := by
   refine .inr ⟨a13, _, od, rfl, r13, ?_, fun y hy => ?_, by simp, hbd⟩
   ·have h1 := cut_len (ds.map Deed.d) none (some (v.fmod ((ds.length : Nat) + 1)))
    have h2 := cut_len (ds.map Deed.d) (some (v.fmod ((ds.length : Nat) + 1))) none
    simp at h1 h2 ⊢; omega
   ·have key : y ∈ ds.map Deed.d ∨ y = od := by
     rcases List.mem_append.mp hy with h | h
     ·rcases List.mem_append.mp h with h | h
      ·exact .inl (cut_mem h)
      ·simp at h; exact .inr h
     ·exact .inl (cut_mem h)
    rcases key with h | rfl
    ·obtain ⟨e, _, rfl⟩ := List.mem_map.mp h
     exact deed_od e
    ·exact hod.mono L913
  simp_all [fdivD_int (show (38 : Int) ≠ 0 by decide), modD_int (show (8 : Int) ≠ 0 by decide)]
  refine W_join (fun δ' S' => SLe S13 S' ∧ ∃ d : D, δ' = [some (.scr (ns.map D.int)), some (.int (m : Int)), some (.int (w : Int)), some (.ref t), some (.ref k), some (.ref b4), some (.ref u), some (.int c), some (.int (v.fdiv ((ds.length : Nat) + 1))), some (.int (v.fmod ((ds.length : Nat) + 1))), some d, o11] ∧ Refd m S' d) ?_ ?_ ?_
  ·intro _
   simp_all [tofD_ref (L513.lst r5), dctN_eq, tup0]
   obtain ⟨S14, h14⟩ : ∃ S14, S14 = S13 ++ [O.dct []] := ⟨_, rfl⟩
   rw [← h14]
   have l14 : SLe S13 S14 := by rw [h14]; exact SLe.app _
   have d14 : S14[S13.length]? = some (.dct []) := by rw [h14]; simp
   refine W_new (lstD_eq (by simp) _) fun S15 a15 l15 _ r15 => ?_
   refine W_new (lstD_eq (by simp) _) fun S16 a16 l16 _ r16 => ?_
   simp_all [fdivD_int (show (304 : Int) ≠ 0 by decide)]
   have l1416 := l15.trans l16
   have d16 : S16[S13.length]? = some (.dct []) := by
    rw [l1416.get (List.getElem?_eq_some_iff.mp d14).1]
    exact d14
   refine W_pick r16 (by decide) (by simp) fun x hx => ⟨_, rfl, l14.trans l1416, _, rfl, ?_⟩
   simp only [List.mem_cons, List.not_mem_nil, or_false] at hx
   rcases hx with rfl | rfl | rfl | rfl | rfl | rfl | rfl | rfl
   ·exact .inl ⟨trivial, rfl⟩
   ·exact .inl ⟨trivial, rfl⟩
   ·exact .inl ⟨trivial, rfl⟩
   ·exact .inl ⟨trivial, rfl⟩
   ·exact .inl ⟨.inr ⟨_, d16⟩, by simp [lstB, zH, d16]⟩
   ·exact .inl ⟨trivial, rfl⟩
   ·exact .inl ⟨trivial, rfl⟩
   ·refine .inr ⟨a15, [.ref b4], .ref b4, rfl, l16.lst r15, by simp, fun y hy => ?_, by simp, rfl⟩
    simp at hy
    subst hy
    exact odL ((L513.trans (l14.trans l1416)).lst r5)
  ·intro _
   exact ⟨SLe.rfl, _, rfl, R13⟩
  ·rintro _ S14 ⟨l14, bad, rfl, R14⟩
   have L514 := L513.trans l14
   simp_all []
   refine (refusedT_w (t5.le L514) hTl R14).mono ?_
   rintro _ S15 ⟨rfl, l15⟩
   have L515 := L514.trans l15
   have L615 : SLe S6 S15 := L7.trans (l8.trans (L89.trans (l11.trans (l12.trans (l13.trans (l14.trans l15))))))
   simp_all [neD_tab (t5.le L515) (k5.le L515), modD_int (show (3 : Int) ≠ 0 by decide)]
   by_cases h3 : (v.fdiv ((ds.length : Nat) + 1)).fmod 3 = 0
   ·simp_all [h3]
    refine (hlt L515).mono ?_
    rintro _ S16 ⟨z, zs, rfl, l16, tz⟩
    simp_all [neD_tab tz (f5.tab.le (L515.trans l16))]
    exact ⟨L615.trans l16, _, _, _, _, _, rfl⟩
   ·simp_all [h3]
    exact ⟨L615, _, _, _, _, _, rfl⟩
 ·rintro δ S7 ⟨L7, o7, o8, o9, o10, o11, rfl⟩
  have L57 := l6.trans L7
  simp_all [tup3, tup4]
  have t7 := t5.le L57
  refine one23_w t7 hTl (fun S => odT rfl (by intro w r h; cases h <;> decide +kernel)) (dB_scale_row rfl) fun S8 l8 => ?_
  simp_all [tup3, tup4]
  refine one23_w (t7.le l8) hTl (fun S => odT rfl (by intro w r h; cases h <;> decide +kernel)) (dB_add (unl_r rfl)) fun S9 l9 => ?_
  have L79 := l8.trans l9
  simp_all [tup3, tup4]
  refine one23_w (t7.le L79) hTl (fun S => odT rfl (by intro w r h; cases h <;> decide +kernel)) (dB_swap (unl_r rfl)) fun S10 l10 => ?_
  simp_all [tup3, tup4]
  have L710 := L79.trans l10
  refine one23_w (t7.le L710) hTl (fun S => odT rfl (by intro w r h; cases h <;> decide +kernel)) (dB_swap (unl_l rfl)) fun S11 l11 => ?_
  have L711 := L710.trans l11
  simp_all []
  refine W_new (lstD_eq (by simp) _) fun S12 a12 l12 _ r12 => ?_
  simp_all [itL_ref r12]
  refine W_forK [.tup [.int 2, .int 4], .int 3, .non, .tup [.int 1, .int 0]] (fun i δ S' => SLe S12 S' ∧ ∃ o11 : Option D, δ = [some (.scr (ns.map D.int)), some (.int (m : Int)), some (.int (w : Int)), some (.ref t), some (.ref k), some (.ref b4), some (.ref u), o7, o8, o9, o10, o11]) (by rw [len_one r12]; exact Nat.le_refl _) ⟨SLe.rfl, _, rfl⟩ (fun i δ S' h => get_one (h.1.lst r12) i) ?_ ?_
  ·rintro i x δ S13 hx ⟨l13, o11, rfl⟩
   have key : atom1 x = true ∧ ratioB x = false := by
    have := zK hx
    simp only [List.mem_cons, List.not_mem_nil, or_false] at this
    rcases this with rfl | rfl | rfl | rfl <;> exact ⟨rfl, rfl⟩
   simp_all [tup3, tup4]
   refine one23_w (t7.le (L711.trans (l12.trans l13))) hTl (fun S => odP (fun y hy => ?_) (by intro w r h; cases h <;> decide +kernel)) (dB_add_ratio key.2) fun S14 l14 => ?_
   ·simp only [List.mem_cons, List.not_mem_nil, or_false] at hy
    rcases hy with rfl | rfl | rfl | rfl
    ·exact kn2_1 rfl
    ·exact kn2_1 rfl
    ·exact kn2_1 rfl
    ·exact kn2_1 key.1
   ·simp_all []
    exact ⟨l13.trans l14, _, rfl⟩
  ·rintro δ S13 ⟨l13, o11, rfl⟩
   have L713 := L711.trans (l12.trans l13)
   simp_all []
   refine W_new (lstD_eq (by simp) _) fun S14 a14 l14 _ r14 => ?_
   refine W_new (lstD_eq (by simp) _) fun S15 a15 l15 _ r15 => ?_
   have t14 : TabR S15 a14 [] [] := ⟨l15.lst r14, rfl, fun i b r h => by simp at h⟩
   refine done_w (ds := []) (k := 0) (N := 1) t14 r15 (fun _ h => by cases h) (fun _ h => by cases h) (by omega) (by simp) (by simp) (fun i _ r h => by simp [doneR] at h) (fun _ h => by cases h) (by decide) fun S16 c16 cs16 l16 f16 => ?_
   refine W_new (lstD_eq (by simp) _) fun S17 a17 l17 _ r17 => ?_
   have t17 : TabR S17 a17 [] [] := ⟨r17, rfl, fun i b r h => by simp at h⟩
   simp_all [eqD_tab (f16.tab.le l17) t17, show doneR [] [] = [] from rfl, tup3]
   refine W_new (lstD_eq (by simp) _) fun S18 a18 l18 _ r18 => ?_
   have t18 : TabR S18 a18 [] [] := ⟨r18, rfl, fun i b r h => by simp at h⟩
   refine one23_w (m := 0) t18 rfl (fun S => odT rfl (by intro w r h; cases h <;> decide +kernel)) (dB_scale_row rfl) fun S19 l19 => ?_
   have L519 := L57.trans (L713.trans (l14.trans (l15.trans (l16.trans (l17.trans (l18.trans l19))))))
   simp_all []
   refine (hlt L519).mono ?_
   rintro _ S20 ⟨z, zs, rfl, l20, tz⟩
   simp_all [eqD_tab tz (f5.tab.le (L519.trans l20))]
end Nm
end
section
namespace Tm
open PySem PySem.Spec PyProof.Rows L2 Np
def top (i : Nat) : Stmt := PySem.Challenge.pw_nearplane_k23_no_deeds.main.body.getD i (.Pass ⟨0, 0, 0, 0⟩)
abbrev s_is_whole : Stmt := top 14
theorem sc_is_whole : zN ["thing"] ["thing"] (zC s_is_whole) := ⟨rfl, rfl, rfl, by decide +kernel, rfl, by decide +kernel, by decide +kernel⟩
abbrev s_greatest_common : Stmt := top 16
theorem sc_greatest_common : zN ["one", "other", "larger", "smaller", "rest"] ["one", "other"] (zC s_greatest_common) := ⟨rfl, rfl, rfl, by decide +kernel, rfl, by decide +kernel, by decide +kernel⟩
abbrev s_is_ratio : Stmt := top 15
theorem sc_is_ratio : zN ["thing"] ["thing"] (zC s_is_ratio) := ⟨rfl, rfl, rfl, by decide +kernel, rfl, by decide +kernel, by decide +kernel⟩
abbrev s_ratio : Stmt := top 17
theorem sc_ratio : zN ["top", "bottom", "common"] ["top", "bottom"] (zC s_ratio) := ⟨rfl, rfl, rfl, by decide +kernel, rfl, by decide +kernel, by decide +kernel⟩
abbrev s_plus : Stmt := top 18
theorem sc_plus : zN ["one", "other"] ["one", "other"] (zC s_plus) := ⟨rfl, rfl, rfl, by decide +kernel, rfl, by decide +kernel, by decide +kernel⟩
abbrev s_times : Stmt := top 19
theorem sc_times : zN ["one", "other"] ["one", "other"] (zC s_times) := ⟨rfl, rfl, rfl, by decide +kernel, rfl, by decide +kernel, by decide +kernel⟩
abbrev s_added : Stmt := top 21
theorem sc_added : zN ["one", "other"] ["one", "other"] (zC s_added) := ⟨rfl, rfl, rfl, by decide +kernel, rfl, by decide +kernel, by decide +kernel⟩
abbrev s_scaled : Stmt := top 22
theorem sc_scaled : zN ["row", "by"] ["row", "by"] (zC s_scaled) := ⟨rfl, rfl, rfl, by decide +kernel, rfl, by decide +kernel, by decide +kernel⟩
abbrev s_is_row_number : Stmt := top 28
theorem sc_is_row_number : zN ["thing", "many"] ["thing", "many"] (zC s_is_row_number) := ⟨rfl, rfl, rfl, by decide +kernel, rfl, by decide +kernel, by decide +kernel⟩
abbrev s_are_unlike_rows : Stmt := top 29
theorem sc_are_unlike_rows : zN ["one", "other", "many"] ["one", "other", "many"] (zC s_are_unlike_rows) := ⟨rfl, rfl, rfl, by decide +kernel, rfl, by decide +kernel, by decide +kernel⟩
abbrev s_is_deed : Stmt := top 27
theorem sc_is_deed : zN ["thing", "many", "word"] ["thing", "many"] (zC s_is_deed) := ⟨rfl, rfl, rfl, by decide +kernel, rfl, by decide +kernel, by decide +kernel⟩
abbrev s_are_deeds : Stmt := top 26
theorem sc_are_deeds : zN ["thing", "many"] ["thing", "many"] (zC s_are_deeds) := ⟨rfl, rfl, rfl, by decide +kernel, rfl, by decide +kernel, by decide +kernel⟩
abbrev s_done_once : Stmt := top 25
theorem sc_done_once : zN ["table", "deed", "told", "i"] ["table", "deed"] (zC s_done_once) := ⟨rfl, rfl, rfl, by decide +kernel, rfl, by decide +kernel, by decide +kernel⟩
abbrev s_done : Stmt := top 24
theorem sc_done : zN ["table", "deeds", "told", "deed"] ["table", "deeds"] (zC s_done) := ⟨rfl, rfl, rfl, by decide +kernel, rfl, by decide +kernel, by decide +kernel⟩
abbrev s__law_cell_at : Stmt := top 31
theorem sc__law_cell_at : zN ["_law_script", "_law_k"] ["_law_script", "_law_k"] (zC s__law_cell_at) := ⟨rfl, rfl, rfl, by decide +kernel, rfl, by decide +kernel, by decide +kernel⟩
abbrev s__law_great : Stmt := top 32
theorem sc__law_great : zN ["_law_cell", "_law_bound"] ["_law_cell"] (zC s__law_great) := ⟨rfl, rfl, rfl, by decide +kernel, rfl, by decide +kernel, by decide +kernel⟩
abbrev s__law_low : Stmt := top 33
theorem sc__law_low : zN ["_law_top", "_law_bottom", "_law_one", "_law_other"] ["_law_top", "_law_bottom"] (zC s__law_low) := ⟨rfl, rfl, rfl, by decide +kernel, rfl, by decide +kernel, by decide +kernel⟩
abbrev s__law_ratio : Stmt := top 34
theorem sc__law_ratio : zN ["_law_number", "_law_way", "_law_top"] ["_law_number"] (zC s__law_ratio) := ⟨rfl, rfl, rfl, by decide +kernel, rfl, by decide +kernel, by decide +kernel⟩
abbrev s__law_row : Stmt := top 35
theorem sc__law_row : zN ["_law_number", "_law_long", "_law_row_here", "_law_k", "_law_one"] ["_law_number", "_law_long"] (zC s__law_row) := ⟨rfl, rfl, rfl, by decide +kernel, rfl, by decide +kernel, by decide +kernel⟩
abbrev s__law_plus : Stmt := top 36
theorem sc__law_plus : zN ["_law_one", "_law_other"] ["_law_one", "_law_other"] (zC s__law_plus) := ⟨rfl, rfl, rfl, by decide +kernel, rfl, by decide +kernel, by decide +kernel⟩
abbrev s__law_times : Stmt := top 37
theorem sc__law_times : zN ["_law_one", "_law_other"] ["_law_one", "_law_other"] (zC s__law_times) := ⟨rfl, rfl, rfl, by decide +kernel, rfl, by decide +kernel, by decide +kernel⟩
abbrev s__law_mix : Stmt := top 38
theorem sc__law_mix : zN ["_law_rows", "_law_shares", "_law_long", "_law_found", "_law_row_here", "_law_share"] ["_law_rows", "_law_shares", "_law_long"] (zC s__law_mix) := ⟨rfl, rfl, rfl, by decide +kernel, rfl, by decide +kernel, by decide +kernel⟩
abbrev s__law_table : Stmt := top 39
theorem sc__law_table : zN ["_law_cells", "_law_wide", "_law_mixing", "_law_table_here", "_law_k", "_law_number", "_law_row_here", "_law_shares"] ["_law_cells", "_law_wide", "_law_mixing"] (zC s__law_table) := ⟨rfl, rfl, rfl, by decide +kernel, rfl, by decide +kernel, by decide +kernel⟩
abbrev s__law_deed : Stmt := top 40
theorem sc__law_deed : zN ["_law_number", "_law_many", "_law_way", "_law_i", "_law_j", "_law_by"] ["_law_number", "_law_many"] (zC s__law_deed) := ⟨rfl, rfl, rfl, by decide +kernel, rfl, by decide +kernel, by decide +kernel⟩
abbrev s__law_done : Stmt := top 41
theorem sc__law_done : zN ["_law_table_here", "_law_deeds", "_law_found", "_law_deed_here", "_law_i", "_law_held"] ["_law_table_here", "_law_deeds"] (zC s__law_done) := ⟨rfl, rfl, rfl, by decide +kernel, rfl, by decide +kernel, by decide +kernel⟩
abbrev s__law_odd_deed : Stmt := top 42
theorem sc__law_odd_deed : zN ["_law_number", "_law_many", "_law_way", "_law_i", "_law_far", "_law_by", "_law_some"] ["_law_number", "_law_many"] (zC s__law_odd_deed) := ⟨rfl, rfl, rfl, by decide +kernel, rfl, by decide +kernel, by decide +kernel⟩
abbrev s__law_refused : Stmt := top 43
theorem sc__law_refused : zN ["_law_table_here", "_law_deeds", "_law_told", "e"] ["_law_table_here", "_law_deeds"] (zC s__law_refused) := ⟨rfl, rfl, rfl, by decide +kernel, rfl, by decide +kernel, by decide +kernel⟩
abbrev s_law : Stmt := top 44
theorem sc_law : zN ["_law_script", "_law_many", "_law_wide", "_law_table_here", "_law_kept", "_law_deeds", "_law_due", "_law_cell", "_law_number", "_law_at", "_law_bad", "_law_by"] ["_law_script"] (zC s_law) := ⟨rfl, rfl, rfl, by decide +kernel, rfl, by decide +kernel, by decide +kernel⟩
section
variable {P : Program} {w : World} {K : PySem.W.Frag} {mg : Str → Option Value} {base : Heap}
theorem ok_is_whole (ht : P.given.tree = none) {f : Addr} {fd : FuncData} (fF : FunG K "is_whole" "is_whole" s_is_whole f fd) (m_bool : mg "bool" = none) (m_int : mg "int" = none) (m_isinstance : mg "isinstance" = none) :
  FnOk P w K mg base CX0 1 f fd ["thing"] (spF ⟨K, mg⟩ F.k02_whole) :=
 fn_N 1 1 Den.k02_whole rfl fF sc_is_whole rfl rfl fun cdv A outer s H hr =>
  (zJ (zP (pd_andV (pd_isi .int (by decide +kernel) rfl m_isinstance rfl m_int (zA 0)) (pd_oneV (pd_notV (pd_isi .bool (by decide +kernel) rfl m_isinstance rfl m_bool (zA 0)))))))
theorem ok_greatest_common (ht : P.given.tree = none) {f : Addr} {fd : FuncData} (fF : FunG K "greatest_common" "greatest_common" s_greatest_common f fd) :
  FnOk P w K mg base CX0 1 f fd ["one", "other"] (spF ⟨K, mg⟩ F.greatest_common) :=
 fn_N 5 2 Den.greatest_common rfl fF sc_greatest_common rfl rfl fun cdv A outer s H hr =>
  (zD (zS 2 sc_greatest_common.nd (zA 0)) (zD (zS 3 sc_greatest_common.nd (zA 1)) (zD (pd_while PassesOwn.never (zY (op_neX hr) od_ne (zA 3) zF (zZ _)) (zD (zS 4 sc_greatest_common.nd (pd_op op_modN od_mod (zA 2) (zA 3))) (zD (zS 2 sc_greatest_common.nd (zA 3)) (zJ (zS 3 sc_greatest_common.nd (zA 4)))))) (zJ (zP (zA 2))))))
theorem ok_is_ratio (ht : P.given.tree = none) {f : Addr} {fd : FuncData} (fF : FunG K "is_ratio" "is_ratio" s_is_ratio f fd) {f_is_whole : Addr} {d_is_whole : FuncData} (O_is_whole : FnOk P w K mg base CX0 1 f_is_whole d_is_whole ["thing"] (spF ⟨K, mg⟩ F.k02_whole)) (b_is_whole : zV K d_is_whole ["thing"] []) (k_is_whole : PySem.W.keepIn K (.ref f_is_whole) = true) (m_is_whole : mg "is_whole" = some (.ref f_is_whole)) {f_greatest_common : Addr} {d_greatest_common : FuncData} (O_greatest_common : FnOk P w K mg base CX0 1 f_greatest_common d_greatest_common ["one", "other"] (spF ⟨K, mg⟩ F.greatest_common)) (b_greatest_common : zV K d_greatest_common ["one", "other"] []) (k_greatest_common : PySem.W.keepIn K (.ref f_greatest_common) = true) (m_greatest_common : mg "greatest_common" = some (.ref f_greatest_common)) (m_abs : mg "abs" = none) (m_isinstance : mg "isinstance" = none) (m_len : mg "len" = none) (m_tuple : mg "tuple" = none) :
  FnOk P w K mg base CX0 2 f fd ["thing"] (spF ⟨K, mg⟩ F.is_ratio) :=
 fn_N 1 1 Den.is_ratio rfl fF sc_is_ratio rfl rfl fun cdv A outer s H hr =>
  (zD (pd_if (pd_wt (pd_or (pd_not (pt_valD (pd_isi .tup (by decide +kernel) rfl m_isinstance rfl m_tuple (zA 0)))) (pd_or1 (zY (op_neX hr) od_ne (yA call_lenX cd_len rfl m_len (by decide +kernel) (zB (zA 0) zE)) zF (zZ _))))) (zJ (zP pd_bl)) pds_nil) (zD (pd_if (pd_wt (pd_or (pd_not (pt_valD (pd_fn (O_is_whole.mono (by decide)) hr rfl m_is_whole k_is_whole b_is_whole zT (zB (pd_ix ix_X zU (zA 0) zF (fun _ _ => rfl)) zE)))) (pd_or1 (pd_not (pt_valD (pd_fn (O_is_whole.mono (by decide)) hr rfl m_is_whole k_is_whole b_is_whole zT (zB (pd_ix ix_X zU (zA 0) zF (fun _ _ => rfl)) zE))))))) (zJ (zP pd_bl)) pds_nil) (zJ (zP (pd_andV (pd_cmp op_ge od_ge (pd_ix ix_X zU (zA 0) zF (fun _ _ => rfl)) zF (zZ _)) (pd_oneV (pd_cmp (op_eqX hr) od_eq (pd_fn (O_greatest_common.mono (by decide)) hr rfl m_greatest_common k_greatest_common b_greatest_common zT (zB (yA call_abs cd_abs rfl m_abs (by decide +kernel) (zB (pd_ix ix_X zU (zA 0) zF (fun _ _ => rfl)) zE)) (zB (pd_ix ix_X zU (zA 0) zF (fun _ _ => rfl)) zE))) zF (zZ _))))))))
theorem ok_ratio (ht : P.given.tree = none) {f : Addr} {fd : FuncData} (fF : FunG K "ratio" "ratio" s_ratio f fd) {f_greatest_common : Addr} {d_greatest_common : FuncData} (O_greatest_common : FnOk P w K mg base CX0 1 f_greatest_common d_greatest_common ["one", "other"] (spF ⟨K, mg⟩ F.greatest_common)) (b_greatest_common : zV K d_greatest_common ["one", "other"] []) (k_greatest_common : PySem.W.keepIn K (.ref f_greatest_common) = true) (m_greatest_common : mg "greatest_common" = some (.ref f_greatest_common)) (m_abs : mg "abs" = none) :
  FnOk P w K mg base CX0 2 f fd ["top", "bottom"] (spF ⟨K, mg⟩ F.ratio) :=
 fn_N 3 2 Den.ratio rfl fF sc_ratio rfl rfl fun cdv A outer s H hr =>
  (zD (pd_if (zY (op_eqX hr) od_eq (zA 1) zF (zZ _)) (zJ pd_never) pds_nil) (zD (zS 2 sc_ratio.nd (pd_fn (O_greatest_common.mono (by decide)) hr rfl m_greatest_common k_greatest_common b_greatest_common zT (zB (yA call_abs cd_abs rfl m_abs (by decide +kernel) (zB (zA 0) zE)) (zB (yA call_abs cd_abs rfl m_abs (by decide +kernel) (zB (zA 1) zE)) zE)))) (zD (pd_if (zY op_lt od_lt (zA 1) zF (zZ _)) (zJ (zS 2 sc_ratio.nd (pd_un un_neg ud_neg (zA 2)))) pds_nil) (zJ (zP (pd_tup (zB (pd_op (op_fdivX hr ht rfl sc_ratio.gen sc_ratio.co) od_fdiv (zA 0) (zA 2)) (zB (pd_op (op_fdivX hr ht rfl sc_ratio.gen sc_ratio.co) od_fdiv (zA 1) (zA 2)) zE))))))))
theorem ok_plus (ht : P.given.tree = none) {f : Addr} {fd : FuncData} (fF : FunG K "plus" "plus" s_plus f fd) {f_ratio : Addr} {d_ratio : FuncData} (O_ratio : FnOk P w K mg base CX0 2 f_ratio d_ratio ["top", "bottom"] (spF ⟨K, mg⟩ F.ratio)) (b_ratio : zV K d_ratio ["top", "bottom"] []) (k_ratio : PySem.W.keepIn K (.ref f_ratio) = true) (m_ratio : mg "ratio" = some (.ref f_ratio)) :
  FnOk P w K mg base CX0 3 f fd ["one", "other"] (spF ⟨K, mg⟩ F.plus) :=
 fn_N 2 2 Den.plus rfl fF sc_plus rfl rfl fun cdv A outer s H hr =>
  (zJ (zP (pd_fn (O_ratio.mono (by decide)) hr rfl m_ratio k_ratio b_ratio zT (zB (pd_op op_addX od_add (pd_op op_mulX od_mul (pd_ix ix_X zU (zA 0) zF (fun _ _ => rfl)) (pd_ix ix_X zU (zA 1) zF (fun _ _ => rfl))) (pd_op op_mulX od_mul (pd_ix ix_X zU (zA 1) zF (fun _ _ => rfl)) (pd_ix ix_X zU (zA 0) zF (fun _ _ => rfl)))) (zB (pd_op op_mulX od_mul (pd_ix ix_X zU (zA 0) zF (fun _ _ => rfl)) (pd_ix ix_X zU (zA 1) zF (fun _ _ => rfl))) zE)))))
theorem ok_times (ht : P.given.tree = none) {f : Addr} {fd : FuncData} (fF : FunG K "times" "times" s_times f fd) {f_ratio : Addr} {d_ratio : FuncData} (O_ratio : FnOk P w K mg base CX0 2 f_ratio d_ratio ["top", "bottom"] (spF ⟨K, mg⟩ F.ratio)) (b_ratio : zV K d_ratio ["top", "bottom"] []) (k_ratio : PySem.W.keepIn K (.ref f_ratio) = true) (m_ratio : mg "ratio" = some (.ref f_ratio)) :
  FnOk P w K mg base CX0 3 f fd ["one", "other"] (spF ⟨K, mg⟩ F.times) :=
 fn_N 2 2 Den.times rfl fF sc_times rfl rfl fun cdv A outer s H hr =>
  (zJ (zP (pd_fn (O_ratio.mono (by decide)) hr rfl m_ratio k_ratio b_ratio zT (zB (pd_op op_mulX od_mul (pd_ix ix_X zU (zA 0) zF (fun _ _ => rfl)) (pd_ix ix_X zU (zA 1) zF (fun _ _ => rfl))) (zB (pd_op op_mulX od_mul (pd_ix ix_X zU (zA 0) zF (fun _ _ => rfl)) (pd_ix ix_X zU (zA 1) zF (fun _ _ => rfl))) zE)))))
theorem ok_added (ht : P.given.tree = none) {f : Addr} {fd : FuncData} (fF : FunG K "added" "added" s_added f fd) {f_plus : Addr} {d_plus : FuncData} (O_plus : FnOk P w K mg base CX0 3 f_plus d_plus ["one", "other"] (spF ⟨K, mg⟩ F.plus)) (b_plus : zV K d_plus ["one", "other"] []) (k_plus : PySem.W.keepIn K (.ref f_plus) = true) (m_plus : mg "plus" = some (.ref f_plus)) (m_zip : mg "zip" = none) :
  FnOk P w K mg base CX0 4 f fd ["one", "other"] (spF ⟨K, mg⟩ F.added) :=
 fn_N 2 2 Den.added rfl fF sc_added rfl rfl fun cdv A outer s H hr =>
  (zJ (zP (pd_comp (N' := ["one", "other", "first", "second"]) 2 (CompOk.mk (N := ["one", "other"]) (fsc := zC s_added) (N' := ["one", "other", "first", "second"]) rfl (by decide +kernel) (by decide +kernel) (by decide +kernel) (by decide +kernel) (by decide) (by decide +kernel)) rfl (pdi_zip rfl m_zip (zA 0) (zA 1)) (fun _ _ _ _ _ => (pdg_tup rfl (zX (zL 2 (show List.Nodup (["one", "other", "first", "second"] : List Str) by decide +kernel)) (zX (zL 3 (show List.Nodup (["one", "other", "first", "second"] : List Str) by decide +kernel)) pdgs_nil)))) (fun _ _ _ _ _ => (pd_fn (O_plus.mono (by decide)) hr rfl m_plus k_plus b_plus zT (zB (zA 2) (zB (zA 3) zE)))))))
theorem ok_scaled (ht : P.given.tree = none) {f : Addr} {fd : FuncData} (fF : FunG K "scaled" "scaled" s_scaled f fd) {f_times : Addr} {d_times : FuncData} (O_times : FnOk P w K mg base CX0 3 f_times d_times ["one", "other"] (spF ⟨K, mg⟩ F.times)) (b_times : zV K d_times ["one", "other"] []) (k_times : PySem.W.keepIn K (.ref f_times) = true) (m_times : mg "times" = some (.ref f_times)) :
  FnOk P w K mg base CX0 4 f fd ["row", "by"] (spF ⟨K, mg⟩ F.scaled) :=
 fn_N 2 2 Den.scaled rfl fF sc_scaled rfl rfl fun cdv A outer s H hr =>
  (zJ (zP (pd_comp (N' := ["row", "by", "thing"]) 1 (CompOk.mk (N := ["row", "by"]) (fsc := zC s_scaled) (N' := ["row", "by", "thing"]) rfl (by decide +kernel) (by decide +kernel) (by decide +kernel) (by decide +kernel) (by decide) (by decide +kernel)) rfl (pdi_list (zA 0)) (fun _ _ _ _ _ => (zL 2 (show List.Nodup (["row", "by", "thing"] : List Str) by decide +kernel))) (fun _ _ _ _ _ => (pd_fn (O_times.mono (by decide)) hr rfl m_times k_times b_times zT (zB (zA 2) (zB (zA 1) zE)))))))
theorem ok_is_row_number (ht : P.given.tree = none) {f : Addr} {fd : FuncData} (fF : FunG K "is_row_number" "is_row_number" s_is_row_number f fd) {f_is_whole : Addr} {d_is_whole : FuncData} (O_is_whole : FnOk P w K mg base CX0 1 f_is_whole d_is_whole ["thing"] (spF ⟨K, mg⟩ F.k02_whole)) (b_is_whole : zV K d_is_whole ["thing"] []) (k_is_whole : PySem.W.keepIn K (.ref f_is_whole) = true) (m_is_whole : mg "is_whole" = some (.ref f_is_whole)) :
  FnOk P w K mg base CX0 2 f fd ["thing", "many"] (spF ⟨K, mg⟩ F.is_row_number) :=
 fn_N 2 2 Den.is_row_number rfl fF sc_is_row_number rfl rfl fun cdv A outer s H hr =>
  (zJ (zP (pd_andV (pd_fn (O_is_whole.mono (by decide)) hr rfl m_is_whole k_is_whole b_is_whole zT (zB (zA 0) zE)) (pd_oneV (pd_chain op_le od_le op_lt od_lt zF (zA 0) (zA 1))))))
theorem ok_are_unlike_rows (ht : P.given.tree = none) {f : Addr} {fd : FuncData} (fF : FunG K "are_unlike_rows" "are_unlike_rows" s_are_unlike_rows f fd) {f_is_row_number : Addr} {d_is_row_number : FuncData} (O_is_row_number : FnOk P w K mg base CX0 2 f_is_row_number d_is_row_number ["thing", "many"] (spF ⟨K, mg⟩ F.is_row_number)) (b_is_row_number : zV K d_is_row_number ["thing", "many"] []) (k_is_row_number : PySem.W.keepIn K (.ref f_is_row_number) = true) (m_is_row_number : mg "is_row_number" = some (.ref f_is_row_number)) :
  FnOk P w K mg base CX0 3 f fd ["one", "other", "many"] (spF ⟨K, mg⟩ F.are_unlike_rows) :=
 fn_N 3 3 Den.are_unlike_rows rfl fF sc_are_unlike_rows rfl rfl fun cdv A outer s H hr =>
  (zJ (zP (pd_andV (pd_fn (O_is_row_number.mono (by decide)) hr rfl m_is_row_number k_is_row_number b_is_row_number zT (zB (zA 0) (zB (zA 2) zE))) (pd_andV (pd_fn (O_is_row_number.mono (by decide)) hr rfl m_is_row_number k_is_row_number b_is_row_number zT (zB (zA 1) (zB (zA 2) zE))) (pd_oneV (pd_cmp (op_neX hr) od_ne (zA 0) (zA 1) (zZ _)))))))
theorem ok_is_deed (ht : P.given.tree = none) {f : Addr} {fd : FuncData} (fF : FunG K "is_deed" "is_deed" s_is_deed f fd) {f_are_unlike_rows : Addr} {d_are_unlike_rows : FuncData} (O_are_unlike_rows : FnOk P w K mg base CX0 3 f_are_unlike_rows d_are_unlike_rows ["one", "other", "many"] (spF ⟨K, mg⟩ F.are_unlike_rows)) (b_are_unlike_rows : zV K d_are_unlike_rows ["one", "other", "many"] []) (k_are_unlike_rows : PySem.W.keepIn K (.ref f_are_unlike_rows) = true) (m_are_unlike_rows : mg "are_unlike_rows" = some (.ref f_are_unlike_rows)) {f_is_row_number : Addr} {d_is_row_number : FuncData} (O_is_row_number : FnOk P w K mg base CX0 2 f_is_row_number d_is_row_number ["thing", "many"] (spF ⟨K, mg⟩ F.is_row_number)) (b_is_row_number : zV K d_is_row_number ["thing", "many"] []) (k_is_row_number : PySem.W.keepIn K (.ref f_is_row_number) = true) (m_is_row_number : mg "is_row_number" = some (.ref f_is_row_number)) {f_is_ratio : Addr} {d_is_ratio : FuncData} (O_is_ratio : FnOk P w K mg base CX0 2 f_is_ratio d_is_ratio ["thing"] (spF ⟨K, mg⟩ F.is_ratio)) (b_is_ratio : zV K d_is_ratio ["thing"] []) (k_is_ratio : PySem.W.keepIn K (.ref f_is_ratio) = true) (m_is_ratio : mg "is_ratio" = some (.ref f_is_ratio)) (m_isinstance : mg "isinstance" = none) (m_len : mg "len" = none) (m_str : mg "str" = none) (m_tuple : mg "tuple" = none) (hC_NOUGHT : CstAt K mg "NOUGHT" (.tup [(.int 0), (.int 1)])) :
  FnOk P w K mg base CX0 4 f fd ["thing", "many"] (spF ⟨K, mg⟩ F.is_deed) :=
 fn_N 3 2 Den.is_deed rfl fF sc_is_deed rfl rfl fun cdv A outer s H hr =>
  (zD (pd_if (pd_wt (pd_or (pd_not (pt_valD (pd_isi .tup (by decide +kernel) rfl m_isinstance rfl m_tuple (zA 0)))) (pd_or1 (zY (op_eqX hr) od_eq (yA call_lenX cd_len rfl m_len (by decide +kernel) (zB (zA 0) zE)) zF (zZ _))))) (zJ (zP pd_bl)) pds_nil) (zD (zS 2 sc_is_deed.nd (pd_ix ix_X zU (zA 0) zF (fun _ _ => rfl))) (zD (pd_if (pd_not (pt_valD (pd_isi .str (by decide +kernel) rfl m_isinstance rfl m_str (zA 2)))) (zJ (zP pd_bl)) pds_nil) (zD (pd_if (zY (op_eqX hr) od_eq (zA 2) pd_str (zZ _)) (zJ (zP (pd_andV (pd_cmp (op_eqX hr) od_eq (yA call_lenX cd_len rfl m_len (by decide +kernel) (zB (zA 0) zE)) zF (zZ _)) (pd_oneV (pd_fn (O_are_unlike_rows.mono (by decide)) hr rfl m_are_unlike_rows k_are_unlike_rows b_are_unlike_rows zT (zB (pd_ix ix_X zU (zA 0) zF (fun _ _ => rfl)) (zB (pd_ix ix_X zU (zA 0) zF (fun _ _ => rfl)) (zB (zA 1) zE)))))))) pds_nil) (zD (pd_if (zY (op_eqX hr) od_eq (zA 2) pd_str (zZ _)) (zJ (zP (pd_andV (pd_cmp (op_eqX hr) od_eq (yA call_lenX cd_len rfl m_len (by decide +kernel) (zB (zA 0) zE)) zF (zZ _)) (pd_andV (pd_fn (O_is_row_number.mono (by decide)) hr rfl m_is_row_number k_is_row_number b_is_row_number zT (zB (pd_ix ix_X zU (zA 0) zF (fun _ _ => rfl)) (zB (zA 1) zE))) (pd_andV (pd_fn (O_is_ratio.mono (by decide)) hr rfl m_is_ratio k_is_ratio b_is_ratio zT (zB (pd_ix ix_X zU (zA 0) zF (fun _ _ => rfl)) zE)) (pd_oneV (pd_cmp (op_neX hr) od_ne (pd_ix ix_X zU (zA 0) zF (fun _ _ => rfl)) (pd_C rfl hC_NOUGHT) (zZ _)))))))) pds_nil) (zD (pd_if (zY (op_eqX hr) od_eq (zA 2) pd_str (zZ _)) (zJ (zP (pd_andV (pd_cmp (op_eqX hr) od_eq (yA call_lenX cd_len rfl m_len (by decide +kernel) (zB (zA 0) zE)) zF (zZ _)) (pd_andV (pd_fn (O_are_unlike_rows.mono (by decide)) hr rfl m_are_unlike_rows k_are_unlike_rows b_are_unlike_rows zT (zB (pd_ix ix_X zU (zA 0) zF (fun _ _ => rfl)) (zB (pd_ix ix_X zU (zA 0) zF (fun _ _ => rfl)) (zB (zA 1) zE)))) (pd_oneV (pd_fn (O_is_ratio.mono (by decide)) hr rfl m_is_ratio k_is_ratio b_is_ratio zT (zB (pd_ix ix_X zU (zA 0) zF (fun _ _ => rfl)) zE))))))) pds_nil) (zJ (zP pd_bl))))))))
theorem ok_are_deeds (ht : P.given.tree = none) {f : Addr} {fd : FuncData} (fF : FunG K "are_deeds" "are_deeds" s_are_deeds f fd) {f_is_deed : Addr} {d_is_deed : FuncData} (O_is_deed : FnOk P w K mg base CX0 4 f_is_deed d_is_deed ["thing", "many"] (spF ⟨K, mg⟩ F.is_deed)) (b_is_deed : zV K d_is_deed ["thing", "many"] []) (k_is_deed : PySem.W.keepIn K (.ref f_is_deed) = true) (m_is_deed : mg "is_deed" = some (.ref f_is_deed)) (m_all : mg "all" = none) (m_isinstance : mg "isinstance" = none) (m_list : mg "list" = none) :
  FnOk P w K mg base CX0 5 f fd ["thing", "many"] (spF ⟨K, mg⟩ F.are_deeds) :=
 fn_N 2 2 Den.are_deeds rfl fF sc_are_deeds rfl rfl fun cdv A outer s H hr =>
  (zD (pd_if (pd_not (pt_valD (pd_isi .lst (by decide +kernel) rfl m_isinstance rfl m_list (zA 0)))) (zJ (zP pd_bl)) pds_nil) (zJ (zP (yA (call_allX rfl) cd_all rfl m_all (by decide +kernel) (zB (pd_comp (N' := ["thing", "many", "one"]) 1 (CompOk.mk (N := ["thing", "many"]) (fsc := zC s_are_deeds) (N' := ["thing", "many", "one"]) rfl (by decide +kernel) (by decide +kernel) (by decide +kernel) (by decide +kernel) (by decide) (by decide +kernel)) rfl (pdi_list (zA 0)) (fun _ _ _ _ _ => (zL 2 (show List.Nodup (["thing", "many", "one"] : List Str) by decide +kernel))) (fun _ _ _ _ _ => (pd_fn (O_is_deed.mono (by decide)) hr rfl m_is_deed k_is_deed b_is_deed zT (zB (zA 2) (zB (zA 1) zE))))) zE)))))
theorem ok_done_once (ht : P.given.tree = none) {f : Addr} {fd : FuncData} (fF : FunG K "done_once" "done_once" s_done_once f fd) {f_scaled : Addr} {d_scaled : FuncData} (O_scaled : FnOk P w K mg base CX0 4 f_scaled d_scaled ["row", "by"] (spF ⟨K, mg⟩ F.scaled)) (b_scaled : zV K d_scaled ["row", "by"] []) (k_scaled : PySem.W.keepIn K (.ref f_scaled) = true) (m_scaled : mg "scaled" = some (.ref f_scaled)) {f_added : Addr} {d_added : FuncData} (O_added : FnOk P w K mg base CX0 4 f_added d_added ["one", "other"] (spF ⟨K, mg⟩ F.added)) (b_added : zV K d_added ["one", "other"] []) (k_added : PySem.W.keepIn K (.ref f_added) = true) (m_added : mg "added" = some (.ref f_added)) (m_list : mg "list" = none) :
  FnOk P w K mg base CX0 5 f fd ["table", "deed"] (spF ⟨K, mg⟩ F.done_once) :=
 fn_N 4 2 Den.done_once rfl fF sc_done_once rfl rfl fun cdv A outer s H hr =>
  (zD (zS 2 sc_done_once.nd (pd_callTy call_list_of cd_lof rfl m_list (by decide +kernel) (zB (zA 0) zE))) (zD (zS 3 sc_done_once.nd (pd_ix ix_X zU (zA 1) zF (fun _ _ => rfl))) (zD (pd_if (zY (op_eqX hr) od_eq (pd_ix ix_X zU (zA 1) zF (fun _ _ => rfl)) pd_str (zZ _)) (zD (pd_asg (pd_ix ix_X zU (zA 0) (pd_ix ix_X zU (zA 1) zF (fun _ _ => rfl)) (fun _ _ => rfl)) (pdg_sub (zA 2) (zA 3))) (zJ (pd_asg (pd_ix ix_X zU (zA 0) (zA 3) (fun _ _ => rfl)) (pdg_sub (zA 2) (pd_ix ix_X zU (zA 1) zF (fun _ _ => rfl)))))) (zJ (pd_if (zY (op_eqX hr) od_eq (pd_ix ix_X zU (zA 1) zF (fun _ _ => rfl)) pd_str (zZ _)) (zJ (pd_asg (pd_fn (O_scaled.mono (by decide)) hr rfl m_scaled k_scaled b_scaled zT (zB (pd_ix ix_X zU (zA 0) (zA 3) (fun _ _ => rfl)) (zB (pd_ix ix_X zU (zA 1) zF (fun _ _ => rfl)) zE))) (pdg_sub (zA 2) (zA 3)))) (zJ (pd_asg (pd_fn (O_added.mono (by decide)) hr rfl m_added k_added b_added zT (zB (pd_ix ix_X zU (zA 0) (zA 3) (fun _ _ => rfl)) (zB (pd_fn (O_scaled.mono (by decide)) hr rfl m_scaled k_scaled b_scaled zT (zB (pd_ix ix_X zU (zA 0) (pd_ix ix_X zU (zA 1) zF (fun _ _ => rfl)) (fun _ _ => rfl)) (zB (pd_ix ix_X zU (zA 1) zF (fun _ _ => rfl)) zE))) zE))) (pdg_sub (zA 2) (zA 3))))))) (zJ (zP (zA 2))))))
theorem okx_done (ht : P.given.tree = none) {f : Addr} {fd : FuncData} (fF : FunG K "done" "done" s_done f fd) {f_are_deeds : Addr} {d_are_deeds : FuncData} (O_are_deeds : FnOk P w K mg base CX0 5 f_are_deeds d_are_deeds ["thing", "many"] (spF ⟨K, mg⟩ F.are_deeds)) (b_are_deeds : zV K d_are_deeds ["thing", "many"] []) (k_are_deeds : PySem.W.keepIn K (.ref f_are_deeds) = true) (m_are_deeds : mg "are_deeds" = some (.ref f_are_deeds)) {f_done_once : Addr} {d_done_once : FuncData} (O_done_once : FnOk P w K mg base CX0 5 f_done_once d_done_once ["table", "deed"] (spF ⟨K, mg⟩ F.done_once)) (b_done_once : zV K d_done_once ["table", "deed"] []) (k_done_once : PySem.W.keepIn K (.ref f_done_once) = true) (m_done_once : mg "done_once" = some (.ref f_done_once)) (m_len : mg "len" = none) (m_list : mg "list" = none) {C_NoDeed : Addr} (mC_NoDeed : mg "NoDeed" = some (.ref C_NoDeed)) (exc_NoDeed : PySem.W.excIn K C_NoDeed bmV "ValueError.__new__" = true) :
  FnOk P w K mg base (CX1 P w) 6 f fd ["table", "deeds"] (spF ⟨K, mg⟩ X.done) :=
 fn_X 4 2 DenX.done rfl fF sc_done rfl rfl fun cdv A outer s H E hr =>
  (zD (pd_if (pd_not (pt_valD (pd_fn (O_are_deeds.mono (by decide)) hr rfl m_are_deeds k_are_deeds b_are_deeds zT (zB (zA 1) (zB (yA call_lenX cd_len rfl m_len (by decide +kernel) (zB (zA 0) zE)) zE))))) (zJ (pd_raise raisesX rfl mC_NoDeed exc_NoDeed)) pds_nil) (zD (pd_noxS (pd_setComp 2 (N' := ["table", "deeds", "told", "deed", "row"]) 1 (CompOk.mk (N := ["table", "deeds", "told", "deed"]) (fsc := zC s_done) (N' := ["table", "deeds", "told", "deed", "row"]) rfl (by decide +kernel) (by decide +kernel) (by decide +kernel) (by decide +kernel) (by decide) (by decide +kernel)) rfl (pdi_list (zA 0)) (fun _ _ _ _ _ => (zL 4 (show List.Nodup (["table", "deeds", "told", "deed", "row"] : List Str) by decide +kernel))) (fun _ _ _ _ _ => (pd_callTy call_list_of cd_lof rfl m_list (by decide +kernel) (zB (zA 4) zE))) sc_done.nd)) (zD (pd_noxS (pd_for PassesOwn.never rfl (pdi_list (zA 1)) (zL 3 sc_done.nd) (zJ (zS 2 sc_done.nd (pd_fn (O_done_once.mono (by decide)) hr rfl m_done_once k_done_once b_done_once zT (zB (zA 2) (zB (zA 3) zE))))))) (zJ (pd_noxS (zP (zA 2)))))))
theorem ok_done (ht : P.given.tree = none) {f : Addr} {fd : FuncData} (fF : FunG K "done" "done" s_done f fd) {f_are_deeds : Addr} {d_are_deeds : FuncData} (O_are_deeds : FnOk P w K mg base CX0 5 f_are_deeds d_are_deeds ["thing", "many"] (spF ⟨K, mg⟩ F.are_deeds)) (b_are_deeds : zV K d_are_deeds ["thing", "many"] []) (k_are_deeds : PySem.W.keepIn K (.ref f_are_deeds) = true) (m_are_deeds : mg "are_deeds" = some (.ref f_are_deeds)) {f_done_once : Addr} {d_done_once : FuncData} (O_done_once : FnOk P w K mg base CX0 5 f_done_once d_done_once ["table", "deed"] (spF ⟨K, mg⟩ F.done_once)) (b_done_once : zV K d_done_once ["table", "deed"] []) (k_done_once : PySem.W.keepIn K (.ref f_done_once) = true) (m_done_once : mg "done_once" = some (.ref f_done_once)) (m_len : mg "len" = none) (m_list : mg "list" = none) :
  FnOk P w K mg base CX0 6 f fd ["table", "deeds"] (spF ⟨K, mg⟩ F.done) :=
 fn_N 4 2 Den.done rfl fF sc_done rfl rfl fun cdv A outer s H hr =>
  (zD (pd_if (pd_not (pt_valD (pd_fn (O_are_deeds.mono (by decide)) hr rfl m_are_deeds k_are_deeds b_are_deeds zT (zB (zA 1) (zB (yA call_lenX cd_len rfl m_len (by decide +kernel) (zB (zA 0) zE)) zE))))) (zJ pd_never) pds_nil) (zD (pd_setComp 2 (N' := ["table", "deeds", "told", "deed", "row"]) 1 (CompOk.mk (N := ["table", "deeds", "told", "deed"]) (fsc := zC s_done) (N' := ["table", "deeds", "told", "deed", "row"]) rfl (by decide +kernel) (by decide +kernel) (by decide +kernel) (by decide +kernel) (by decide) (by decide +kernel)) rfl (pdi_list (zA 0)) (fun _ _ _ _ _ => (zL 4 (show List.Nodup (["table", "deeds", "told", "deed", "row"] : List Str) by decide +kernel))) (fun _ _ _ _ _ => (pd_callTy call_list_of cd_lof rfl m_list (by decide +kernel) (zB (zA 4) zE))) sc_done.nd) (zD (pd_for PassesOwn.never rfl (pdi_list (zA 1)) (zL 3 sc_done.nd) (zJ (zS 2 sc_done.nd (pd_fn (O_done_once.mono (by decide)) hr rfl m_done_once k_done_once b_done_once zT (zB (zA 2) (zB (zA 3) zE)))))) (zJ (zP (zA 2))))))
theorem ok__law_cell_at (ht : P.given.tree = none) {f : Addr} {fd : FuncData} (fF : FunG K "_law_cell_at" "_law_cell_at" s__law_cell_at f fd) (m_len : mg "len" = none) :
  FnOk P w K mg base CX0 1 f fd ["_law_script", "_law_k"] (spF ⟨K, mg⟩ F.k11_cell_at) :=
 fn_N 2 2 Den.k11_cell_at rfl fF sc__law_cell_at rfl rfl fun cdv A outer s H hr =>
  (zD (pd_if (zY op_lt od_lt (zA 1) (yA call_lenX cd_len rfl m_len (by decide +kernel) (zB (zA 0) zE)) (zZ _)) (zJ (zP (pd_ix ix_X zU (zA 0) (zA 1) (fun _ _ => rfl)))) pds_nil) (zJ (zP zF)))
theorem ok__law_great (ht : P.given.tree = none) {f : Addr} {fd : FuncData} (fF : FunG K "_law_great" "_law_great" s__law_great f fd) :
  FnOk P w K mg base CX0 1 f fd ["_law_cell"] (spF ⟨K, mg⟩ F.k21_great) :=
 fn_N 2 1 Den.k21_great rfl fF sc__law_great rfl rfl fun cdv A outer s H hr =>
  (zD (zS 1 sc__law_great.nd (pd_op op_mulX od_mul (pd_op op_pow od_pow zF zF) (pd_op op_pow od_pow zF zF))) (zJ (zP (pd_op op_modN od_mod (pd_op op_mulX od_mul (pd_op op_addX od_add (pd_op op_modN od_mod (zA 0) (pd_op op_pow od_pow zF zF)) zF) (pd_op op_pow od_pow zF zF)) (zA 1)))))
theorem ok__law_low (ht : P.given.tree = none) {f : Addr} {fd : FuncData} (fF : FunG K "_law_low" "_law_low" s__law_low f fd) (m_abs : mg "abs" = none) :
  FnOk P w K mg base CX0 1 f fd ["_law_top", "_law_bottom"] (spF ⟨K, mg⟩ F.k21_low) :=
 fn_N 4 2 Den.k21_low rfl fF sc__law_low rfl rfl fun cdv A outer s H hr =>
  (zD (zS 2 sc__law_low.nd (yA call_abs cd_abs rfl m_abs (by decide +kernel) (zB (zA 0) zE))) (zD (zS 3 sc__law_low.nd (zA 1)) (zD (pd_while PassesOwn.never (zY op_gt od_gt (zA 3) zF (zZ _)) (zJ (pd_par 2 3 rfl sc__law_low.nd (zA 3) (pd_op op_modN od_mod (zA 2) (zA 3))))) (zJ (zP (pd_tup (zB (pd_op (op_fdivX hr ht rfl sc__law_low.gen sc__law_low.co) od_fdiv (zA 0) (zA 2)) (zB (pd_op (op_fdivX hr ht rfl sc__law_low.gen sc__law_low.co) od_fdiv (zA 1) (zA 2)) zE))))))))
theorem ok__law_ratio (ht : P.given.tree = none) {f : Addr} {fd : FuncData} (fF : FunG K "_law_ratio" "_law_ratio" s__law_ratio f fd) {f__law_low : Addr} {d__law_low : FuncData} (O__law_low : FnOk P w K mg base CX0 1 f__law_low d__law_low ["_law_top", "_law_bottom"] (spF ⟨K, mg⟩ F.k21_low)) (b__law_low : zV K d__law_low ["_law_top", "_law_bottom"] []) (k__law_low : PySem.W.keepIn K (.ref f__law_low) = true) (m__law_low : mg "_law_low" = some (.ref f__law_low)) (m_divmod : mg "divmod" = none) :
  FnOk P w K mg base CX0 2 f fd ["_law_number"] (spF ⟨K, mg⟩ F.k21_ratio) :=
 fn_N 3 1 Den.k21_ratio rfl fF sc__law_ratio rfl rfl fun cdv A outer s H hr =>
  (zD (pd_asg (yA (call_divmodX hr ht rfl sc__law_ratio.gen sc__law_ratio.co) cd_dvm rfl m_divmod (by decide +kernel) (zB (zA 0) (zB zF zE))) (pdg_tup rfl (zX (zL 0 sc__law_ratio.nd) (zX (zL 1 sc__law_ratio.nd) pdgs_nil)))) (zD (pd_asg (yA (call_divmodX hr ht rfl sc__law_ratio.gen sc__law_ratio.co) cd_dvm rfl m_divmod (by decide +kernel) (zB (zA 0) (zB zF zE))) (pdg_tup rfl (zX (zL 0 sc__law_ratio.nd) (zX (zL 2 sc__law_ratio.nd) pdgs_nil)))) (zD (pd_if (zY (op_eqX hr) od_eq (zA 1) zF (zZ _)) (zJ (zP (pd_tup (zB (pd_op (op_fdivX hr ht rfl sc__law_ratio.gen sc__law_ratio.co) od_fdiv (zA 0) zF) (zB (pd_tup (zB (pd_op op_sub od_sub (pd_op op_modN od_mod (zA 0) (pd_op op_pow od_pow zF zF)) (pd_op op_mulX od_mul zF (pd_op op_pow od_pow zF zF))) (zB zF zE))) zE))))) pds_nil) (zJ (zP (pd_tup (zB (zA 0) (zB (pd_fn (O__law_low.mono (by decide)) hr rfl m__law_low k__law_low b__law_low zT (zB (pd_op op_sub od_sub (zA 2) zF) (zB (pd_ix ix_X zU (pd_lst (zB zF (zB zF (zB zF (zB zF (zB zF (zB zF (zB zF (zB zF zE))))))))) (zA 1) (fun _ _ => rfl)) zE))) zE))))))))
theorem ok__law_row (ht : P.given.tree = none) {f : Addr} {fd : FuncData} (fF : FunG K "_law_row" "_law_row" s__law_row f fd) {f__law_ratio : Addr} {d__law_ratio : FuncData} (O__law_ratio : FnOk P w K mg base CX0 2 f__law_ratio d__law_ratio ["_law_number"] (spF ⟨K, mg⟩ F.k21_ratio)) (b__law_ratio : zV K d__law_ratio ["_law_number"] []) (k__law_ratio : PySem.W.keepIn K (.ref f__law_ratio) = true) (m__law_ratio : mg "_law_ratio" = some (.ref f__law_ratio)) (m_range : mg "range" = none) :
  FnOk P w K mg base CX0 3 f fd ["_law_number", "_law_long"] (spF ⟨K, mg⟩ F.k21_row) :=
 fn_N 5 2 Den.k21_row rfl fF sc__law_row rfl rfl fun cdv A outer s H hr =>
  (zD (zS 2 sc__law_row.nd (pd_lst zE)) (zD (pd_for PassesOwn.never rfl (pdi_range1 rfl m_range (zA 1)) (zL 3 sc__law_row.nd) (zD (pd_asg (pd_fn (O__law_ratio.mono (by decide)) hr rfl m__law_ratio k__law_ratio b__law_ratio zT (zB (zA 0) zE)) (pdg_tup rfl (zX (zL 0 sc__law_row.nd) (zX (zL 4 sc__law_row.nd) pdgs_nil)))) (zJ (pd_expr (pd_append (zA 2) (zA 4)))))) (zJ (zP (zA 2)))))
theorem ok__law_plus (ht : P.given.tree = none) {f : Addr} {fd : FuncData} (fF : FunG K "_law_plus" "_law_plus" s__law_plus f fd) {f__law_low : Addr} {d__law_low : FuncData} (O__law_low : FnOk P w K mg base CX0 1 f__law_low d__law_low ["_law_top", "_law_bottom"] (spF ⟨K, mg⟩ F.k21_low)) (b__law_low : zV K d__law_low ["_law_top", "_law_bottom"] []) (k__law_low : PySem.W.keepIn K (.ref f__law_low) = true) (m__law_low : mg "_law_low" = some (.ref f__law_low)) :
  FnOk P w K mg base CX0 2 f fd ["_law_one", "_law_other"] (spF ⟨K, mg⟩ F.k21_plus) :=
 fn_N 2 2 Den.k21_plus rfl fF sc__law_plus rfl rfl fun cdv A outer s H hr =>
  (zJ (zP (pd_fn (O__law_low.mono (by decide)) hr rfl m__law_low k__law_low b__law_low zT (zB (pd_op op_addX od_add (pd_op op_mulX od_mul (pd_ix ix_X zU (zA 0) zF (fun _ _ => rfl)) (pd_ix ix_X zU (zA 1) zF (fun _ _ => rfl))) (pd_op op_mulX od_mul (pd_ix ix_X zU (zA 1) zF (fun _ _ => rfl)) (pd_ix ix_X zU (zA 0) zF (fun _ _ => rfl)))) (zB (pd_op op_mulX od_mul (pd_ix ix_X zU (zA 0) zF (fun _ _ => rfl)) (pd_ix ix_X zU (zA 1) zF (fun _ _ => rfl))) zE)))))
theorem ok__law_times (ht : P.given.tree = none) {f : Addr} {fd : FuncData} (fF : FunG K "_law_times" "_law_times" s__law_times f fd) {f__law_low : Addr} {d__law_low : FuncData} (O__law_low : FnOk P w K mg base CX0 1 f__law_low d__law_low ["_law_top", "_law_bottom"] (spF ⟨K, mg⟩ F.k21_low)) (b__law_low : zV K d__law_low ["_law_top", "_law_bottom"] []) (k__law_low : PySem.W.keepIn K (.ref f__law_low) = true) (m__law_low : mg "_law_low" = some (.ref f__law_low)) :
  FnOk P w K mg base CX0 2 f fd ["_law_one", "_law_other"] (spF ⟨K, mg⟩ F.k21_times) :=
 fn_N 2 2 Den.k21_times rfl fF sc__law_times rfl rfl fun cdv A outer s H hr =>
  (zJ (zP (pd_fn (O__law_low.mono (by decide)) hr rfl m__law_low k__law_low b__law_low zT (zB (pd_op op_mulX od_mul (pd_ix ix_X zU (zA 0) zF (fun _ _ => rfl)) (pd_ix ix_X zU (zA 1) zF (fun _ _ => rfl))) (zB (pd_op op_mulX od_mul (pd_ix ix_X zU (zA 0) zF (fun _ _ => rfl)) (pd_ix ix_X zU (zA 1) zF (fun _ _ => rfl))) zE)))))
theorem ok__law_mix (ht : P.given.tree = none) {f : Addr} {fd : FuncData} (fF : FunG K "_law_mix" "_law_mix" s__law_mix f fd) {f__law_plus : Addr} {d__law_plus : FuncData} (O__law_plus : FnOk P w K mg base CX0 2 f__law_plus d__law_plus ["_law_one", "_law_other"] (spF ⟨K, mg⟩ F.k21_plus)) (b__law_plus : zV K d__law_plus ["_law_one", "_law_other"] []) (k__law_plus : PySem.W.keepIn K (.ref f__law_plus) = true) (m__law_plus : mg "_law_plus" = some (.ref f__law_plus)) {f__law_times : Addr} {d__law_times : FuncData} (O__law_times : FnOk P w K mg base CX0 2 f__law_times d__law_times ["_law_one", "_law_other"] (spF ⟨K, mg⟩ F.k21_times)) (b__law_times : zV K d__law_times ["_law_one", "_law_other"] []) (k__law_times : PySem.W.keepIn K (.ref f__law_times) = true) (m__law_times : mg "_law_times" = some (.ref f__law_times)) (m_zip : mg "zip" = none) :
  FnOk P w K mg base CX0 3 f fd ["_law_rows", "_law_shares", "_law_long"] (spF ⟨K, mg⟩ F.k21_mix) :=
 fn_N 6 3 Den.k21_mix rfl fF sc__law_mix rfl rfl fun cdv A outer s H hr =>
  (zD (zS 3 sc__law_mix.nd (pd_op op_mulX od_mul (pd_lst (zB (pd_tup (zB zF (zB zF zE))) zE)) (zA 2))) (zD (pd_for PassesOwn.never rfl (pdi_zip rfl m_zip (zA 0) (zA 1)) (pdg_tup rfl (zX (zL 4 sc__law_mix.nd) (zX (zL 5 sc__law_mix.nd) pdgs_nil))) (zJ (pd_setComp 3 (N' := ["_law_rows", "_law_shares", "_law_long", "_law_found", "_law_row_here", "_law_share", "_law_mine", "_law_its"]) 2 (CompOk.mk (N := ["_law_rows", "_law_shares", "_law_long", "_law_found", "_law_row_here", "_law_share"]) (fsc := zC s__law_mix) (N' := ["_law_rows", "_law_shares", "_law_long", "_law_found", "_law_row_here", "_law_share", "_law_mine", "_law_its"]) rfl (by decide +kernel) (by decide +kernel) (by decide +kernel) (by decide +kernel) (by decide) (by decide +kernel)) rfl (pdi_zip rfl m_zip (zA 3) (zA 4)) (fun _ _ _ _ _ => (pdg_tup rfl (zX (zL 6 (show List.Nodup (["_law_rows", "_law_shares", "_law_long", "_law_found", "_law_row_here", "_law_share", "_law_mine", "_law_its"] : List Str) by decide +kernel)) (zX (zL 7 (show List.Nodup (["_law_rows", "_law_shares", "_law_long", "_law_found", "_law_row_here", "_law_share", "_law_mine", "_law_its"] : List Str) by decide +kernel)) pdgs_nil)))) (fun _ _ _ _ _ => (pd_fn (O__law_plus.mono (by decide)) hr rfl m__law_plus k__law_plus b__law_plus zT (zB (zA 6) (zB (pd_fn (O__law_times.mono (by decide)) hr rfl m__law_times k__law_times b__law_times zT (zB (zA 7) (zB (zA 5) zE))) zE)))) sc__law_mix.nd))) (zJ (zP (zA 3)))))
theorem ok__law_table (ht : P.given.tree = none) {f : Addr} {fd : FuncData} (fF : FunG K "_law_table" "_law_table" s__law_table f fd) {f__law_great : Addr} {d__law_great : FuncData} (O__law_great : FnOk P w K mg base CX0 1 f__law_great d__law_great ["_law_cell"] (spF ⟨K, mg⟩ F.k21_great)) (b__law_great : zV K d__law_great ["_law_cell"] []) (k__law_great : PySem.W.keepIn K (.ref f__law_great) = true) (m__law_great : mg "_law_great" = some (.ref f__law_great)) {f__law_row : Addr} {d__law_row : FuncData} (O__law_row : FnOk P w K mg base CX0 3 f__law_row d__law_row ["_law_number", "_law_long"] (spF ⟨K, mg⟩ F.k21_row)) (b__law_row : zV K d__law_row ["_law_number", "_law_long"] []) (k__law_row : PySem.W.keepIn K (.ref f__law_row) = true) (m__law_row : mg "_law_row" = some (.ref f__law_row)) {f__law_mix : Addr} {d__law_mix : FuncData} (O__law_mix : FnOk P w K mg base CX0 3 f__law_mix d__law_mix ["_law_rows", "_law_shares", "_law_long"] (spF ⟨K, mg⟩ F.k21_mix)) (b__law_mix : zV K d__law_mix ["_law_rows", "_law_shares", "_law_long"] []) (k__law_mix : PySem.W.keepIn K (.ref f__law_mix) = true) (m__law_mix : mg "_law_mix" = some (.ref f__law_mix)) (m_len : mg "len" = none) (m_range : mg "range" = none) :
  FnOk P w K mg base CX0 4 f fd ["_law_cells", "_law_wide", "_law_mixing"] (spF ⟨K, mg⟩ F.k21_table) :=
 fn_N 8 3 Den.k21_table rfl fF sc__law_table rfl rfl fun cdv A outer s H hr =>
  (zD (zS 3 sc__law_table.nd (pd_lst zE)) (zD (pd_for PassesOwn.never rfl (pdi_range1 rfl m_range (yA call_lenX cd_len rfl m_len (by decide +kernel) (zB (zA 0) zE))) (zL 4 sc__law_table.nd) (zD (zS 5 sc__law_table.nd (pd_fn (O__law_great.mono (by decide)) hr rfl m__law_great k__law_great b__law_great zT (zB (pd_ix ix_X zU (zA 0) (zA 4) (fun _ _ => rfl)) zE))) (zD (zS 6 sc__law_table.nd (pd_fn (O__law_row.mono (by decide)) hr rfl m__law_row k__law_row b__law_row zT (zB (pd_op (op_fdivX hr ht rfl sc__law_table.gen sc__law_table.co) od_fdiv (zA 5) zF) (zB (zA 1) zE)))) (zD (pd_if (pd_wt (pd_and (pt_valD (zA 2)) (pd_and (zY op_gt od_gt (pd_op op_modN od_mod (zA 5) zF) zF (zZ _)) (pd_and1 (zY op_gt od_gt (zA 4) zF (zZ _)))))) (zD (zS 7 sc__law_table.nd (pd_fn (O__law_row.mono (by decide)) hr rfl m__law_row k__law_row b__law_row zT (zB (pd_op (op_fdivX hr ht rfl sc__law_table.gen sc__law_table.co) od_fdiv (zA 5) zF) (zB (zA 4) zE)))) (zJ (zS 6 sc__law_table.nd (pd_fn (O__law_mix.mono (by decide)) hr rfl m__law_mix k__law_mix b__law_mix zT (zB (zA 3) (zB (zA 7) (zB (zA 1) zE))))))) pds_nil) (zJ (pd_expr (pd_append (zA 3) (zA 6)))))))) (zJ (zP (zA 3)))))
theorem ok__law_deed (ht : P.given.tree = none) {f : Addr} {fd : FuncData} (fF : FunG K "_law_deed" "_law_deed" s__law_deed f fd) {f__law_ratio : Addr} {d__law_ratio : FuncData} (O__law_ratio : FnOk P w K mg base CX0 2 f__law_ratio d__law_ratio ["_law_number"] (spF ⟨K, mg⟩ F.k21_ratio)) (b__law_ratio : zV K d__law_ratio ["_law_number"] []) (k__law_ratio : PySem.W.keepIn K (.ref f__law_ratio) = true) (m__law_ratio : mg "_law_ratio" = some (.ref f__law_ratio)) (m_divmod : mg "divmod" = none) (m_max : mg "max" = none) :
  FnOk P w K mg base CX0 3 f fd ["_law_number", "_law_many"] (spF ⟨K, mg⟩ F.k21_deed) :=
 fn_N 6 2 Den.k21_deed rfl fF sc__law_deed rfl rfl fun cdv A outer s H hr =>
  (zD (pd_asg (yA (call_divmodX hr ht rfl sc__law_deed.gen sc__law_deed.co) cd_dvm rfl m_divmod (by decide +kernel) (zB (zA 0) (zB zF zE))) (pdg_tup rfl (zX (zL 0 sc__law_deed.nd) (zX (zL 2 sc__law_deed.nd) pdgs_nil)))) (zD (pd_asg (yA (call_divmodX hr ht rfl sc__law_deed.gen sc__law_deed.co) cd_dvm rfl m_divmod (by decide +kernel) (zB (zA 0) (zB (zA 1) zE))) (pdg_tup rfl (zX (zL 0 sc__law_deed.nd) (zX (zL 3 sc__law_deed.nd) pdgs_nil)))) (zD (pd_asg (yA (call_divmodX hr ht rfl sc__law_deed.gen sc__law_deed.co) cd_dvm rfl m_divmod (by decide +kernel) (zB (zA 0) (zB (yA (call_max2 rfl) cd_max rfl m_max (by decide +kernel) (zB zF (zB (pd_op op_sub od_sub (zA 1) zF) zE))) zE))) (pdg_tup rfl (zX (zL 0 sc__law_deed.nd) (zX (zL 4 sc__law_deed.nd) pdgs_nil)))) (zD (pd_if (zY op_ge od_ge (zA 4) (zA 3) (zZ _)) (zJ (zS 4 sc__law_deed.nd (pd_op op_addX od_add (zA 4) zF))) pds_nil) (zD (zS 5 sc__law_deed.nd (pd_ix ix_X zU (pd_fn (O__law_ratio.mono (by decide)) hr rfl m__law_ratio k__law_ratio b__law_ratio zT (zB (zA 0) zE)) zF (fun _ _ => rfl))) (zD (pd_if (zY (op_eqX hr) od_eq (zA 1) zF (zZ _)) (zJ (zS 2 sc__law_deed.nd zF)) pds_nil) (zD (pd_if (zY (op_eqX hr) od_eq (zA 2) zF (zZ _)) (zJ (zP (pd_tup (zB pd_str (zB (zA 3) (zB (zA 4) zE)))))) pds_nil) (zD (pd_if (zY (op_eqX hr) od_eq (zA 2) zF (zZ _)) (zJ (zP (pd_tup (zB pd_str (zB (zA 3) (zB (zA 4) (zB (zA 5) zE))))))) pds_nil) (zD (pd_if (zY (op_eqX hr) od_eq (zA 5) (pd_tup (zB zF (zB zF zE))) (zZ _)) (zJ (zS 5 sc__law_deed.nd (pd_tup (zB (pd_un un_neg ud_neg zF) (zB zF zE))))) pds_nil) (zJ (zP (pd_tup (zB pd_str (zB (zA 3) (zB (zA 5) zE)))))))))))))))
theorem ok__law_done (ht : P.given.tree = none) {f : Addr} {fd : FuncData} (fF : FunG K "_law_done" "_law_done" s__law_done f fd) {f__law_times : Addr} {d__law_times : FuncData} (O__law_times : FnOk P w K mg base CX0 2 f__law_times d__law_times ["_law_one", "_law_other"] (spF ⟨K, mg⟩ F.k21_times)) (b__law_times : zV K d__law_times ["_law_one", "_law_other"] []) (k__law_times : PySem.W.keepIn K (.ref f__law_times) = true) (m__law_times : mg "_law_times" = some (.ref f__law_times)) {f__law_plus : Addr} {d__law_plus : FuncData} (O__law_plus : FnOk P w K mg base CX0 2 f__law_plus d__law_plus ["_law_one", "_law_other"] (spF ⟨K, mg⟩ F.k21_plus)) (b__law_plus : zV K d__law_plus ["_law_one", "_law_other"] []) (k__law_plus : PySem.W.keepIn K (.ref f__law_plus) = true) (m__law_plus : mg "_law_plus" = some (.ref f__law_plus)) (m_list : mg "list" = none) (m_zip : mg "zip" = none) :
  FnOk P w K mg base CX0 3 f fd ["_law_table_here", "_law_deeds"] (spF ⟨K, mg⟩ F.k21_done) :=
 fn_N 6 2 Den.k21_done rfl fF sc__law_done rfl rfl fun cdv A outer s H hr =>
  (zD (pd_setComp 2 (N' := ["_law_table_here", "_law_deeds", "_law_found", "_law_deed_here", "_law_i", "_law_held", "_law_row_here"]) 1 (CompOk.mk (N := ["_law_table_here", "_law_deeds", "_law_found", "_law_deed_here", "_law_i", "_law_held"]) (fsc := zC s__law_done) (N' := ["_law_table_here", "_law_deeds", "_law_found", "_law_deed_here", "_law_i", "_law_held", "_law_row_here"]) rfl (by decide +kernel) (by decide +kernel) (by decide +kernel) (by decide +kernel) (by decide) (by decide +kernel)) rfl (pdi_list (zA 0)) (fun _ _ _ _ _ => (zL 6 (show List.Nodup (["_law_table_here", "_law_deeds", "_law_found", "_law_deed_here", "_law_i", "_law_held", "_law_row_here"] : List Str) by decide +kernel))) (fun _ _ _ _ _ => (pd_callTy call_list_of cd_lof rfl m_list (by decide +kernel) (zB (zA 6) zE))) sc__law_done.nd) (zD (pd_for PassesOwn.never rfl (pdi_list (zA 1)) (zL 3 sc__law_done.nd) (zD (zS 4 sc__law_done.nd (pd_ix ix_X zU (zA 3) zF (fun _ _ => rfl))) (zD (pd_if (zY (op_eqX hr) od_eq (pd_ix ix_X zU (zA 3) zF (fun _ _ => rfl)) pd_str (zZ _)) (zD (zS 5 sc__law_done.nd (pd_ix ix_X zU (zA 2) (zA 4) (fun _ _ => rfl))) (zD (pd_asg (pd_ix ix_X zU (zA 2) (pd_ix ix_X zU (zA 3) zF (fun _ _ => rfl)) (fun _ _ => rfl)) (pdg_sub (zA 2) (zA 4))) (zJ (pd_asg (zA 5) (pdg_sub (zA 2) (pd_ix ix_X zU (zA 3) zF (fun _ _ => rfl))))))) pds_nil) (zD (pd_if (zY (op_eqX hr) od_eq (pd_ix ix_X zU (zA 3) zF (fun _ _ => rfl)) pd_str (zZ _)) (zJ (pd_asg (pd_comp (N' := ["_law_table_here", "_law_deeds", "_law_found", "_law_deed_here", "_law_i", "_law_held", "_law_one"]) 1 (CompOk.mk (N := ["_law_table_here", "_law_deeds", "_law_found", "_law_deed_here", "_law_i", "_law_held"]) (fsc := zC s__law_done) (N' := ["_law_table_here", "_law_deeds", "_law_found", "_law_deed_here", "_law_i", "_law_held", "_law_one"]) rfl (by decide +kernel) (by decide +kernel) (by decide +kernel) (by decide +kernel) (by decide) (by decide +kernel)) rfl (pdi_list (pd_ix ix_X zU (zA 2) (zA 4) (fun _ _ => rfl))) (fun _ _ _ _ _ => (zL 6 (show List.Nodup (["_law_table_here", "_law_deeds", "_law_found", "_law_deed_here", "_law_i", "_law_held", "_law_one"] : List Str) by decide +kernel))) (fun _ _ _ _ _ => (pd_fn (O__law_times.mono (by decide)) hr rfl m__law_times k__law_times b__law_times zT (zB (zA 6) (zB (pd_ix ix_X zU (zA 3) zF (fun _ _ => rfl)) zE))))) (pdg_sub (zA 2) (zA 4)))) pds_nil) (zJ (pd_if (zY (op_eqX hr) od_eq (pd_ix ix_X zU (zA 3) zF (fun _ _ => rfl)) pd_str (zZ _)) (zJ (pd_asg (pd_comp (N' := ["_law_table_here", "_law_deeds", "_law_found", "_law_deed_here", "_law_i", "_law_held", "_law_one", "_law_its"]) 2 (CompOk.mk (N := ["_law_table_here", "_law_deeds", "_law_found", "_law_deed_here", "_law_i", "_law_held"]) (fsc := zC s__law_done) (N' := ["_law_table_here", "_law_deeds", "_law_found", "_law_deed_here", "_law_i", "_law_held", "_law_one", "_law_its"]) rfl (by decide +kernel) (by decide +kernel) (by decide +kernel) (by decide +kernel) (by decide) (by decide +kernel)) rfl (pdi_zip rfl m_zip (pd_ix ix_X zU (zA 2) (zA 4) (fun _ _ => rfl)) (pd_ix ix_X zU (zA 2) (pd_ix ix_X zU (zA 3) zF (fun _ _ => rfl)) (fun _ _ => rfl))) (fun _ _ _ _ _ => (pdg_tup rfl (zX (zL 6 (show List.Nodup (["_law_table_here", "_law_deeds", "_law_found", "_law_deed_here", "_law_i", "_law_held", "_law_one", "_law_its"] : List Str) by decide +kernel)) (zX (zL 7 (show List.Nodup (["_law_table_here", "_law_deeds", "_law_found", "_law_deed_here", "_law_i", "_law_held", "_law_one", "_law_its"] : List Str) by decide +kernel)) pdgs_nil)))) (fun _ _ _ _ _ => (pd_fn (O__law_plus.mono (by decide)) hr rfl m__law_plus k__law_plus b__law_plus zT (zB (zA 6) (zB (pd_fn (O__law_times.mono (by decide)) hr rfl m__law_times k__law_times b__law_times zT (zB (zA 7) (zB (pd_ix ix_X zU (zA 3) zF (fun _ _ => rfl)) zE))) zE))))) (pdg_sub (zA 2) (zA 4)))) pds_nil)))))) (zJ (zP (zA 2)))))
theorem ok__law_odd_deed (ht : P.given.tree = none) {f : Addr} {fd : FuncData} (fF : FunG K "_law_odd_deed" "_law_odd_deed" s__law_odd_deed f fd) (m_divmod : mg "divmod" = none) :
  FnOk P w K mg base CX0 1 f fd ["_law_number", "_law_many"] (spF ⟨K, mg⟩ F.k23_odd_deed) :=
 fn_N 7 2 Den.k23_odd_deed rfl fF sc__law_odd_deed rfl rfl fun cdv A outer s H hr =>
  (zD (pd_asg (yA (call_divmodX hr ht rfl sc__law_odd_deed.gen sc__law_odd_deed.co) cd_dvm rfl m_divmod (by decide +kernel) (zB (zA 0) (zB zF zE))) (pdg_tup rfl (zX (zL 0 sc__law_odd_deed.nd) (zX (zL 2 sc__law_odd_deed.nd) pdgs_nil)))) (zD (zS 3 sc__law_odd_deed.nd (pd_op op_modN od_mod (zA 0) (zA 1))) (zD (zS 4 sc__law_odd_deed.nd (pd_op op_addX od_add (zA 1) (pd_op op_modN od_mod (pd_op (op_fdivX hr ht rfl sc__law_odd_deed.gen sc__law_odd_deed.co) od_fdiv (zA 0) zF) (pd_op op_pow od_pow zF zF)))) (zD (zS 5 sc__law_odd_deed.nd (pd_tup (zB zF (zB zF zE)))) (zD (zS 6 sc__law_odd_deed.nd (pd_lst (zB (pd_tup (zB pd_str (zB (zA 3) (zB (zA 4) zE)))) (zB (pd_tup (zB pd_str (zB (zA 3) (zB (zA 3) zE)))) (zB (pd_tup (zB pd_str (zB (zA 3) (zB (zA 4) zE)))) (zB (pd_tup (zB pd_str (zB (pd_un un_neg ud_neg zF) (zB (zA 3) zE)))) (zB (pd_tup (zB pd_str (zB (zA 3) zE))) (zB (pd_tup (zB pd_str (zB (zA 3) (zB (zA 3) (zB (zA 3) zE))))) zE)))))))) (zD (zS 6 sc__law_odd_deed.nd (pd_op op_addX od_add (zA 6) (pd_lst (zB (pd_lst (zB pd_str (zB (zA 3) (zB (zA 5) zE)))) (zB (pd_tup (zB pd_str (zB (zA 3) (zB (pd_tup (zB zF (zB zF zE))) zE)))) (zB (pd_tup (zB pd_str (zB (zA 4) (zB (zA 5) zE)))) (zB (pd_tup (zB pd_str (zB (pd_un un_neg ud_neg zF) (zB (zA 5) zE)))) (zB (pd_tup (zB pd_str (zB (zA 3) zE))) zE)))))))) (zD (zS 6 sc__law_odd_deed.nd (pd_op op_addX od_add (zA 6) (pd_lst (zB (pd_tup (zB pd_str (zB (zA 3) (zB (zA 5) (zB (zA 5) zE))))) (zB (pd_tup (zB pd_str (zB (zA 3) (zB (pd_tup (zB zF (zB zF zE))) zE)))) (zB (pd_tup (zB pd_str (zB (zA 3) (zB (pd_tup (zB zF (zB (pd_un un_neg ud_neg zF) zE))) zE)))) (zB (pd_tup (zB pd_str (zB (zA 3) (zB (pd_tup (zB zF (zB zF zE))) zE)))) zE))))))) (zD (zS 6 sc__law_odd_deed.nd (pd_op op_addX od_add (zA 6) (pd_lst (zB (pd_tup (zB pd_str (zB (zA 3) (zB zF zE)))) (zB (pd_tup (zB pd_str (zB (zA 3) (zB (pd_lst (zB zF (zB zF zE))) zE)))) (zB (pd_tup (zB pd_str (zB (zA 3) (zB (pd_tup (zB pd_bl (zB zF zE))) zE)))) (zB (pd_tup (zB pd_str (zB pd_non (zB (zA 5) zE)))) zE))))))) (zD (zS 6 sc__law_odd_deed.nd (pd_op op_addX od_add (zA 6) (pd_lst (zB (pd_tup (zB pd_str (zB pd_str (zB (zA 5) zE)))) (zB (pd_tup (zB pd_str (zB (zA 5) (zB (zA 3) zE)))) zE))))) (zD (zS 6 sc__law_odd_deed.nd (pd_op op_addX od_add (zA 6) (pd_lst (zB (pd_tup (zB pd_str (zB (zA 3) (zB (zA 3) (zB (zA 5) zE))))) (zB (pd_tup (zB pd_str (zB (zA 3) (zB (zA 4) (zB (zA 5) zE))))) (zB (pd_tup (zB pd_str (zB (zA 4) (zB (zA 3) (zB (zA 5) zE))))) (zB (pd_tup (zB pd_str (zB (zA 3) (zB (pd_un un_neg ud_neg zF) (zB (zA 5) zE))))) (zB (pd_tup (zB pd_str (zB (zA 3) (zB (zA 3) zE)))) zE)))))))) (zD (zS 6 sc__law_odd_deed.nd (pd_op op_addX od_add (zA 6) (pd_lst (zB (pd_tup (zB pd_str (zB (zA 3) (zB (zA 4) zE)))) (zB (pd_tup (zB pd_str (zB (zA 3) (zB (zA 5) zE)))) (zB (pd_tup zE) (zB pd_non (zB pd_str (zB zF (zB (pd_tup (zB pd_str zE)) (zB (pd_tup (zB pd_str (zB (zA 3) (zB (pd_tup (zB zF (zB zF (zB zF zE)))) zE)))) (zB (pd_tup (zB zF (zB zF (zB (zA 5) zE)))) zE)))))))))))) (zD (zS 6 sc__law_odd_deed.nd (pd_op op_addX od_add (zA 6) (pd_lst (zB (pd_tup (zB pd_str (zB (zA 3) (zB pd_non zE)))) (zB (pd_tup (zB (pd_lst zE) (zB zF (zB (zA 5) zE)))) (zB (pd_tup (zB pd_dnew (zB zF (zB (zA 5) zE)))) zE)))))) (zJ (zP (pd_ix ix_X zU (zA 6) (zA 2) (fun _ _ => rfl))))))))))))))))
theorem ok__law_refused (ht : P.given.tree = none) {f : Addr} {fd : FuncData} (fF : FunG K "_law_refused" "_law_refused" s__law_refused f fd) {f_done : Addr} {d_done : FuncData} (OX_done : FnOk P w K mg base (CX1 P w) 6 f_done d_done ["table", "deeds"] (spF ⟨K, mg⟩ X.done)) (b_done : zV K d_done ["table", "deeds"] []) (k_done : PySem.W.keepIn K (.ref f_done) = true) (m_done : mg "done" = some (.ref f_done)) (m_ValueError : mg "ValueError" = none) (m_int : mg "int" = none) (m_isinstance : mg "isinstance" = none) {C_NoColumn : Addr} (mC_NoColumn : mg "NoColumn" = some (.ref C_NoColumn)) {C_NoDeed : Addr} (mC_NoDeed : mg "NoDeed" = some (.ref C_NoDeed)) {C_NoInverse : Addr} (mC_NoInverse : mg "NoInverse" = some (.ref C_NoInverse)) {C_NoLine : Addr} (mC_NoLine : mg "NoLine" = some (.ref C_NoLine)) {C_NoMark : Addr} (mC_NoMark : mg "NoMark" = some (.ref C_NoMark)) {C_NoName : Addr} (mC_NoName : mg "NoName" = some (.ref C_NoName)) {C_NoPoint : Addr} (mC_NoPoint : mg "NoPoint" = some (.ref C_NoPoint)) {C_NoRatio : Addr} (mC_NoRatio : mg "NoRatio" = some (.ref C_NoRatio)) {C_NoText : Addr} (mC_NoText : mg "NoText" = some (.ref C_NoText)) {C_NotSure : Addr} (mC_NotSure : mg "NotSure" = some (.ref C_NotSure)) {C_PlaneError : Addr} (mC_PlaneError : mg "PlaneError" = some (.ref C_PlaneError)) (exmOne_NoDeed_NoDeed : PySem.W.exmOne K (.ref C_NoDeed) (.ref C_NoDeed) = some true) (exmNo_NoDeed_NotSure : PySem.W.exmOne K (.ref C_NoDeed) (.ref C_NotSure) = some false) (exmNo_NoDeed_NoText : PySem.W.exmOne K (.ref C_NoDeed) (.ref C_NoText) = some false) (exmNo_NoDeed_NoRatio : PySem.W.exmOne K (.ref C_NoDeed) (.ref C_NoRatio) = some false) (exmNo_NoDeed_NoPoint : PySem.W.exmOne K (.ref C_NoDeed) (.ref C_NoPoint) = some false) (exmNo_NoDeed_NoName : PySem.W.exmOne K (.ref C_NoDeed) (.ref C_NoName) = some false) (exmNo_NoDeed_NoMark : PySem.W.exmOne K (.ref C_NoDeed) (.ref C_NoMark) = some false) (exmNo_NoDeed_NoLine : PySem.W.exmOne K (.ref C_NoDeed) (.ref C_NoLine) = some false) (exmNo_NoDeed_NoInverse : PySem.W.exmOne K (.ref C_NoDeed) (.ref C_NoInverse) = some false) (exmNo_NoDeed_NoColumn : PySem.W.exmOne K (.ref C_NoDeed) (.ref C_NoColumn) = some false) (kitOne_NoRatio_PlaneError : PySem.W.kitOne K (.ref C_NoRatio) (.ref C_PlaneError) = some true) (kitOne_NoDeed_PlaneError : PySem.W.kitOne K (.ref C_NoDeed) (.ref C_PlaneError) = some true) (kitOne_NoRatio_ValueError : PySem.W.kitOne K (.ref C_NoRatio) (.type "ValueError") = some true) (kitOne_NoDeed_ValueError : PySem.W.kitOne K (.ref C_NoDeed) (.type "ValueError") = some true) :
  FnOk P w K mg base CX0 7 f fd ["_law_table_here", "_law_deeds"] (spF ⟨K, mg⟩ F.k23_refused) :=
 fn_N 4 2 Den.k23_refused rfl fF sc__law_refused rfl rfl fun cdv A outer s H hr =>
  (zD (zS 2 sc__law_refused.nd zF) (zD (pd_tryE (Ls := [("NoColumn", _, C_NoColumn), ("NoInverse", _, C_NoInverse), ("NoLine", _, C_NoLine), ("NoMark", _, C_NoMark), ("NoName", _, C_NoName), ("NoPoint", _, C_NoPoint), ("NoRatio", _, C_NoRatio), ("NoText", _, C_NoText), ("NotSure", _, C_NotSure)]) 3 (OX_done.mono (by decide)) hr rfl m_done k_done b_done (zB (zA 0) (zB (zA 1) zE)) sc__law_refused.nd rfl mC_NoDeed (List.forall_mem_cons.mpr ⟨⟨_, mC_NoDeed, exmOne_NoDeed_NoDeed, (List.forall_mem_cons.mpr ⟨exmNo_NoDeed_NoColumn, (List.forall_mem_cons.mpr ⟨exmNo_NoDeed_NoInverse, (List.forall_mem_cons.mpr ⟨exmNo_NoDeed_NoLine, (List.forall_mem_cons.mpr ⟨exmNo_NoDeed_NoMark, (List.forall_mem_cons.mpr ⟨exmNo_NoDeed_NoName, (List.forall_mem_cons.mpr ⟨exmNo_NoDeed_NoPoint, (List.forall_mem_cons.mpr ⟨exmNo_NoDeed_NoRatio, (List.forall_mem_cons.mpr ⟨exmNo_NoDeed_NoText, (List.forall_mem_cons.mpr ⟨exmNo_NoDeed_NotSure, (List.forall_mem_nil _)⟩)⟩)⟩)⟩)⟩)⟩)⟩)⟩)⟩)⟩, (List.forall_mem_nil _)⟩) (List.forall_mem_cons.mpr ⟨⟨rfl, mC_NoColumn, (show ("NoColumn" == ("__debug__" : Str)) = false by decide +kernel)⟩, (List.forall_mem_cons.mpr ⟨⟨rfl, mC_NoInverse, (show ("NoInverse" == ("__debug__" : Str)) = false by decide +kernel)⟩, (List.forall_mem_cons.mpr ⟨⟨rfl, mC_NoLine, (show ("NoLine" == ("__debug__" : Str)) = false by decide +kernel)⟩, (List.forall_mem_cons.mpr ⟨⟨rfl, mC_NoMark, (show ("NoMark" == ("__debug__" : Str)) = false by decide +kernel)⟩, (List.forall_mem_cons.mpr ⟨⟨rfl, mC_NoName, (show ("NoName" == ("__debug__" : Str)) = false by decide +kernel)⟩, (List.forall_mem_cons.mpr ⟨⟨rfl, mC_NoPoint, (show ("NoPoint" == ("__debug__" : Str)) = false by decide +kernel)⟩, (List.forall_mem_cons.mpr ⟨⟨rfl, mC_NoRatio, (show ("NoRatio" == ("__debug__" : Str)) = false by decide +kernel)⟩, (List.forall_mem_cons.mpr ⟨⟨rfl, mC_NoText, (show ("NoText" == ("__debug__" : Str)) = false by decide +kernel)⟩, (List.forall_mem_cons.mpr ⟨⟨rfl, mC_NotSure, (show ("NotSure" == ("__debug__" : Str)) = false by decide +kernel)⟩, (List.forall_mem_nil _)⟩)⟩)⟩)⟩)⟩)⟩)⟩)⟩)⟩) (Nat.le_of_ble_eq_true rfl) (fun ea => (zJ (zS 2 sc__law_refused.nd (pd_callTy call_int1 cd_int rfl m_int (by decide +kernel) (zB (pd_andV (pd_isxO rfl m_isinstance rfl mC_PlaneError (List.forall_mem_cons.mpr ⟨⟨_, mC_NoDeed, kitOne_NoDeed_PlaneError⟩, (List.forall_mem_cons.mpr ⟨⟨_, mC_NoRatio, kitOne_NoRatio_PlaneError⟩, (List.forall_mem_nil _)⟩)⟩) (zA 3)) (pd_oneV (pd_isxB (by decide +kernel) rfl m_isinstance rfl m_ValueError (List.forall_mem_cons.mpr ⟨⟨_, mC_NoDeed, kitOne_NoDeed_ValueError⟩, (List.forall_mem_cons.mpr ⟨⟨_, mC_NoRatio, kitOne_NoRatio_ValueError⟩, (List.forall_mem_nil _)⟩)⟩) (zA 3)))) zE)))))) (zJ (zP (pd_cmp (op_eqX hr) od_eq (zA 2) zF (zZ _))))))
theorem ok_law (ht : P.given.tree = none) {f : Addr} {fd : FuncData} (fF : FunG K "law" "law" s_law f fd) {f__law_cell_at : Addr} {d__law_cell_at : FuncData} (O__law_cell_at : FnOk P w K mg base CX0 1 f__law_cell_at d__law_cell_at ["_law_script", "_law_k"] (spF ⟨K, mg⟩ F.k11_cell_at)) (b__law_cell_at : zV K d__law_cell_at ["_law_script", "_law_k"] []) (k__law_cell_at : PySem.W.keepIn K (.ref f__law_cell_at) = true) (m__law_cell_at : mg "_law_cell_at" = some (.ref f__law_cell_at)) {f__law_table : Addr} {d__law_table : FuncData} (O__law_table : FnOk P w K mg base CX0 4 f__law_table d__law_table ["_law_cells", "_law_wide", "_law_mixing"] (spF ⟨K, mg⟩ F.k21_table)) (b__law_table : zV K d__law_table ["_law_cells", "_law_wide", "_law_mixing"] []) (k__law_table : PySem.W.keepIn K (.ref f__law_table) = true) (m__law_table : mg "_law_table" = some (.ref f__law_table)) {f__law_deed : Addr} {d__law_deed : FuncData} (O__law_deed : FnOk P w K mg base CX0 3 f__law_deed d__law_deed ["_law_number", "_law_many"] (spF ⟨K, mg⟩ F.k21_deed)) (b__law_deed : zV K d__law_deed ["_law_number", "_law_many"] []) (k__law_deed : PySem.W.keepIn K (.ref f__law_deed) = true) (m__law_deed : mg "_law_deed" = some (.ref f__law_deed)) {f__law_great : Addr} {d__law_great : FuncData} (O__law_great : FnOk P w K mg base CX0 1 f__law_great d__law_great ["_law_cell"] (spF ⟨K, mg⟩ F.k21_great)) (b__law_great : zV K d__law_great ["_law_cell"] []) (k__law_great : PySem.W.keepIn K (.ref f__law_great) = true) (m__law_great : mg "_law_great" = some (.ref f__law_great)) {f__law_done : Addr} {d__law_done : FuncData} (O__law_done : FnOk P w K mg base CX0 3 f__law_done d__law_done ["_law_table_here", "_law_deeds"] (spF ⟨K, mg⟩ F.k21_done)) (b__law_done : zV K d__law_done ["_law_table_here", "_law_deeds"] []) (k__law_done : PySem.W.keepIn K (.ref f__law_done) = true) (m__law_done : mg "_law_done" = some (.ref f__law_done)) {f__law_odd_deed : Addr} {d__law_odd_deed : FuncData} (O__law_odd_deed : FnOk P w K mg base CX0 1 f__law_odd_deed d__law_odd_deed ["_law_number", "_law_many"] (spF ⟨K, mg⟩ F.k23_odd_deed)) (b__law_odd_deed : zV K d__law_odd_deed ["_law_number", "_law_many"] []) (k__law_odd_deed : PySem.W.keepIn K (.ref f__law_odd_deed) = true) (m__law_odd_deed : mg "_law_odd_deed" = some (.ref f__law_odd_deed)) {f__law_refused : Addr} {d__law_refused : FuncData} (O__law_refused : FnOk P w K mg base CX0 7 f__law_refused d__law_refused ["_law_table_here", "_law_deeds"] (spF ⟨K, mg⟩ F.k23_refused)) (b__law_refused : zV K d__law_refused ["_law_table_here", "_law_deeds"] []) (k__law_refused : PySem.W.keepIn K (.ref f__law_refused) = true) (m__law_refused : mg "_law_refused" = some (.ref f__law_refused)) {f_done : Addr} {d_done : FuncData} (O_done : FnOk P w K mg base CX0 6 f_done d_done ["table", "deeds"] (spF ⟨K, mg⟩ F.done)) (b_done : zV K d_done ["table", "deeds"] []) (k_done : PySem.W.keepIn K (.ref f_done) = true) (m_done : mg "done" = some (.ref f_done)) (m_divmod : mg "divmod" = none) (m_len : mg "len" = none) (m_list : mg "list" = none) (m_range : mg "range" = none) (m_tuple : mg "tuple" = none) :
  FnOk P w K mg base CX0 8 f fd ["_law_script"] (spF ⟨K, mg⟩ F.k23_law) :=
 fn_N 12 1 Den.k23_law rfl fF sc_law rfl rfl fun cdv A outer s H hr =>
  (zD (zS 1 sc_law.nd (pd_op op_addX od_add zF (pd_op op_modN od_mod (pd_fn (O__law_cell_at.mono (by decide)) hr rfl m__law_cell_at k__law_cell_at b__law_cell_at zT (zB (zA 0) (zB zF zE))) zF))) (zD (zS 2 sc_law.nd (pd_op op_modN od_mod (pd_fn (O__law_cell_at.mono (by decide)) hr rfl m__law_cell_at k__law_cell_at b__law_cell_at zT (zB (zA 0) (zB zF zE))) zF)) (zD (zS 3 sc_law.nd (pd_fn (O__law_table.mono (by decide)) hr rfl m__law_table k__law_table b__law_table zT (zB (pd_comp (N' := ["_law_script", "_law_many", "_law_wide", "_law_table_here", "_law_kept", "_law_deeds", "_law_due", "_law_cell", "_law_number", "_law_at", "_law_bad", "_law_by", "_law_k"]) 1 (CompOk.mk (N := ["_law_script", "_law_many", "_law_wide", "_law_table_here", "_law_kept", "_law_deeds", "_law_due", "_law_cell", "_law_number", "_law_at", "_law_bad", "_law_by"]) (fsc := zC s_law) (N' := ["_law_script", "_law_many", "_law_wide", "_law_table_here", "_law_kept", "_law_deeds", "_law_due", "_law_cell", "_law_number", "_law_at", "_law_bad", "_law_by", "_law_k"]) rfl (by decide +kernel) (by decide +kernel) (by decide +kernel) (by decide +kernel) (by decide) (by decide +kernel)) rfl (pdi_range1 rfl m_range (zA 1)) (fun _ _ _ _ _ => (zL 12 (show List.Nodup (["_law_script", "_law_many", "_law_wide", "_law_table_here", "_law_kept", "_law_deeds", "_law_due", "_law_cell", "_law_number", "_law_at", "_law_bad", "_law_by", "_law_k"] : List Str) by decide +kernel))) (fun _ _ _ _ _ => (pd_fn (O__law_cell_at.mono (by decide)) hr rfl m__law_cell_at k__law_cell_at b__law_cell_at zT (zB (zA 0) (zB (pd_op op_addX od_add zF (zA 12)) zE))))) (zB (zA 2) (zB pd_bl zE))))) (zD (pd_setComp 4 (N' := ["_law_script", "_law_many", "_law_wide", "_law_table_here", "_law_kept", "_law_deeds", "_law_due", "_law_cell", "_law_number", "_law_at", "_law_bad", "_law_by", "_law_row_here"]) 1 (CompOk.mk (N := ["_law_script", "_law_many", "_law_wide", "_law_table_here", "_law_kept", "_law_deeds", "_law_due", "_law_cell", "_law_number", "_law_at", "_law_bad", "_law_by"]) (fsc := zC s_law) (N' := ["_law_script", "_law_many", "_law_wide", "_law_table_here", "_law_kept", "_law_deeds", "_law_due", "_law_cell", "_law_number", "_law_at", "_law_bad", "_law_by", "_law_row_here"]) rfl (by decide +kernel) (by decide +kernel) (by decide +kernel) (by decide +kernel) (by decide) (by decide +kernel)) rfl (pdi_list (zA 3)) (fun _ _ _ _ _ => (zL 12 (show List.Nodup (["_law_script", "_law_many", "_law_wide", "_law_table_here", "_law_kept", "_law_deeds", "_law_due", "_law_cell", "_law_number", "_law_at", "_law_bad", "_law_by", "_law_row_here"] : List Str) by decide +kernel))) (fun _ _ _ _ _ => (pd_callTy call_list_of cd_lof rfl m_list (by decide +kernel) (zB (zA 12) zE))) sc_law.nd) (zD (pd_setComp 5 (N' := ["_law_script", "_law_many", "_law_wide", "_law_table_here", "_law_kept", "_law_deeds", "_law_due", "_law_cell~", "_law_number", "_law_at", "_law_bad", "_law_by", "_law_cell"]) 1 (CompOk.mk (N := ["_law_script", "_law_many", "_law_wide", "_law_table_here", "_law_kept", "_law_deeds", "_law_due", "_law_cell", "_law_number", "_law_at", "_law_bad", "_law_by"]) (fsc := zC s_law) (N' := ["_law_script", "_law_many", "_law_wide", "_law_table_here", "_law_kept", "_law_deeds", "_law_due", "_law_cell~", "_law_number", "_law_at", "_law_bad", "_law_by", "_law_cell"]) rfl (by decide +kernel) (by decide +kernel) (by decide +kernel) (by decide +kernel) (by decide) (by decide +kernel)) rfl (pdi_list (pd_slice (zA 0) (pdo_at zF) (pdo_at zF))) (fun _ _ _ _ _ => (zL 12 (show List.Nodup (["_law_script", "_law_many", "_law_wide", "_law_table_here", "_law_kept", "_law_deeds", "_law_due", "_law_cell~", "_law_number", "_law_at", "_law_bad", "_law_by", "_law_cell"] : List Str) by decide +kernel))) (fun _ _ _ _ _ => (pd_fn (O__law_deed.mono (by decide)) hr rfl m__law_deed k__law_deed b__law_deed zT (zB (pd_fn (O__law_great.mono (by decide)) hr rfl m__law_great k__law_great b__law_great zT (zB (zA 12) zE)) (zB (zA 1) zE)))) sc_law.nd) (zD (zS 6 sc_law.nd (pd_fn (O__law_done.mono (by decide)) hr rfl m__law_done k__law_done b__law_done zT (zB (zA 3) (zB (zA 5) zE)))) (zD (pd_for PassesOwn.never rfl (pdi_list (pd_slice (zA 0) (pdo_at zF) (pdo_at zF))) (zL 7 sc_law.nd) (zD (pd_asg (yA (call_divmodX hr ht rfl sc_law.gen sc_law.co) cd_dvm rfl m_divmod (by decide +kernel) (zB (pd_fn (O__law_great.mono (by decide)) hr rfl m__law_great k__law_great b__law_great zT (zB (zA 7) zE)) (zB (pd_op op_addX od_add (yA call_lenX cd_len rfl m_len (by decide +kernel) (zB (zA 5) zE)) zF) zE))) (pdg_tup rfl (zX (zL 8 sc_law.nd) (zX (zL 9 sc_law.nd) pdgs_nil)))) (zD (zS 10 sc_law.nd (pd_op op_addX od_add (pd_op op_addX od_add (pd_slice (zA 5) pdo_no (pdo_at (zA 9))) (pd_lst (zB (pd_fn (O__law_odd_deed.mono (by decide)) hr rfl m__law_odd_deed k__law_odd_deed b__law_odd_deed zT (zB (zA 8) (zB (zA 1) zE))) zE))) (pd_slice (zA 5) (pdo_at (zA 9)) pdo_no))) (zD (pd_if (zY (op_eqX hr) od_eq (pd_op op_modN od_mod (pd_op (op_fdivX hr ht rfl sc_law.gen sc_law.co) od_fdiv (zA 8) zF) zF) zF (zZ _)) (zJ (zS 10 sc_law.nd (pd_ix ix_X zU (pd_lst (zB (pd_callTy call_tuple_of cd_tof rfl m_tuple (by decide +kernel) (zB (zA 5) zE)) (zB pd_non (zB pd_str (zB zF (zB pd_dnew (zB pd_bl (zB (pd_tup zE) (zB (pd_lst (zB (zA 5) zE)) zE))))))))) (pd_op op_modN od_mod (pd_op (op_fdivX hr ht rfl sc_law.gen sc_law.co) od_fdiv (zA 8) zF) zF) (fun _ _ => rfl)))) pds_nil) (zD (pd_if (pd_wt (pd_or (pd_not (pt_valD (pd_fn (O__law_refused.mono (by decide)) hr rfl m__law_refused k__law_refused b__law_refused zT (zB (zA 3) (zB (zA 10) zE))))) (pd_or1 (zY (op_neX hr) od_ne (zA 3) (zA 4) (zZ _))))) (zJ (zP pd_bl)) pds_nil) (zJ (pd_if (pd_wt (pd_and (zY (op_eqX hr) od_eq (pd_op op_modN od_mod (zA 8) zF) zF (zZ _)) (pd_and1 (zY (op_neX hr) od_ne (pd_fn (O_done.mono (by decide)) hr rfl m_done k_done b_done zT (zB (zA 3) (zB (zA 5) zE))) (zA 6) (zZ _))))) (zJ (zP pd_bl)) pds_nil))))))) (zD (pd_if (pd_wt (pd_or (pd_not (pt_valD (pd_fn (O__law_refused.mono (by decide)) hr rfl m__law_refused k__law_refused b__law_refused zT (zB (zA 3) (zB (pd_lst (zB (pd_tup (zB pd_str (zB pd_bl (zB (pd_tup (zB zF (zB zF zE))) zE)))) zE)) zE))))) (pd_or1 (pd_not (pt_valD (pd_fn (O__law_refused.mono (by decide)) hr rfl m__law_refused k__law_refused b__law_refused zT (zB (zA 3) (zB (pd_lst (zB (pd_tup (zB pd_str (zB zF (zB pd_bl (zB (pd_tup (zB zF (zB zF zE))) zE))))) zE)) zE)))))))) (zJ (zP pd_bl)) pds_nil) (zD (pd_if (pd_wt (pd_or (pd_not (pt_valD (pd_fn (O__law_refused.mono (by decide)) hr rfl m__law_refused k__law_refused b__law_refused zT (zB (zA 3) (zB (pd_lst (zB (pd_tup (zB pd_str (zB zF (zB pd_bl zE)))) zE)) zE))))) (pd_or1 (pd_not (pt_valD (pd_fn (O__law_refused.mono (by decide)) hr rfl m__law_refused k__law_refused b__law_refused zT (zB (zA 3) (zB (pd_lst (zB (pd_tup (zB pd_str (zB pd_bl (zB zF zE)))) zE)) zE)))))))) (zJ (zP pd_bl)) pds_nil) (zD (pd_for PassesOwn.never rfl (pdi_list (pd_lst (zB (pd_tup (zB zF (zB zF zE))) (zB zF (zB pd_non (zB (pd_tup (zB zF (zB zF zE))) zE)))))) (zL 11 sc_law.nd) (zJ (pd_if (pd_not (pt_valD (pd_fn (O__law_refused.mono (by decide)) hr rfl m__law_refused k__law_refused b__law_refused zT (zB (zA 3) (zB (pd_lst (zB (pd_tup (zB pd_str (zB zF (zB (pd_op op_sub od_sub (zA 1) zF) (zB (zA 11) zE))))) zE)) zE))))) (zJ (zP pd_bl)) pds_nil))) (zJ (zP (pd_andV (pd_cmp (op_eqX hr) od_eq (pd_fn (O_done.mono (by decide)) hr rfl m_done k_done b_done zT (zB (pd_lst zE) (zB (pd_lst zE) zE))) (pd_lst zE) (zZ _)) (pd_andV (pd_fn (O__law_refused.mono (by decide)) hr rfl m__law_refused k__law_refused b__law_refused zT (zB (pd_lst zE) (zB (pd_lst (zB (pd_tup (zB pd_str (zB zF (zB (pd_tup (zB zF (zB zF zE))) zE)))) zE)) zE))) (pd_oneV (pd_cmp (op_eqX hr) od_eq (pd_fn (O_done.mono (by decide)) hr rfl m_done k_done b_done zT (zB (zA 3) (zB (zA 5) zE))) (zA 6) (zZ _)))))))))))))))))
end
end Tm
end
section
namespace Tm
open PySem PySem.Spec PyProof.Rows L2 Np
def spLaw (K : PySem.W.Frag) : Sp := fun vs H Q _ => ∃ (a : Addr) (ns : List Int), vs = [.ref a] ∧ Only H ∧ SqL K H a (ns.map V.int) ∧ ns.length ≤ 63 ∧ (∀ z ∈ ns, z.natAbs.log2 < 1048577) ∧ ∀ H', Q (.bl true) H'
theorem repL_ints {G : Gx} {H : Hp} {W : Wd} : ∀ ns : List Int, RepL G H W (ns.map D.int) (ns.map V.int)
 | [] => rfl
 | n :: ns => ⟨.int n, _, rfl, rfl, repL_ints ns⟩
theorem sc_of {K : PySem.W.Frag} {H : Hp} {a : Addr} {xs : List V} (hO : Only H) (h : SqL K H a xs) : Sc K H a xs := by
 rcases h with (h | ⟨o, h⟩) | h
 ·rcases hO a with q | ⟨o, ys, q⟩ <;> rw [q] at h <;> cases h
 ·exact .inl ⟨o, h⟩
 ·exact .inr (.inr h)
theorem law_sp {K : PySem.W.Frag} {mg : Str → Option Value} (vs : List V) (H : Hp) (Q : VK) (E : XK) (h : spLaw K vs H Q E) : spF ⟨K, mg⟩ F.k23_law vs H Q E := by
 obtain ⟨a, ns, rfl, hO, hS, hl, hz, q⟩ := h
 obtain ⟨d, S', e, rfl⟩ := (Nm.k23_holds ns ⟨hl, hz⟩).out
 refine ⟨⟨fun _ => 0, []⟩, [.scr (ns.map D.int)], .ok (.bl true) S', ⟨fun i j hi => by simp at hi, fun i o hi => by simp at hi⟩, ⟨.ref a, [], rfl, ⟨a, _, rfl, sc_of hO hS, repL_ints ns⟩, rfl⟩, e, fun H' W' _ _ v rv => ?_⟩
 have rv : v = .bl true := rv
 subst rv
 exact q H'
theorem cst_pair {K : PySem.W.Frag} {mg : Str → Option Value} {x : Str} {c : Addr} {dd : Option Addr} {t0 t1 : Tok} {n : Nat} {sl : Array (Option Value)} {i j : Int} (hm : mg x = some (.ref c)) (l : K.lookup c = some ⟨.type "tuple", dd, .seq #[.int i t0, .int j t1] n, sl⟩) : CstAt K mg x (.tup [.int i, .int j]) :=
 ⟨_, .ref c, hm, rfl, fun H W => ⟨c, [.int i, .int j], rfl, .inr ⟨_, _, _, l, rfl, rfl, by show 2 ≤ sizeLine; decide, .cons ⟨_, rfl⟩ (.cons ⟨_, rfl⟩ .nil)⟩, ⟨_, _, rfl, rfl, ⟨_, _, rfl, rfl, rfl⟩⟩⟩⟩
theorem all_mk {P : Program} {w : World} {K : PySem.W.Frag} {h : Heap} {mg : Str → Option Value} {fa : Addr} (ht : P.given.tree = none) (X : K.In h) (G : h.Ns mainGlobals mg) (hfa : mg "law" = some (.ref fa))
  {f0 : Addr} {od0 an0 : Option Addr} {sl0 : Array (Option Value)} {oc0 kV0 dc0 pm0 cd0 ct0 : Value}
  {f1 : Addr} {od1 an1 : Option Addr} {sl1 : Array (Option Value)} {oc1 kV1 dc1 pm1 cd1 ct1 : Value}
  {f2 : Addr} {od2 an2 : Option Addr} {sl2 : Array (Option Value)} {oc2 kV2 dc2 pm2 cd2 ct2 : Value}
  {f3 : Addr} {od3 an3 : Option Addr} {sl3 : Array (Option Value)} {oc3 kV3 dc3 pm3 cd3 ct3 : Value}
  {f4 : Addr} {od4 an4 : Option Addr} {sl4 : Array (Option Value)} {oc4 kV4 dc4 pm4 cd4 ct4 : Value}
  {f5 : Addr} {od5 an5 : Option Addr} {sl5 : Array (Option Value)} {oc5 kV5 dc5 pm5 cd5 ct5 : Value}
  {f6 : Addr} {od6 an6 : Option Addr} {sl6 : Array (Option Value)} {oc6 kV6 dc6 pm6 cd6 ct6 : Value}
  {f7 : Addr} {od7 an7 : Option Addr} {sl7 : Array (Option Value)} {oc7 kV7 dc7 pm7 cd7 ct7 : Value}
  {f8 : Addr} {od8 an8 : Option Addr} {sl8 : Array (Option Value)} {oc8 kV8 dc8 pm8 cd8 ct8 : Value}
  {f9 : Addr} {od9 an9 : Option Addr} {sl9 : Array (Option Value)} {oc9 kV9 dc9 pm9 cd9 ct9 : Value}
  {f10 : Addr} {od10 an10 : Option Addr} {sl10 : Array (Option Value)} {oc10 kV10 dc10 pm10 cd10 ct10 : Value}
  {f11 : Addr} {od11 an11 : Option Addr} {sl11 : Array (Option Value)} {oc11 kV11 dc11 pm11 cd11 ct11 : Value}
  {f12 : Addr} {od12 an12 : Option Addr} {sl12 : Array (Option Value)} {oc12 kV12 dc12 pm12 cd12 ct12 : Value}
  {f13 : Addr} {od13 an13 : Option Addr} {sl13 : Array (Option Value)} {oc13 kV13 dc13 pm13 cd13 ct13 : Value}
  {f14 : Addr} {od14 an14 : Option Addr} {sl14 : Array (Option Value)} {oc14 kV14 dc14 pm14 cd14 ct14 : Value}
  {f15 : Addr} {od15 an15 : Option Addr} {sl15 : Array (Option Value)} {oc15 kV15 dc15 pm15 cd15 ct15 : Value}
  {f16 : Addr} {od16 an16 : Option Addr} {sl16 : Array (Option Value)} {oc16 kV16 dc16 pm16 cd16 ct16 : Value}
  {f17 : Addr} {od17 an17 : Option Addr} {sl17 : Array (Option Value)} {oc17 kV17 dc17 pm17 cd17 ct17 : Value}
  {f18 : Addr} {od18 an18 : Option Addr} {sl18 : Array (Option Value)} {oc18 kV18 dc18 pm18 cd18 ct18 : Value}
  {f19 : Addr} {od19 an19 : Option Addr} {sl19 : Array (Option Value)} {oc19 kV19 dc19 pm19 cd19 ct19 : Value}
  {f20 : Addr} {od20 an20 : Option Addr} {sl20 : Array (Option Value)} {oc20 kV20 dc20 pm20 cd20 ct20 : Value}
  {f21 : Addr} {od21 an21 : Option Addr} {sl21 : Array (Option Value)} {oc21 kV21 dc21 pm21 cd21 ct21 : Value}
  {f22 : Addr} {od22 an22 : Option Addr} {sl22 : Array (Option Value)} {oc22 kV22 dc22 pm22 cd22 ct22 : Value}
  {f23 : Addr} {od23 an23 : Option Addr} {sl23 : Array (Option Value)} {oc23 kV23 dc23 pm23 cd23 ct23 : Value}
  {f24 : Addr} {od24 an24 : Option Addr} {sl24 : Array (Option Value)} {oc24 kV24 dc24 pm24 cd24 ct24 : Value}
  {f25 : Addr} {od25 an25 : Option Addr} {sl25 : Array (Option Value)} {oc25 kV25 dc25 pm25 cd25 ct25 : Value}
  {f26 : Addr} {od26 an26 : Option Addr} {sl26 : Array (Option Value)} {oc26 kV26 dc26 pm26 cd26 ct26 : Value}
  {f27 : Addr} {od27 an27 : Option Addr} {sl27 : Array (Option Value)} {oc27 kV27 dc27 pm27 cd27 ct27 : Value}
  {fCNOUGHT : Addr} {dCNOUGHT : Option Addr} {tCNOUGHT uCNOUGHT : Tok} {nCNOUGHT : Nat} {sCNOUGHT : Array (Option Value)}
  {C_NoColumn : Addr}
  {C_NoDeed : Addr}
  {C_NoInverse : Addr}
  {C_NoLine : Addr}
  {C_NoMark : Addr}
  {C_NoName : Addr}
  {C_NoPoint : Addr}
  {C_NoRatio : Addr}
  {C_NoText : Addr}
  {C_NotSure : Addr}
  {C_PlaneError : Addr}
  (a0 : PySem.W.nsIn K mainGlobals "is_whole" = some (some (.ref f0))) (l0 : K.lookup f0 = some ⟨oc0, od0, .func (PySem.W.fnOf "is_whole" "is_whole" (zI s_is_whole) (zG s_is_whole) (zC s_is_whole) .none kV0 dc0 pm0 an0 cd0 ct0), sl0⟩) (c0 : PySem.W.codeIn K cd0 "is_whole" = true) (k0 : PySem.W.keepIn K (.ref f0) = true)
  (a1 : PySem.W.nsIn K mainGlobals "greatest_common" = some (some (.ref f1))) (l1 : K.lookup f1 = some ⟨oc1, od1, .func (PySem.W.fnOf "greatest_common" "greatest_common" (zI s_greatest_common) (zG s_greatest_common) (zC s_greatest_common) .none kV1 dc1 pm1 an1 cd1 ct1), sl1⟩) (c1 : PySem.W.codeIn K cd1 "greatest_common" = true) (k1 : PySem.W.keepIn K (.ref f1) = true)
  (a2 : PySem.W.nsIn K mainGlobals "is_ratio" = some (some (.ref f2))) (l2 : K.lookup f2 = some ⟨oc2, od2, .func (PySem.W.fnOf "is_ratio" "is_ratio" (zI s_is_ratio) (zG s_is_ratio) (zC s_is_ratio) .none kV2 dc2 pm2 an2 cd2 ct2), sl2⟩) (c2 : PySem.W.codeIn K cd2 "is_ratio" = true) (k2 : PySem.W.keepIn K (.ref f2) = true)
  (a3 : PySem.W.nsIn K mainGlobals "ratio" = some (some (.ref f3))) (l3 : K.lookup f3 = some ⟨oc3, od3, .func (PySem.W.fnOf "ratio" "ratio" (zI s_ratio) (zG s_ratio) (zC s_ratio) .none kV3 dc3 pm3 an3 cd3 ct3), sl3⟩) (c3 : PySem.W.codeIn K cd3 "ratio" = true) (k3 : PySem.W.keepIn K (.ref f3) = true)
  (a4 : PySem.W.nsIn K mainGlobals "plus" = some (some (.ref f4))) (l4 : K.lookup f4 = some ⟨oc4, od4, .func (PySem.W.fnOf "plus" "plus" (zI s_plus) (zG s_plus) (zC s_plus) .none kV4 dc4 pm4 an4 cd4 ct4), sl4⟩) (c4 : PySem.W.codeIn K cd4 "plus" = true) (k4 : PySem.W.keepIn K (.ref f4) = true)
  (a5 : PySem.W.nsIn K mainGlobals "times" = some (some (.ref f5))) (l5 : K.lookup f5 = some ⟨oc5, od5, .func (PySem.W.fnOf "times" "times" (zI s_times) (zG s_times) (zC s_times) .none kV5 dc5 pm5 an5 cd5 ct5), sl5⟩) (c5 : PySem.W.codeIn K cd5 "times" = true) (k5 : PySem.W.keepIn K (.ref f5) = true)
  (a6 : PySem.W.nsIn K mainGlobals "added" = some (some (.ref f6))) (l6 : K.lookup f6 = some ⟨oc6, od6, .func (PySem.W.fnOf "added" "added" (zI s_added) (zG s_added) (zC s_added) .none kV6 dc6 pm6 an6 cd6 ct6), sl6⟩) (c6 : PySem.W.codeIn K cd6 "added" = true) (k6 : PySem.W.keepIn K (.ref f6) = true)
  (a7 : PySem.W.nsIn K mainGlobals "scaled" = some (some (.ref f7))) (l7 : K.lookup f7 = some ⟨oc7, od7, .func (PySem.W.fnOf "scaled" "scaled" (zI s_scaled) (zG s_scaled) (zC s_scaled) .none kV7 dc7 pm7 an7 cd7 ct7), sl7⟩) (c7 : PySem.W.codeIn K cd7 "scaled" = true) (k7 : PySem.W.keepIn K (.ref f7) = true)
  (a8 : PySem.W.nsIn K mainGlobals "is_row_number" = some (some (.ref f8))) (l8 : K.lookup f8 = some ⟨oc8, od8, .func (PySem.W.fnOf "is_row_number" "is_row_number" (zI s_is_row_number) (zG s_is_row_number) (zC s_is_row_number) .none kV8 dc8 pm8 an8 cd8 ct8), sl8⟩) (c8 : PySem.W.codeIn K cd8 "is_row_number" = true) (k8 : PySem.W.keepIn K (.ref f8) = true)
  (a9 : PySem.W.nsIn K mainGlobals "are_unlike_rows" = some (some (.ref f9))) (l9 : K.lookup f9 = some ⟨oc9, od9, .func (PySem.W.fnOf "are_unlike_rows" "are_unlike_rows" (zI s_are_unlike_rows) (zG s_are_unlike_rows) (zC s_are_unlike_rows) .none kV9 dc9 pm9 an9 cd9 ct9), sl9⟩) (c9 : PySem.W.codeIn K cd9 "are_unlike_rows" = true) (k9 : PySem.W.keepIn K (.ref f9) = true)
  (a10 : PySem.W.nsIn K mainGlobals "is_deed" = some (some (.ref f10))) (l10 : K.lookup f10 = some ⟨oc10, od10, .func (PySem.W.fnOf "is_deed" "is_deed" (zI s_is_deed) (zG s_is_deed) (zC s_is_deed) .none kV10 dc10 pm10 an10 cd10 ct10), sl10⟩) (c10 : PySem.W.codeIn K cd10 "is_deed" = true) (k10 : PySem.W.keepIn K (.ref f10) = true)
  (a11 : PySem.W.nsIn K mainGlobals "are_deeds" = some (some (.ref f11))) (l11 : K.lookup f11 = some ⟨oc11, od11, .func (PySem.W.fnOf "are_deeds" "are_deeds" (zI s_are_deeds) (zG s_are_deeds) (zC s_are_deeds) .none kV11 dc11 pm11 an11 cd11 ct11), sl11⟩) (c11 : PySem.W.codeIn K cd11 "are_deeds" = true) (k11 : PySem.W.keepIn K (.ref f11) = true)
  (a12 : PySem.W.nsIn K mainGlobals "done_once" = some (some (.ref f12))) (l12 : K.lookup f12 = some ⟨oc12, od12, .func (PySem.W.fnOf "done_once" "done_once" (zI s_done_once) (zG s_done_once) (zC s_done_once) .none kV12 dc12 pm12 an12 cd12 ct12), sl12⟩) (c12 : PySem.W.codeIn K cd12 "done_once" = true) (k12 : PySem.W.keepIn K (.ref f12) = true)
  (a13 : PySem.W.nsIn K mainGlobals "done" = some (some (.ref f13))) (l13 : K.lookup f13 = some ⟨oc13, od13, .func (PySem.W.fnOf "done" "done" (zI s_done) (zG s_done) (zC s_done) .none kV13 dc13 pm13 an13 cd13 ct13), sl13⟩) (c13 : PySem.W.codeIn K cd13 "done" = true) (k13 : PySem.W.keepIn K (.ref f13) = true)
  (a14 : PySem.W.nsIn K mainGlobals "_law_cell_at" = some (some (.ref f14))) (l14 : K.lookup f14 = some ⟨oc14, od14, .func (PySem.W.fnOf "_law_cell_at" "_law_cell_at" (zI s__law_cell_at) (zG s__law_cell_at) (zC s__law_cell_at) .none kV14 dc14 pm14 an14 cd14 ct14), sl14⟩) (c14 : PySem.W.codeIn K cd14 "_law_cell_at" = true) (k14 : PySem.W.keepIn K (.ref f14) = true)
  (a15 : PySem.W.nsIn K mainGlobals "_law_great" = some (some (.ref f15))) (l15 : K.lookup f15 = some ⟨oc15, od15, .func (PySem.W.fnOf "_law_great" "_law_great" (zI s__law_great) (zG s__law_great) (zC s__law_great) .none kV15 dc15 pm15 an15 cd15 ct15), sl15⟩) (c15 : PySem.W.codeIn K cd15 "_law_great" = true) (k15 : PySem.W.keepIn K (.ref f15) = true)
  (a16 : PySem.W.nsIn K mainGlobals "_law_low" = some (some (.ref f16))) (l16 : K.lookup f16 = some ⟨oc16, od16, .func (PySem.W.fnOf "_law_low" "_law_low" (zI s__law_low) (zG s__law_low) (zC s__law_low) .none kV16 dc16 pm16 an16 cd16 ct16), sl16⟩) (c16 : PySem.W.codeIn K cd16 "_law_low" = true) (k16 : PySem.W.keepIn K (.ref f16) = true)
  (a17 : PySem.W.nsIn K mainGlobals "_law_ratio" = some (some (.ref f17))) (l17 : K.lookup f17 = some ⟨oc17, od17, .func (PySem.W.fnOf "_law_ratio" "_law_ratio" (zI s__law_ratio) (zG s__law_ratio) (zC s__law_ratio) .none kV17 dc17 pm17 an17 cd17 ct17), sl17⟩) (c17 : PySem.W.codeIn K cd17 "_law_ratio" = true) (k17 : PySem.W.keepIn K (.ref f17) = true)
  (a18 : PySem.W.nsIn K mainGlobals "_law_row" = some (some (.ref f18))) (l18 : K.lookup f18 = some ⟨oc18, od18, .func (PySem.W.fnOf "_law_row" "_law_row" (zI s__law_row) (zG s__law_row) (zC s__law_row) .none kV18 dc18 pm18 an18 cd18 ct18), sl18⟩) (c18 : PySem.W.codeIn K cd18 "_law_row" = true) (k18 : PySem.W.keepIn K (.ref f18) = true)
  (a19 : PySem.W.nsIn K mainGlobals "_law_plus" = some (some (.ref f19))) (l19 : K.lookup f19 = some ⟨oc19, od19, .func (PySem.W.fnOf "_law_plus" "_law_plus" (zI s__law_plus) (zG s__law_plus) (zC s__law_plus) .none kV19 dc19 pm19 an19 cd19 ct19), sl19⟩) (c19 : PySem.W.codeIn K cd19 "_law_plus" = true) (k19 : PySem.W.keepIn K (.ref f19) = true)
  (a20 : PySem.W.nsIn K mainGlobals "_law_times" = some (some (.ref f20))) (l20 : K.lookup f20 = some ⟨oc20, od20, .func (PySem.W.fnOf "_law_times" "_law_times" (zI s__law_times) (zG s__law_times) (zC s__law_times) .none kV20 dc20 pm20 an20 cd20 ct20), sl20⟩) (c20 : PySem.W.codeIn K cd20 "_law_times" = true) (k20 : PySem.W.keepIn K (.ref f20) = true)
  (a21 : PySem.W.nsIn K mainGlobals "_law_mix" = some (some (.ref f21))) (l21 : K.lookup f21 = some ⟨oc21, od21, .func (PySem.W.fnOf "_law_mix" "_law_mix" (zI s__law_mix) (zG s__law_mix) (zC s__law_mix) .none kV21 dc21 pm21 an21 cd21 ct21), sl21⟩) (c21 : PySem.W.codeIn K cd21 "_law_mix" = true) (k21 : PySem.W.keepIn K (.ref f21) = true)
  (a22 : PySem.W.nsIn K mainGlobals "_law_table" = some (some (.ref f22))) (l22 : K.lookup f22 = some ⟨oc22, od22, .func (PySem.W.fnOf "_law_table" "_law_table" (zI s__law_table) (zG s__law_table) (zC s__law_table) .none kV22 dc22 pm22 an22 cd22 ct22), sl22⟩) (c22 : PySem.W.codeIn K cd22 "_law_table" = true) (k22 : PySem.W.keepIn K (.ref f22) = true)
  (a23 : PySem.W.nsIn K mainGlobals "_law_deed" = some (some (.ref f23))) (l23 : K.lookup f23 = some ⟨oc23, od23, .func (PySem.W.fnOf "_law_deed" "_law_deed" (zI s__law_deed) (zG s__law_deed) (zC s__law_deed) .none kV23 dc23 pm23 an23 cd23 ct23), sl23⟩) (c23 : PySem.W.codeIn K cd23 "_law_deed" = true) (k23 : PySem.W.keepIn K (.ref f23) = true)
  (a24 : PySem.W.nsIn K mainGlobals "_law_done" = some (some (.ref f24))) (l24 : K.lookup f24 = some ⟨oc24, od24, .func (PySem.W.fnOf "_law_done" "_law_done" (zI s__law_done) (zG s__law_done) (zC s__law_done) .none kV24 dc24 pm24 an24 cd24 ct24), sl24⟩) (c24 : PySem.W.codeIn K cd24 "_law_done" = true) (k24 : PySem.W.keepIn K (.ref f24) = true)
  (a25 : PySem.W.nsIn K mainGlobals "_law_odd_deed" = some (some (.ref f25))) (l25 : K.lookup f25 = some ⟨oc25, od25, .func (PySem.W.fnOf "_law_odd_deed" "_law_odd_deed" (zI s__law_odd_deed) (zG s__law_odd_deed) (zC s__law_odd_deed) .none kV25 dc25 pm25 an25 cd25 ct25), sl25⟩) (c25 : PySem.W.codeIn K cd25 "_law_odd_deed" = true) (k25 : PySem.W.keepIn K (.ref f25) = true)
  (a26 : PySem.W.nsIn K mainGlobals "_law_refused" = some (some (.ref f26))) (l26 : K.lookup f26 = some ⟨oc26, od26, .func (PySem.W.fnOf "_law_refused" "_law_refused" (zI s__law_refused) (zG s__law_refused) (zC s__law_refused) .none kV26 dc26 pm26 an26 cd26 ct26), sl26⟩) (c26 : PySem.W.codeIn K cd26 "_law_refused" = true) (k26 : PySem.W.keepIn K (.ref f26) = true)
  (a27 : PySem.W.nsIn K mainGlobals "law" = some (some (.ref f27))) (l27 : K.lookup f27 = some ⟨oc27, od27, .func (PySem.W.fnOf "law" "law" (zI s_law) (zG s_law) (zC s_law) .none kV27 dc27 pm27 an27 cd27 ct27), sl27⟩) (c27 : PySem.W.codeIn K cd27 "law" = true) (k27 : PySem.W.keepIn K (.ref f27) = true)
  (aCNOUGHT : PySem.W.nsIn K mainGlobals "NOUGHT" = some (some (.ref fCNOUGHT))) (lCNOUGHT : K.lookup fCNOUGHT = some ⟨.type "tuple", dCNOUGHT, .seq #[.int 0 tCNOUGHT, .int 1 uCNOUGHT] nCNOUGHT, sCNOUGHT⟩)
  (z_ValueError : PySem.W.nsIn K mainGlobals "ValueError" = some none)
  (z_abs : PySem.W.nsIn K mainGlobals "abs" = some none)
  (z_all : PySem.W.nsIn K mainGlobals "all" = some none)
  (z_bool : PySem.W.nsIn K mainGlobals "bool" = some none)
  (z_divmod : PySem.W.nsIn K mainGlobals "divmod" = some none)
  (z_int : PySem.W.nsIn K mainGlobals "int" = some none)
  (z_isinstance : PySem.W.nsIn K mainGlobals "isinstance" = some none)
  (z_len : PySem.W.nsIn K mainGlobals "len" = some none)
  (z_list : PySem.W.nsIn K mainGlobals "list" = some none)
  (z_max : PySem.W.nsIn K mainGlobals "max" = some none)
  (z_range : PySem.W.nsIn K mainGlobals "range" = some none)
  (z_str : PySem.W.nsIn K mainGlobals "str" = some none)
  (z_tuple : PySem.W.nsIn K mainGlobals "tuple" = some none)
  (z_zip : PySem.W.nsIn K mainGlobals "zip" = some none)
  (aX_NoColumn : PySem.W.nsIn K mainGlobals "NoColumn" = some (some (.ref C_NoColumn)))
  (aX_NoDeed : PySem.W.nsIn K mainGlobals "NoDeed" = some (some (.ref C_NoDeed)))
  (aX_NoInverse : PySem.W.nsIn K mainGlobals "NoInverse" = some (some (.ref C_NoInverse)))
  (aX_NoLine : PySem.W.nsIn K mainGlobals "NoLine" = some (some (.ref C_NoLine)))
  (aX_NoMark : PySem.W.nsIn K mainGlobals "NoMark" = some (some (.ref C_NoMark)))
  (aX_NoName : PySem.W.nsIn K mainGlobals "NoName" = some (some (.ref C_NoName)))
  (aX_NoPoint : PySem.W.nsIn K mainGlobals "NoPoint" = some (some (.ref C_NoPoint)))
  (aX_NoRatio : PySem.W.nsIn K mainGlobals "NoRatio" = some (some (.ref C_NoRatio)))
  (aX_NoText : PySem.W.nsIn K mainGlobals "NoText" = some (some (.ref C_NoText)))
  (aX_NotSure : PySem.W.nsIn K mainGlobals "NotSure" = some (some (.ref C_NotSure)))
  (aX_PlaneError : PySem.W.nsIn K mainGlobals "PlaneError" = some (some (.ref C_PlaneError)))
  (x_exmOne_NoDeed_NoDeed : PySem.W.exmOne K (.ref C_NoDeed) (.ref C_NoDeed) = some true)
  (x_exmNo_NoDeed_NotSure : PySem.W.exmOne K (.ref C_NoDeed) (.ref C_NotSure) = some false)
  (x_exmNo_NoDeed_NoText : PySem.W.exmOne K (.ref C_NoDeed) (.ref C_NoText) = some false)
  (x_exmNo_NoDeed_NoRatio : PySem.W.exmOne K (.ref C_NoDeed) (.ref C_NoRatio) = some false)
  (x_exmNo_NoDeed_NoPoint : PySem.W.exmOne K (.ref C_NoDeed) (.ref C_NoPoint) = some false)
  (x_exmNo_NoDeed_NoName : PySem.W.exmOne K (.ref C_NoDeed) (.ref C_NoName) = some false)
  (x_exmNo_NoDeed_NoMark : PySem.W.exmOne K (.ref C_NoDeed) (.ref C_NoMark) = some false)
  (x_exmNo_NoDeed_NoLine : PySem.W.exmOne K (.ref C_NoDeed) (.ref C_NoLine) = some false)
  (x_exmNo_NoDeed_NoInverse : PySem.W.exmOne K (.ref C_NoDeed) (.ref C_NoInverse) = some false)
  (x_exmNo_NoDeed_NoColumn : PySem.W.exmOne K (.ref C_NoDeed) (.ref C_NoColumn) = some false)
  (x_kitOne_NoRatio_PlaneError : PySem.W.kitOne K (.ref C_NoRatio) (.ref C_PlaneError) = some true)
  (x_kitOne_NoDeed_PlaneError : PySem.W.kitOne K (.ref C_NoDeed) (.ref C_PlaneError) = some true)
  (x_kitOne_NoRatio_ValueError : PySem.W.kitOne K (.ref C_NoRatio) (.type "ValueError") = some true)
  (x_kitOne_NoDeed_ValueError : PySem.W.kitOne K (.ref C_NoDeed) (.type "ValueError") = some true)
  (x_exc_NoDeed : PySem.W.excIn K C_NoDeed bmV "ValueError.__new__" = true) :
  ∃ fd : FuncData, (∀ (s : Shared) (v : Value), BindsTo s fd ⟨[v], []⟩ [("_law_script", v)]) ∧ ∀ base : Heap, K.In base → base.Ns mainGlobals mg → FnOk P w K mg base CX0 8 fa fd ["_law_script"] (spLaw K) := by
 have e := hfa.symm.trans (PySem.W.mg_of X G a27)
 cases e
 have m0 := PySem.W.mg_of X G a0
 have F0 := yC (st := s_is_whole) l0 c0 k0
 have b0 := F0.binds (ps := ["thing"]) fun _ _ _ _ _ _ us hl => match us, hl with | [_], _ => rfl
 have m1 := PySem.W.mg_of X G a1
 have F1 := yC (st := s_greatest_common) l1 c1 k1
 have b1 := F1.binds (ps := ["one", "other"]) fun _ _ _ _ _ _ us hl => match us, hl with | [_, _], _ => rfl
 have m2 := PySem.W.mg_of X G a2
 have F2 := yC (st := s_is_ratio) l2 c2 k2
 have b2 := F2.binds (ps := ["thing"]) fun _ _ _ _ _ _ us hl => match us, hl with | [_], _ => rfl
 have m3 := PySem.W.mg_of X G a3
 have F3 := yC (st := s_ratio) l3 c3 k3
 have b3 := F3.binds (ps := ["top", "bottom"]) fun _ _ _ _ _ _ us hl => match us, hl with | [_, _], _ => rfl
 have m4 := PySem.W.mg_of X G a4
 have F4 := yC (st := s_plus) l4 c4 k4
 have b4 := F4.binds (ps := ["one", "other"]) fun _ _ _ _ _ _ us hl => match us, hl with | [_, _], _ => rfl
 have m5 := PySem.W.mg_of X G a5
 have F5 := yC (st := s_times) l5 c5 k5
 have b5 := F5.binds (ps := ["one", "other"]) fun _ _ _ _ _ _ us hl => match us, hl with | [_, _], _ => rfl
 have m6 := PySem.W.mg_of X G a6
 have F6 := yC (st := s_added) l6 c6 k6
 have b6 := F6.binds (ps := ["one", "other"]) fun _ _ _ _ _ _ us hl => match us, hl with | [_, _], _ => rfl
 have m7 := PySem.W.mg_of X G a7
 have F7 := yC (st := s_scaled) l7 c7 k7
 have b7 := F7.binds (ps := ["row", "by"]) fun _ _ _ _ _ _ us hl => match us, hl with | [_, _], _ => rfl
 have m8 := PySem.W.mg_of X G a8
 have F8 := yC (st := s_is_row_number) l8 c8 k8
 have b8 := F8.binds (ps := ["thing", "many"]) fun _ _ _ _ _ _ us hl => match us, hl with | [_, _], _ => rfl
 have m9 := PySem.W.mg_of X G a9
 have F9 := yC (st := s_are_unlike_rows) l9 c9 k9
 have b9 := F9.binds (ps := ["one", "other", "many"]) fun _ _ _ _ _ _ us hl => match us, hl with | [_, _, _], _ => rfl
 have m10 := PySem.W.mg_of X G a10
 have F10 := yC (st := s_is_deed) l10 c10 k10
 have b10 := F10.binds (ps := ["thing", "many"]) fun _ _ _ _ _ _ us hl => match us, hl with | [_, _], _ => rfl
 have m11 := PySem.W.mg_of X G a11
 have F11 := yC (st := s_are_deeds) l11 c11 k11
 have b11 := F11.binds (ps := ["thing", "many"]) fun _ _ _ _ _ _ us hl => match us, hl with | [_, _], _ => rfl
 have m12 := PySem.W.mg_of X G a12
 have F12 := yC (st := s_done_once) l12 c12 k12
 have b12 := F12.binds (ps := ["table", "deed"]) fun _ _ _ _ _ _ us hl => match us, hl with | [_, _], _ => rfl
 have m13 := PySem.W.mg_of X G a13
 have F13 := yC (st := s_done) l13 c13 k13
 have b13 := F13.binds (ps := ["table", "deeds"]) fun _ _ _ _ _ _ us hl => match us, hl with | [_, _], _ => rfl
 have m14 := PySem.W.mg_of X G a14
 have F14 := yC (st := s__law_cell_at) l14 c14 k14
 have b14 := F14.binds (ps := ["_law_script", "_law_k"]) fun _ _ _ _ _ _ us hl => match us, hl with | [_, _], _ => rfl
 have m15 := PySem.W.mg_of X G a15
 have F15 := yC (st := s__law_great) l15 c15 k15
 have b15 := F15.binds (ps := ["_law_cell"]) fun _ _ _ _ _ _ us hl => match us, hl with | [_], _ => rfl
 have m16 := PySem.W.mg_of X G a16
 have F16 := yC (st := s__law_low) l16 c16 k16
 have b16 := F16.binds (ps := ["_law_top", "_law_bottom"]) fun _ _ _ _ _ _ us hl => match us, hl with | [_, _], _ => rfl
 have m17 := PySem.W.mg_of X G a17
 have F17 := yC (st := s__law_ratio) l17 c17 k17
 have b17 := F17.binds (ps := ["_law_number"]) fun _ _ _ _ _ _ us hl => match us, hl with | [_], _ => rfl
 have m18 := PySem.W.mg_of X G a18
 have F18 := yC (st := s__law_row) l18 c18 k18
 have b18 := F18.binds (ps := ["_law_number", "_law_long"]) fun _ _ _ _ _ _ us hl => match us, hl with | [_, _], _ => rfl
 have m19 := PySem.W.mg_of X G a19
 have F19 := yC (st := s__law_plus) l19 c19 k19
 have b19 := F19.binds (ps := ["_law_one", "_law_other"]) fun _ _ _ _ _ _ us hl => match us, hl with | [_, _], _ => rfl
 have m20 := PySem.W.mg_of X G a20
 have F20 := yC (st := s__law_times) l20 c20 k20
 have b20 := F20.binds (ps := ["_law_one", "_law_other"]) fun _ _ _ _ _ _ us hl => match us, hl with | [_, _], _ => rfl
 have m21 := PySem.W.mg_of X G a21
 have F21 := yC (st := s__law_mix) l21 c21 k21
 have b21 := F21.binds (ps := ["_law_rows", "_law_shares", "_law_long"]) fun _ _ _ _ _ _ us hl => match us, hl with | [_, _, _], _ => rfl
 have m22 := PySem.W.mg_of X G a22
 have F22 := yC (st := s__law_table) l22 c22 k22
 have b22 := F22.binds (ps := ["_law_cells", "_law_wide", "_law_mixing"]) fun _ _ _ _ _ _ us hl => match us, hl with | [_, _, _], _ => rfl
 have m23 := PySem.W.mg_of X G a23
 have F23 := yC (st := s__law_deed) l23 c23 k23
 have b23 := F23.binds (ps := ["_law_number", "_law_many"]) fun _ _ _ _ _ _ us hl => match us, hl with | [_, _], _ => rfl
 have m24 := PySem.W.mg_of X G a24
 have F24 := yC (st := s__law_done) l24 c24 k24
 have b24 := F24.binds (ps := ["_law_table_here", "_law_deeds"]) fun _ _ _ _ _ _ us hl => match us, hl with | [_, _], _ => rfl
 have m25 := PySem.W.mg_of X G a25
 have F25 := yC (st := s__law_odd_deed) l25 c25 k25
 have b25 := F25.binds (ps := ["_law_number", "_law_many"]) fun _ _ _ _ _ _ us hl => match us, hl with | [_, _], _ => rfl
 have m26 := PySem.W.mg_of X G a26
 have F26 := yC (st := s__law_refused) l26 c26 k26
 have b26 := F26.binds (ps := ["_law_table_here", "_law_deeds"]) fun _ _ _ _ _ _ us hl => match us, hl with | [_, _], _ => rfl
 have m27 := PySem.W.mg_of X G a27
 have F27 := yC (st := s_law) l27 c27 k27
 have m_ValueError := PySem.W.mg_none_of X G z_ValueError
 have m_abs := PySem.W.mg_none_of X G z_abs
 have m_all := PySem.W.mg_none_of X G z_all
 have m_bool := PySem.W.mg_none_of X G z_bool
 have m_divmod := PySem.W.mg_none_of X G z_divmod
 have m_int := PySem.W.mg_none_of X G z_int
 have m_isinstance := PySem.W.mg_none_of X G z_isinstance
 have m_len := PySem.W.mg_none_of X G z_len
 have m_list := PySem.W.mg_none_of X G z_list
 have m_max := PySem.W.mg_none_of X G z_max
 have m_range := PySem.W.mg_none_of X G z_range
 have m_str := PySem.W.mg_none_of X G z_str
 have m_tuple := PySem.W.mg_none_of X G z_tuple
 have m_zip := PySem.W.mg_none_of X G z_zip
 have hC_NOUGHT := cst_pair (PySem.W.mg_of X G aCNOUGHT) lCNOUGHT
 have mC_NoColumn := PySem.W.mg_of X G aX_NoColumn
 have mC_NoDeed := PySem.W.mg_of X G aX_NoDeed
 have mC_NoInverse := PySem.W.mg_of X G aX_NoInverse
 have mC_NoLine := PySem.W.mg_of X G aX_NoLine
 have mC_NoMark := PySem.W.mg_of X G aX_NoMark
 have mC_NoName := PySem.W.mg_of X G aX_NoName
 have mC_NoPoint := PySem.W.mg_of X G aX_NoPoint
 have mC_NoRatio := PySem.W.mg_of X G aX_NoRatio
 have mC_NoText := PySem.W.mg_of X G aX_NoText
 have mC_NotSure := PySem.W.mg_of X G aX_NotSure
 have mC_PlaneError := PySem.W.mg_of X G aX_PlaneError
 refine ⟨PySem.W.fnOf "law" "law" (zI s_law) (zG s_law) (zC s_law) .none kV27 dc27 pm27 an27 cd27 ct27, fun s v => .of_eq rfl, fun base _ _ => ?_⟩
 have O0 := ok_is_whole (P := P) (w := w) (mg := mg) (base := base) ht F0.g m_bool m_int m_isinstance
 have O1 := ok_greatest_common (P := P) (w := w) (mg := mg) (base := base) ht F1.g
 have O2 := ok_is_ratio (P := P) (w := w) (mg := mg) (base := base) ht F2.g O0 b0 k0 m0 O1 b1 k1 m1 m_abs m_isinstance m_len m_tuple
 have O3 := ok_ratio (P := P) (w := w) (mg := mg) (base := base) ht F3.g O1 b1 k1 m1 m_abs
 have O4 := ok_plus (P := P) (w := w) (mg := mg) (base := base) ht F4.g O3 b3 k3 m3
 have O5 := ok_times (P := P) (w := w) (mg := mg) (base := base) ht F5.g O3 b3 k3 m3
 have O6 := ok_added (P := P) (w := w) (mg := mg) (base := base) ht F6.g O4 b4 k4 m4 m_zip
 have O7 := ok_scaled (P := P) (w := w) (mg := mg) (base := base) ht F7.g O5 b5 k5 m5
 have O8 := ok_is_row_number (P := P) (w := w) (mg := mg) (base := base) ht F8.g O0 b0 k0 m0
 have O9 := ok_are_unlike_rows (P := P) (w := w) (mg := mg) (base := base) ht F9.g O8 b8 k8 m8
 have O10 := ok_is_deed (P := P) (w := w) (mg := mg) (base := base) ht F10.g O9 b9 k9 m9 O8 b8 k8 m8 O2 b2 k2 m2 m_isinstance m_len m_str m_tuple hC_NOUGHT
 have O11 := ok_are_deeds (P := P) (w := w) (mg := mg) (base := base) ht F11.g O10 b10 k10 m10 m_all m_isinstance m_list
 have O12 := ok_done_once (P := P) (w := w) (mg := mg) (base := base) ht F12.g O7 b7 k7 m7 O6 b6 k6 m6 m_list
 have OX13 := okx_done (P := P) (w := w) (mg := mg) (base := base) ht F13.g O11 b11 k11 m11 O12 b12 k12 m12 m_len m_list mC_NoDeed x_exc_NoDeed
 have O13 := ok_done (P := P) (w := w) (mg := mg) (base := base) ht F13.g O11 b11 k11 m11 O12 b12 k12 m12 m_len m_list
 have O14 := ok__law_cell_at (P := P) (w := w) (mg := mg) (base := base) ht F14.g m_len
 have O15 := ok__law_great (P := P) (w := w) (mg := mg) (base := base) ht F15.g
 have O16 := ok__law_low (P := P) (w := w) (mg := mg) (base := base) ht F16.g m_abs
 have O17 := ok__law_ratio (P := P) (w := w) (mg := mg) (base := base) ht F17.g O16 b16 k16 m16 m_divmod
 have O18 := ok__law_row (P := P) (w := w) (mg := mg) (base := base) ht F18.g O17 b17 k17 m17 m_range
 have O19 := ok__law_plus (P := P) (w := w) (mg := mg) (base := base) ht F19.g O16 b16 k16 m16
 have O20 := ok__law_times (P := P) (w := w) (mg := mg) (base := base) ht F20.g O16 b16 k16 m16
 have O21 := ok__law_mix (P := P) (w := w) (mg := mg) (base := base) ht F21.g O19 b19 k19 m19 O20 b20 k20 m20 m_zip
 have O22 := ok__law_table (P := P) (w := w) (mg := mg) (base := base) ht F22.g O15 b15 k15 m15 O18 b18 k18 m18 O21 b21 k21 m21 m_len m_range
 have O23 := ok__law_deed (P := P) (w := w) (mg := mg) (base := base) ht F23.g O17 b17 k17 m17 m_divmod m_max
 have O24 := ok__law_done (P := P) (w := w) (mg := mg) (base := base) ht F24.g O20 b20 k20 m20 O19 b19 k19 m19 m_list m_zip
 have O25 := ok__law_odd_deed (P := P) (w := w) (mg := mg) (base := base) ht F25.g m_divmod
 have O26 := ok__law_refused (P := P) (w := w) (mg := mg) (base := base) ht F26.g OX13 b13 k13 m13 m_ValueError m_int m_isinstance mC_NoColumn mC_NoDeed mC_NoInverse mC_NoLine mC_NoMark mC_NoName mC_NoPoint mC_NoRatio mC_NoText mC_NotSure mC_PlaneError x_exmOne_NoDeed_NoDeed x_exmNo_NoDeed_NotSure x_exmNo_NoDeed_NoText x_exmNo_NoDeed_NoRatio x_exmNo_NoDeed_NoPoint x_exmNo_NoDeed_NoName x_exmNo_NoDeed_NoMark x_exmNo_NoDeed_NoLine x_exmNo_NoDeed_NoInverse x_exmNo_NoDeed_NoColumn x_kitOne_NoRatio_PlaneError x_kitOne_NoDeed_PlaneError x_kitOne_NoRatio_ValueError x_kitOne_NoDeed_ValueError
 have O27 := ok_law (P := P) (w := w) (mg := mg) (base := base) ht F27.g O14 b14 k14 m14 O22 b22 k22 m22 O23 b23 k23 m23 O15 b15 k15 m15 O24 b24 k24 m24 O25 b25 k25 m25 O26 b26 k26 m26 O13 b13 k13 m13 m_divmod m_len m_list m_range m_tuple
 exact O27.imp law_sp
theorem walk {l : PySem.W.OpenLaw} {q : Program} {loose : List Str} {XP : (Str → Option Value) → Heap → Prop} {YP : World → Heap → Prop} {d : DefRec} {K : Params → PySem.W.Frag} (hn : l.most = some 63) (hdf : d.params.defaults = [])
  (hY : ∀ (w : World) (h : Heap), YP w h → (K w.params).In h)
  (F : ∀ (w : World) (mg : Str → Option Value) (fa : Addr) (h : Heap), (K w.params).In h → h.Ns mainGlobals mg → mg d.name = some (.ref fa) →
   ∃ fd : FuncData, (∀ (s : Shared) (u : Value), BindsTo s fd ⟨[u], []⟩ [("_law_script", u)]) ∧ ∀ base : Heap, (K w.params).In base → base.Ns mainGlobals mg → FnOk l.prog w (K w.params) mg base CX0 8 fa fd ["_law_script"] (spLaw (K w.params)))
  (hq : PyProof.Rows.importsNone q = true) :
  PySem.W.WalkO q loose XP YP l.row.toRowW d [] (fun f vs => PySem.call f vs) :=
 L2.walk_of (n := 63) (k := 8) (x := "_law_script") (CX := fun _ => CX0) (sp := fun w => spLaw (K w.params)) hn (by decide) hdf ⟨rfl, by decide, by decide⟩ hY F hq (fun _ _ a ns hl hz hO hS => ⟨a, ns, rfl, hO, hS, hl, hz, fun _ => rfl⟩) fun _ _ _ _ _ z => z
end Tm
namespace Tm
open PySem PySem.Spec PyProof.Rows L2 Np
noncomputable def KK : PySem.Params → PySem.W.Frag := fun P =>
 (nat_lit 3, ⟨(.type "dict"), none, (.dict [⟨PySem.PyData.keyHash P "__name__", (.str "__name__" 165), (.str "law_nearplane_k23_no_deeds" 486)⟩, ⟨PySem.PyData.keyHash P "__doc__", (.str "__doc__" 166), .none⟩, ⟨PySem.PyData.keyHash P "__package__", (.str "__package__" 167), .none⟩, ⟨PySem.PyData.keyHash P "__loader__", (.str "__loader__" 168), (.builtin "__main__.__loader__#opaque")⟩, ⟨PySem.PyData.keyHash P "__spec__", (.str "__spec__" 169), .none⟩, ⟨PySem.PyData.keyHash P "__annotations__", (.str "__annotations__" 170), (.ref 6)⟩, ⟨PySem.PyData.keyHash P "__builtins__", (.str "__builtins__" 171), (.ref 4)⟩, ⟨PySem.PyData.keyHash P "__file__", (.str "__file__" 173), (.str "/claim/cut.py" 172)⟩, ⟨PySem.PyData.keyHash P "__cached__", (.str "__cached__" 174), .none⟩, ⟨PySem.PyData.keyHash P "PlaneError", (.str "PlaneError" 206), (.ref 24)⟩, ⟨PySem.PyData.keyHash P "NoRatio", (.str "NoRatio" 222), (.ref 37)⟩, ⟨PySem.PyData.keyHash P "NoText", (.str "NoText" 238), (.ref 49)⟩, ⟨PySem.PyData.keyHash P "NoDeed", (.str "NoDeed" 254), (.ref 61)⟩, ⟨PySem.PyData.keyHash P "NoInverse", (.str "NoInverse" 270), (.ref 73)⟩, ⟨PySem.PyData.keyHash P "NoPoint", (.str "NoPoint" 286), (.ref 85)⟩, ⟨PySem.PyData.keyHash P "NotSure", (.str "NotSure" 302), (.ref 97)⟩, ⟨PySem.PyData.keyHash P "NoColumn", (.str "NoColumn" 318), (.ref 109)⟩, ⟨PySem.PyData.keyHash P "NoMark", (.str "NoMark" 334), (.ref 121)⟩, ⟨PySem.PyData.keyHash P "NoName", (.str "NoName" 350), (.ref 133)⟩, ⟨PySem.PyData.keyHash P "NoLine", (.str "NoLine" 366), (.ref 145)⟩, ⟨PySem.PyData.keyHash P "NOUGHT", (.str "NOUGHT" 371), (.ref 148)⟩, ⟨PySem.PyData.keyHash P "is_whole", (.str "is_whole" 378), (.ref 155)⟩, ⟨PySem.PyData.keyHash P "is_ratio", (.str "is_ratio" 385), (.ref 162)⟩, ⟨PySem.PyData.keyHash P "greatest_common", (.str "greatest_common" 396), (.ref 169)⟩, ⟨PySem.PyData.keyHash P "ratio", (.str "ratio" 405), (.ref 176)⟩, ⟨PySem.PyData.keyHash P "plus", (.str "plus" 413), (.ref 183)⟩, ⟨PySem.PyData.keyHash P "times", (.str "times" 421), (.ref 190)⟩, ⟨PySem.PyData.keyHash P "added", (.str "added" 429), (.ref 195)⟩, ⟨PySem.PyData.keyHash P "scaled", (.str "scaled" 435), (.ref 200)⟩, ⟨PySem.PyData.keyHash P "done", (.str "done" 443), (.ref 205)⟩, ⟨PySem.PyData.keyHash P "done_once", (.str "done_once" 453), (.ref 212)⟩, ⟨PySem.PyData.keyHash P "are_deeds", (.str "are_deeds" 459), (.ref 217)⟩, ⟨PySem.PyData.keyHash P "is_deed", (.str "is_deed" 468), (.ref 224)⟩, ⟨PySem.PyData.keyHash P "is_row_number", (.str "is_row_number" 476), (.ref 231)⟩, ⟨PySem.PyData.keyHash P "are_unlike_rows", (.str "are_unlike_rows" 485), (.ref 238)⟩, ⟨PySem.PyData.keyHash P "_law_cell_at", (.str "_law_cell_at" 495), (.ref 245)⟩, ⟨PySem.PyData.keyHash P "_law_great", (.str "_law_great" 503), (.ref 252)⟩, ⟨PySem.PyData.keyHash P "_law_low", (.str "_law_low" 513), (.ref 259)⟩, ⟨PySem.PyData.keyHash P "_law_ratio", (.str "_law_ratio" 522), (.ref 266)⟩, ⟨PySem.PyData.keyHash P "_law_row", (.str "_law_row" 533), (.ref 273)⟩, ⟨PySem.PyData.keyHash P "_law_plus", (.str "_law_plus" 541), (.ref 280)⟩, ⟨PySem.PyData.keyHash P "_law_times", (.str "_law_times" 549), (.ref 287)⟩, ⟨PySem.PyData.keyHash P "_law_mix", (.str "_law_mix" 555), (.ref 292)⟩, ⟨PySem.PyData.keyHash P "_law_table", (.str "_law_table" 569), (.ref 299)⟩, ⟨PySem.PyData.keyHash P "_law_deed", (.str "_law_deed" 581), (.ref 306)⟩, ⟨PySem.PyData.keyHash P "_law_done", (.str "_law_done" 587), (.ref 311)⟩, ⟨PySem.PyData.keyHash P "_law_odd_deed", (.str "_law_odd_deed" 600), (.ref 318)⟩, ⟨PySem.PyData.keyHash P "_law_refused", (.str "_law_refused" 610), (.ref 325)⟩, ⟨PySem.PyData.keyHash P "law", (.str "law" 616), (.ref 330)⟩].toArray 49), [].toArray⟩) ::
 (nat_lit 23, ⟨(.type "dict"), none, (.dict [⟨PySem.PyData.keyHash P "__module__", (.str "__module__" 196), (.str "nearplane.errors" 187)⟩, ⟨PySem.PyData.keyHash P "__firstlineno__", (.str "__firstlineno__" 200), (.int (2) 199)⟩, ⟨PySem.PyData.keyHash P "__static_attributes__", (.str "__static_attributes__" 201), (.ref 22)⟩, ⟨PySem.PyData.keyHash P "__weakref__", (.str "__weakref__" 203), (.ref 25)⟩, ⟨PySem.PyData.keyHash P "__doc__", (.str "__doc__" 204), .none⟩].toArray 3), [].toArray⟩) ::
 (nat_lit 24, ⟨(.type "type"), none, (.cls ⟨"PlaneError", [(.type "ValueError")], [(.ref 24), (.type "ValueError"), (.type "Exception"), (.type "BaseException"), (.type "object")], 23, "PlaneError", true, [], [(.ref 37), (.ref 49), (.ref 61), (.ref 73), (.ref 85), (.ref 97), (.ref 109), (.ref 121), (.ref 133), (.ref 145)], false, none, false⟩), [(some (.ref 15)), none, (some (.str "PlaneError" 189)), (some (.str "PlaneError" 197)), (some (.builtin "ValueError.__new__")), (some (.bool true))].toArray⟩) ::
 (nat_lit 36, ⟨(.type "dict"), none, (.dict [⟨PySem.PyData.keyHash P "__module__", (.str "__module__" 214), (.str "nearplane.errors" 187)⟩, ⟨PySem.PyData.keyHash P "__firstlineno__", (.str "__firstlineno__" 218), (.int (4) 217)⟩, ⟨PySem.PyData.keyHash P "__static_attributes__", (.str "__static_attributes__" 219), (.ref 35)⟩, ⟨PySem.PyData.keyHash P "__doc__", (.str "__doc__" 220), .none⟩].toArray 2), [].toArray⟩) ::
 (nat_lit 37, ⟨(.type "type"), none, (.cls ⟨"NoRatio", [(.ref 24)], [(.ref 37), (.ref 24), (.type "ValueError"), (.type "Exception"), (.type "BaseException"), (.type "object")], 36, "NoRatio", true, [], [], false, none, false⟩), [(some (.ref 28)), none, (some (.str "NoRatio" 207)), (some (.str "NoRatio" 215)), (some (.builtin "ValueError.__new__")), (some (.bool true))].toArray⟩) ::
 (nat_lit 48, ⟨(.type "dict"), none, (.dict [⟨PySem.PyData.keyHash P "__module__", (.str "__module__" 230), (.str "nearplane.errors" 187)⟩, ⟨PySem.PyData.keyHash P "__firstlineno__", (.str "__firstlineno__" 234), (.int (6) 233)⟩, ⟨PySem.PyData.keyHash P "__static_attributes__", (.str "__static_attributes__" 235), (.ref 47)⟩, ⟨PySem.PyData.keyHash P "__doc__", (.str "__doc__" 236), .none⟩].toArray 2), [].toArray⟩) ::
 (nat_lit 49, ⟨(.type "type"), none, (.cls ⟨"NoText", [(.ref 24)], [(.ref 49), (.ref 24), (.type "ValueError"), (.type "Exception"), (.type "BaseException"), (.type "object")], 48, "NoText", true, [], [], false, none, false⟩), [(some (.ref 40)), none, (some (.str "NoText" 223)), (some (.str "NoText" 231)), (some (.builtin "ValueError.__new__")), (some (.bool true))].toArray⟩) ::
 (nat_lit 60, ⟨(.type "dict"), none, (.dict [⟨PySem.PyData.keyHash P "__module__", (.str "__module__" 246), (.str "nearplane.errors" 187)⟩, ⟨PySem.PyData.keyHash P "__firstlineno__", (.str "__firstlineno__" 250), (.int (8) 249)⟩, ⟨PySem.PyData.keyHash P "__static_attributes__", (.str "__static_attributes__" 251), (.ref 59)⟩, ⟨PySem.PyData.keyHash P "__doc__", (.str "__doc__" 252), .none⟩].toArray 2), [].toArray⟩) ::
 (nat_lit 61, ⟨(.type "type"), none, (.cls ⟨"NoDeed", [(.ref 24)], [(.ref 61), (.ref 24), (.type "ValueError"), (.type "Exception"), (.type "BaseException"), (.type "object")], 60, "NoDeed", true, [], [], false, none, false⟩), [(some (.ref 52)), none, (some (.str "NoDeed" 239)), (some (.str "NoDeed" 247)), (some (.builtin "ValueError.__new__")), (some (.bool true))].toArray⟩) ::
 (nat_lit 72, ⟨(.type "dict"), none, (.dict [⟨PySem.PyData.keyHash P "__module__", (.str "__module__" 262), (.str "nearplane.errors" 187)⟩, ⟨PySem.PyData.keyHash P "__firstlineno__", (.str "__firstlineno__" 266), (.int (10) 265)⟩, ⟨PySem.PyData.keyHash P "__static_attributes__", (.str "__static_attributes__" 267), (.ref 71)⟩, ⟨PySem.PyData.keyHash P "__doc__", (.str "__doc__" 268), .none⟩].toArray 2), [].toArray⟩) ::
 (nat_lit 73, ⟨(.type "type"), none, (.cls ⟨"NoInverse", [(.ref 24)], [(.ref 73), (.ref 24), (.type "ValueError"), (.type "Exception"), (.type "BaseException"), (.type "object")], 72, "NoInverse", true, [], [], false, none, false⟩), [(some (.ref 64)), none, (some (.str "NoInverse" 255)), (some (.str "NoInverse" 263)), (some (.builtin "ValueError.__new__")), (some (.bool true))].toArray⟩) ::
 (nat_lit 84, ⟨(.type "dict"), none, (.dict [⟨PySem.PyData.keyHash P "__module__", (.str "__module__" 278), (.str "nearplane.errors" 187)⟩, ⟨PySem.PyData.keyHash P "__firstlineno__", (.str "__firstlineno__" 282), (.int (12) 281)⟩, ⟨PySem.PyData.keyHash P "__static_attributes__", (.str "__static_attributes__" 283), (.ref 83)⟩, ⟨PySem.PyData.keyHash P "__doc__", (.str "__doc__" 284), .none⟩].toArray 2), [].toArray⟩) ::
 (nat_lit 85, ⟨(.type "type"), none, (.cls ⟨"NoPoint", [(.ref 24)], [(.ref 85), (.ref 24), (.type "ValueError"), (.type "Exception"), (.type "BaseException"), (.type "object")], 84, "NoPoint", true, [], [], false, none, false⟩), [(some (.ref 76)), none, (some (.str "NoPoint" 271)), (some (.str "NoPoint" 279)), (some (.builtin "ValueError.__new__")), (some (.bool true))].toArray⟩) ::
 (nat_lit 96, ⟨(.type "dict"), none, (.dict [⟨PySem.PyData.keyHash P "__module__", (.str "__module__" 294), (.str "nearplane.errors" 187)⟩, ⟨PySem.PyData.keyHash P "__firstlineno__", (.str "__firstlineno__" 298), (.int (14) 297)⟩, ⟨PySem.PyData.keyHash P "__static_attributes__", (.str "__static_attributes__" 299), (.ref 95)⟩, ⟨PySem.PyData.keyHash P "__doc__", (.str "__doc__" 300), .none⟩].toArray 2), [].toArray⟩) ::
 (nat_lit 97, ⟨(.type "type"), none, (.cls ⟨"NotSure", [(.ref 24)], [(.ref 97), (.ref 24), (.type "ValueError"), (.type "Exception"), (.type "BaseException"), (.type "object")], 96, "NotSure", true, [], [], false, none, false⟩), [(some (.ref 88)), none, (some (.str "NotSure" 287)), (some (.str "NotSure" 295)), (some (.builtin "ValueError.__new__")), (some (.bool true))].toArray⟩) ::
 (nat_lit 108, ⟨(.type "dict"), none, (.dict [⟨PySem.PyData.keyHash P "__module__", (.str "__module__" 310), (.str "nearplane.errors" 187)⟩, ⟨PySem.PyData.keyHash P "__firstlineno__", (.str "__firstlineno__" 314), (.int (16) 313)⟩, ⟨PySem.PyData.keyHash P "__static_attributes__", (.str "__static_attributes__" 315), (.ref 107)⟩, ⟨PySem.PyData.keyHash P "__doc__", (.str "__doc__" 316), .none⟩].toArray 2), [].toArray⟩) ::
 (nat_lit 109, ⟨(.type "type"), none, (.cls ⟨"NoColumn", [(.ref 24)], [(.ref 109), (.ref 24), (.type "ValueError"), (.type "Exception"), (.type "BaseException"), (.type "object")], 108, "NoColumn", true, [], [], false, none, false⟩), [(some (.ref 100)), none, (some (.str "NoColumn" 303)), (some (.str "NoColumn" 311)), (some (.builtin "ValueError.__new__")), (some (.bool true))].toArray⟩) ::
 (nat_lit 120, ⟨(.type "dict"), none, (.dict [⟨PySem.PyData.keyHash P "__module__", (.str "__module__" 326), (.str "nearplane.errors" 187)⟩, ⟨PySem.PyData.keyHash P "__firstlineno__", (.str "__firstlineno__" 330), (.int (18) 329)⟩, ⟨PySem.PyData.keyHash P "__static_attributes__", (.str "__static_attributes__" 331), (.ref 119)⟩, ⟨PySem.PyData.keyHash P "__doc__", (.str "__doc__" 332), .none⟩].toArray 2), [].toArray⟩) ::
 (nat_lit 121, ⟨(.type "type"), none, (.cls ⟨"NoMark", [(.ref 24)], [(.ref 121), (.ref 24), (.type "ValueError"), (.type "Exception"), (.type "BaseException"), (.type "object")], 120, "NoMark", true, [], [], false, none, false⟩), [(some (.ref 112)), none, (some (.str "NoMark" 319)), (some (.str "NoMark" 327)), (some (.builtin "ValueError.__new__")), (some (.bool true))].toArray⟩) ::
 (nat_lit 132, ⟨(.type "dict"), none, (.dict [⟨PySem.PyData.keyHash P "__module__", (.str "__module__" 342), (.str "nearplane.errors" 187)⟩, ⟨PySem.PyData.keyHash P "__firstlineno__", (.str "__firstlineno__" 346), (.int (20) 345)⟩, ⟨PySem.PyData.keyHash P "__static_attributes__", (.str "__static_attributes__" 347), (.ref 131)⟩, ⟨PySem.PyData.keyHash P "__doc__", (.str "__doc__" 348), .none⟩].toArray 2), [].toArray⟩) ::
 (nat_lit 133, ⟨(.type "type"), none, (.cls ⟨"NoName", [(.ref 24)], [(.ref 133), (.ref 24), (.type "ValueError"), (.type "Exception"), (.type "BaseException"), (.type "object")], 132, "NoName", true, [], [], false, none, false⟩), [(some (.ref 124)), none, (some (.str "NoName" 335)), (some (.str "NoName" 343)), (some (.builtin "ValueError.__new__")), (some (.bool true))].toArray⟩) ::
 (nat_lit 144, ⟨(.type "dict"), none, (.dict [⟨PySem.PyData.keyHash P "__module__", (.str "__module__" 358), (.str "nearplane.errors" 187)⟩, ⟨PySem.PyData.keyHash P "__firstlineno__", (.str "__firstlineno__" 362), (.int (22) 361)⟩, ⟨PySem.PyData.keyHash P "__static_attributes__", (.str "__static_attributes__" 363), (.ref 143)⟩, ⟨PySem.PyData.keyHash P "__doc__", (.str "__doc__" 364), .none⟩].toArray 2), [].toArray⟩) ::
 (nat_lit 145, ⟨(.type "type"), none, (.cls ⟨"NoLine", [(.ref 24)], [(.ref 145), (.ref 24), (.type "ValueError"), (.type "Exception"), (.type "BaseException"), (.type "object")], 144, "NoLine", true, [], [], false, none, false⟩), [(some (.ref 136)), none, (some (.str "NoLine" 351)), (some (.str "NoLine" 359)), (some (.builtin "ValueError.__new__")), (some (.bool true))].toArray⟩) ::
 (nat_lit 148, ⟨(.type "tuple"), none, (.seq [(.int (0) 369), (.int (1) 370)].toArray 0), [].toArray⟩) ::
 (nat_lit 154, ⟨(.type "code"), none, (.fields [(.str "is_whole" 372), (.str "is_whole" 373), (.str "/claim/cut.py" 374), (.int (26) 0), (.int (1) 0), (.int (0) 0), (.int (0) 0), (.int (3) 0), (.ref 149), (.bool true), (.int (181) 0), (.ref 150), .none, (.ref 151), (.ref 152), (.ref 153), (.int (376) 0), (.int (26) 0), (.str "/claim/cut.py" 377)].toArray), [].toArray⟩) ::
 (nat_lit 155, ⟨(.type "function"), none, (.func (PySem.W.fnOf "is_whole" "is_whole" (zI s_is_whole) (zG s_is_whole) (zC s_is_whole) .none .none .none (.str "nearplane.ratios" 367) none (.ref 154) .none)), [].toArray⟩) ::
 (nat_lit 161, ⟨(.type "code"), none, (.fields [(.str "is_ratio" 379), (.str "is_ratio" 380), (.str "/claim/cut.py" 381), (.int (28) 0), (.int (1) 0), (.int (0) 0), (.int (0) 0), (.int (3) 0), (.ref 156), (.bool true), (.int (181) 0), (.ref 157), .none, (.ref 158), (.ref 159), (.ref 160), (.int (383) 0), (.int (28) 0), (.str "/claim/cut.py" 384)].toArray), [].toArray⟩) ::
 (nat_lit 162, ⟨(.type "function"), none, (.func (PySem.W.fnOf "is_ratio" "is_ratio" (zI s_is_ratio) (zG s_is_ratio) (zC s_is_ratio) .none .none .none (.str "nearplane.ratios" 367) none (.ref 161) .none)), [].toArray⟩) ::
 (nat_lit 168, ⟨(.type "code"), none, (.fields [(.str "greatest_common" 386), (.str "greatest_common" 387), (.str "/claim/cut.py" 388), (.int (34) 0), (.int (2) 0), (.int (0) 0), (.int (0) 0), (.int (3) 0), (.ref 163), (.bool true), (.int (181) 0), (.ref 164), .none, (.ref 165), (.ref 166), (.ref 167), (.int (394) 0), (.int (34) 0), (.str "/claim/cut.py" 395)].toArray), [].toArray⟩) ::
 (nat_lit 169, ⟨(.type "function"), none, (.func (PySem.W.fnOf "greatest_common" "greatest_common" (zI s_greatest_common) (zG s_greatest_common) (zC s_greatest_common) .none .none .none (.str "nearplane.ratios" 367) none (.ref 168) .none)), [].toArray⟩) ::
 (nat_lit 175, ⟨(.type "code"), none, (.fields [(.str "ratio" 397), (.str "ratio" 398), (.str "/claim/cut.py" 399), (.int (42) 0), (.int (2) 0), (.int (0) 0), (.int (0) 0), (.int (3) 0), (.ref 170), (.bool true), (.int (181) 0), (.ref 171), .none, (.ref 172), (.ref 173), (.ref 174), (.int (403) 0), (.int (42) 0), (.str "/claim/cut.py" 404)].toArray), [].toArray⟩) ::
 (nat_lit 176, ⟨(.type "function"), none, (.func (PySem.W.fnOf "ratio" "ratio" (zI s_ratio) (zG s_ratio) (zC s_ratio) .none .none .none (.str "nearplane.ratios" 367) none (.ref 175) .none)), [].toArray⟩) ::
 (nat_lit 182, ⟨(.type "code"), none, (.fields [(.str "plus" 406), (.str "plus" 407), (.str "/claim/cut.py" 408), (.int (49) 0), (.int (2) 0), (.int (0) 0), (.int (0) 0), (.int (3) 0), (.ref 177), (.bool true), (.int (181) 0), (.ref 178), .none, (.ref 179), (.ref 180), (.ref 181), (.int (411) 0), (.int (49) 0), (.str "/claim/cut.py" 412)].toArray), [].toArray⟩) ::
 (nat_lit 183, ⟨(.type "function"), none, (.func (PySem.W.fnOf "plus" "plus" (zI s_plus) (zG s_plus) (zC s_plus) .none .none .none (.str "nearplane.ratios" 367) none (.ref 182) .none)), [].toArray⟩) ::
 (nat_lit 189, ⟨(.type "code"), none, (.fields [(.str "times" 414), (.str "times" 415), (.str "/claim/cut.py" 416), (.int (51) 0), (.int (2) 0), (.int (0) 0), (.int (0) 0), (.int (3) 0), (.ref 184), (.bool true), (.int (181) 0), (.ref 185), .none, (.ref 186), (.ref 187), (.ref 188), (.int (419) 0), (.int (51) 0), (.str "/claim/cut.py" 420)].toArray), [].toArray⟩) ::
 (nat_lit 190, ⟨(.type "function"), none, (.func (PySem.W.fnOf "times" "times" (zI s_times) (zG s_times) (zC s_times) .none .none .none (.str "nearplane.ratios" 367) none (.ref 189) .none)), [].toArray⟩) ::
 (nat_lit 194, ⟨(.type "code"), none, (.fields [(.str "added" 424), (.str "added" 425), (.str "/claim/cut.py" 426), (.int (54) 0), (.int (2) 0), (.int (0) 0), (.int (0) 0), (.int (3) 0), (.ref 191), (.bool true), (.int (181) 0), (.ref 192), .none, .none, .none, (.ref 193), (.int (427) 0), (.int (54) 0), (.str "/claim/cut.py" 428)].toArray), [].toArray⟩) ::
 (nat_lit 195, ⟨(.type "function"), none, (.func (PySem.W.fnOf "added" "added" (zI s_added) (zG s_added) (zC s_added) .none .none .none (.str "nearplane.rows" 422) none (.ref 194) .none)), [].toArray⟩) ::
 (nat_lit 199, ⟨(.type "code"), none, (.fields [(.str "scaled" 430), (.str "scaled" 431), (.str "/claim/cut.py" 432), (.int (56) 0), (.int (2) 0), (.int (0) 0), (.int (0) 0), (.int (3) 0), (.ref 196), (.bool true), (.int (181) 0), (.ref 197), .none, .none, .none, (.ref 198), (.int (433) 0), (.int (56) 0), (.str "/claim/cut.py" 434)].toArray), [].toArray⟩) ::
 (nat_lit 200, ⟨(.type "function"), none, (.func (PySem.W.fnOf "scaled" "scaled" (zI s_scaled) (zG s_scaled) (zC s_scaled) .none .none .none (.str "nearplane.rows" 422) none (.ref 199) .none)), [].toArray⟩) ::
 (nat_lit 204, ⟨(.type "code"), none, (.fields [(.str "done" 438), (.str "done" 439), (.str "/claim/cut.py" 440), (.int (59) 0), (.int (2) 0), (.int (0) 0), (.int (0) 0), (.int (3) 0), (.ref 201), (.bool true), (.int (181) 0), (.ref 202), .none, .none, .none, (.ref 203), (.int (441) 0), (.int (59) 0), (.str "/claim/cut.py" 442)].toArray), [].toArray⟩) ::
 (nat_lit 205, ⟨(.type "function"), none, (.func (PySem.W.fnOf "done" "done" (zI s_done) (zG s_done) (zC s_done) .none .none .none (.str "nearplane.deeds" 436) none (.ref 204) .none)), [].toArray⟩) ::
 (nat_lit 211, ⟨(.type "code"), none, (.fields [(.str "done_once" 444), (.str "done_once" 445), (.str "/claim/cut.py" 446), (.int (66) 0), (.int (2) 0), (.int (0) 0), (.int (0) 0), (.int (3) 0), (.ref 206), (.bool true), (.int (181) 0), (.ref 207), .none, (.ref 208), (.ref 209), (.ref 210), (.int (451) 0), (.int (66) 0), (.str "/claim/cut.py" 452)].toArray), [].toArray⟩) ::
 (nat_lit 212, ⟨(.type "function"), none, (.func (PySem.W.fnOf "done_once" "done_once" (zI s_done_once) (zG s_done_once) (zC s_done_once) .none .none .none (.str "nearplane.deeds" 436) none (.ref 211) .none)), [].toArray⟩) ::
 (nat_lit 216, ⟨(.type "code"), none, (.fields [(.str "are_deeds" 454), (.str "are_deeds" 455), (.str "/claim/cut.py" 456), (.int (77) 0), (.int (2) 0), (.int (0) 0), (.int (0) 0), (.int (3) 0), (.ref 213), (.bool true), (.int (181) 0), (.ref 214), .none, .none, .none, (.ref 215), (.int (457) 0), (.int (77) 0), (.str "/claim/cut.py" 458)].toArray), [].toArray⟩) ::
 (nat_lit 217, ⟨(.type "function"), none, (.func (PySem.W.fnOf "are_deeds" "are_deeds" (zI s_are_deeds) (zG s_are_deeds) (zC s_are_deeds) .none .none .none (.str "nearplane.deeds" 436) none (.ref 216) .none)), [].toArray⟩) ::
 (nat_lit 223, ⟨(.type "code"), none, (.fields [(.str "is_deed" 460), (.str "is_deed" 461), (.str "/claim/cut.py" 462), (.int (81) 0), (.int (2) 0), (.int (0) 0), (.int (0) 0), (.int (3) 0), (.ref 218), (.bool true), (.int (181) 0), (.ref 219), .none, (.ref 220), (.ref 221), (.ref 222), (.int (466) 0), (.int (81) 0), (.str "/claim/cut.py" 467)].toArray), [].toArray⟩) ::
 (nat_lit 224, ⟨(.type "function"), none, (.func (PySem.W.fnOf "is_deed" "is_deed" (zI s_is_deed) (zG s_is_deed) (zC s_is_deed) .none .none .none (.str "nearplane.deeds" 436) none (.ref 223) .none)), [].toArray⟩) ::
 (nat_lit 230, ⟨(.type "code"), none, (.fields [(.str "is_row_number" 469), (.str "is_row_number" 470), (.str "/claim/cut.py" 471), (.int (94) 0), (.int (2) 0), (.int (0) 0), (.int (0) 0), (.int (3) 0), (.ref 225), (.bool true), (.int (181) 0), (.ref 226), .none, (.ref 227), (.ref 228), (.ref 229), (.int (474) 0), (.int (94) 0), (.str "/claim/cut.py" 475)].toArray), [].toArray⟩) ::
 (nat_lit 231, ⟨(.type "function"), none, (.func (PySem.W.fnOf "is_row_number" "is_row_number" (zI s_is_row_number) (zG s_is_row_number) (zC s_is_row_number) .none .none .none (.str "nearplane.deeds" 436) none (.ref 230) .none)), [].toArray⟩) ::
 (nat_lit 237, ⟨(.type "code"), none, (.fields [(.str "are_unlike_rows" 477), (.str "are_unlike_rows" 478), (.str "/claim/cut.py" 479), (.int (96) 0), (.int (3) 0), (.int (0) 0), (.int (0) 0), (.int (3) 0), (.ref 232), (.bool true), (.int (181) 0), (.ref 233), .none, (.ref 234), (.ref 235), (.ref 236), (.int (483) 0), (.int (96) 0), (.str "/claim/cut.py" 484)].toArray), [].toArray⟩) ::
 (nat_lit 238, ⟨(.type "function"), none, (.func (PySem.W.fnOf "are_unlike_rows" "are_unlike_rows" (zI s_are_unlike_rows) (zG s_are_unlike_rows) (zC s_are_unlike_rows) .none .none .none (.str "nearplane.deeds" 436) none (.ref 237) .none)), [].toArray⟩) ::
 (nat_lit 244, ⟨(.type "code"), none, (.fields [(.str "_law_cell_at" 488), (.str "_law_cell_at" 489), (.str "/claim/cut.py" 490), (.int (99) 0), (.int (2) 0), (.int (0) 0), (.int (0) 0), (.int (3) 0), (.ref 239), (.bool true), (.int (181) 0), (.ref 240), .none, (.ref 241), (.ref 242), (.ref 243), (.int (493) 0), (.int (99) 0), (.str "/claim/cut.py" 494)].toArray), [].toArray⟩) ::
 (nat_lit 245, ⟨(.type "function"), none, (.func (PySem.W.fnOf "_law_cell_at" "_law_cell_at" (zI s__law_cell_at) (zG s__law_cell_at) (zC s__law_cell_at) .none .none .none (.str "law_nearplane_k23_no_deeds" 486) none (.ref 244) .none)), [].toArray⟩) ::
 (nat_lit 251, ⟨(.type "code"), none, (.fields [(.str "_law_great" 496), (.str "_law_great" 497), (.str "/claim/cut.py" 498), (.int (103) 0), (.int (1) 0), (.int (0) 0), (.int (0) 0), (.int (3) 0), (.ref 246), (.bool true), (.int (181) 0), (.ref 247), .none, (.ref 248), (.ref 249), (.ref 250), (.int (501) 0), (.int (103) 0), (.str "/claim/cut.py" 502)].toArray), [].toArray⟩) ::
 (nat_lit 252, ⟨(.type "function"), none, (.func (PySem.W.fnOf "_law_great" "_law_great" (zI s__law_great) (zG s__law_great) (zC s__law_great) .none .none .none (.str "law_nearplane_k23_no_deeds" 486) none (.ref 251) .none)), [].toArray⟩) ::
 (nat_lit 258, ⟨(.type "code"), none, (.fields [(.str "_law_low" 504), (.str "_law_low" 505), (.str "/claim/cut.py" 506), (.int (106) 0), (.int (2) 0), (.int (0) 0), (.int (0) 0), (.int (3) 0), (.ref 253), (.bool true), (.int (181) 0), (.ref 254), .none, (.ref 255), (.ref 256), (.ref 257), (.int (511) 0), (.int (106) 0), (.str "/claim/cut.py" 512)].toArray), [].toArray⟩) ::
 (nat_lit 259, ⟨(.type "function"), none, (.func (PySem.W.fnOf "_law_low" "_law_low" (zI s__law_low) (zG s__law_low) (zC s__law_low) .none .none .none (.str "law_nearplane_k23_no_deeds" 486) none (.ref 258) .none)), [].toArray⟩) ::
 (nat_lit 265, ⟨(.type "code"), none, (.fields [(.str "_law_ratio" 514), (.str "_law_ratio" 515), (.str "/claim/cut.py" 516), (.int (112) 0), (.int (1) 0), (.int (0) 0), (.int (0) 0), (.int (3) 0), (.ref 260), (.bool true), (.int (181) 0), (.ref 261), .none, (.ref 262), (.ref 263), (.ref 264), (.int (520) 0), (.int (112) 0), (.str "/claim/cut.py" 521)].toArray), [].toArray⟩) ::
 (nat_lit 266, ⟨(.type "function"), none, (.func (PySem.W.fnOf "_law_ratio" "_law_ratio" (zI s__law_ratio) (zG s__law_ratio) (zC s__law_ratio) .none .none .none (.str "law_nearplane_k23_no_deeds" 486) none (.ref 265) .none)), [].toArray⟩) ::
 (nat_lit 272, ⟨(.type "code"), none, (.fields [(.str "_law_row" 523), (.str "_law_row" 524), (.str "/claim/cut.py" 525), (.int (118) 0), (.int (2) 0), (.int (0) 0), (.int (0) 0), (.int (3) 0), (.ref 267), (.bool true), (.int (181) 0), (.ref 268), .none, (.ref 269), (.ref 270), (.ref 271), (.int (531) 0), (.int (118) 0), (.str "/claim/cut.py" 532)].toArray), [].toArray⟩) ::
 (nat_lit 273, ⟨(.type "function"), none, (.func (PySem.W.fnOf "_law_row" "_law_row" (zI s__law_row) (zG s__law_row) (zC s__law_row) .none .none .none (.str "law_nearplane_k23_no_deeds" 486) none (.ref 272) .none)), [].toArray⟩) ::
 (nat_lit 279, ⟨(.type "code"), none, (.fields [(.str "_law_plus" 534), (.str "_law_plus" 535), (.str "/claim/cut.py" 536), (.int (124) 0), (.int (2) 0), (.int (0) 0), (.int (0) 0), (.int (3) 0), (.ref 274), (.bool true), (.int (181) 0), (.ref 275), .none, (.ref 276), (.ref 277), (.ref 278), (.int (539) 0), (.int (124) 0), (.str "/claim/cut.py" 540)].toArray), [].toArray⟩) ::
 (nat_lit 280, ⟨(.type "function"), none, (.func (PySem.W.fnOf "_law_plus" "_law_plus" (zI s__law_plus) (zG s__law_plus) (zC s__law_plus) .none .none .none (.str "law_nearplane_k23_no_deeds" 486) none (.ref 279) .none)), [].toArray⟩) ::
 (nat_lit 286, ⟨(.type "code"), none, (.fields [(.str "_law_times" 542), (.str "_law_times" 543), (.str "/claim/cut.py" 544), (.int (126) 0), (.int (2) 0), (.int (0) 0), (.int (0) 0), (.int (3) 0), (.ref 281), (.bool true), (.int (181) 0), (.ref 282), .none, (.ref 283), (.ref 284), (.ref 285), (.int (547) 0), (.int (126) 0), (.str "/claim/cut.py" 548)].toArray), [].toArray⟩) ::
 (nat_lit 287, ⟨(.type "function"), none, (.func (PySem.W.fnOf "_law_times" "_law_times" (zI s__law_times) (zG s__law_times) (zC s__law_times) .none .none .none (.str "law_nearplane_k23_no_deeds" 486) none (.ref 286) .none)), [].toArray⟩) ::
 (nat_lit 291, ⟨(.type "code"), none, (.fields [(.str "_law_mix" 550), (.str "_law_mix" 551), (.str "/claim/cut.py" 552), (.int (128) 0), (.int (3) 0), (.int (0) 0), (.int (0) 0), (.int (3) 0), (.ref 288), (.bool true), (.int (181) 0), (.ref 289), .none, .none, .none, (.ref 290), (.int (553) 0), (.int (128) 0), (.str "/claim/cut.py" 554)].toArray), [].toArray⟩) ::
 (nat_lit 292, ⟨(.type "function"), none, (.func (PySem.W.fnOf "_law_mix" "_law_mix" (zI s__law_mix) (zG s__law_mix) (zC s__law_mix) .none .none .none (.str "law_nearplane_k23_no_deeds" 486) none (.ref 291) .none)), [].toArray⟩) ::
 (nat_lit 298, ⟨(.type "code"), none, (.fields [(.str "_law_table" 556), (.str "_law_table" 557), (.str "/claim/cut.py" 558), (.int (133) 0), (.int (3) 0), (.int (0) 0), (.int (0) 0), (.int (3) 0), (.ref 293), (.bool true), (.int (181) 0), (.ref 294), .none, (.ref 295), (.ref 296), (.ref 297), (.int (567) 0), (.int (133) 0), (.str "/claim/cut.py" 568)].toArray), [].toArray⟩) ::
 (nat_lit 299, ⟨(.type "function"), none, (.func (PySem.W.fnOf "_law_table" "_law_table" (zI s__law_table) (zG s__law_table) (zC s__law_table) .none .none .none (.str "law_nearplane_k23_no_deeds" 486) none (.ref 298) .none)), [].toArray⟩) ::
 (nat_lit 305, ⟨(.type "code"), none, (.fields [(.str "_law_deed" 570), (.str "_law_deed" 571), (.str "/claim/cut.py" 572), (.int (143) 0), (.int (2) 0), (.int (0) 0), (.int (0) 0), (.int (3) 0), (.ref 300), (.bool true), (.int (181) 0), (.ref 301), .none, (.ref 302), (.ref 303), (.ref 304), (.int (579) 0), (.int (143) 0), (.str "/claim/cut.py" 580)].toArray), [].toArray⟩) ::
 (nat_lit 306, ⟨(.type "function"), none, (.func (PySem.W.fnOf "_law_deed" "_law_deed" (zI s__law_deed) (zG s__law_deed) (zC s__law_deed) .none .none .none (.str "law_nearplane_k23_no_deeds" 486) none (.ref 305) .none)), [].toArray⟩) ::
 (nat_lit 310, ⟨(.type "code"), none, (.fields [(.str "_law_done" 582), (.str "_law_done" 583), (.str "/claim/cut.py" 584), (.int (159) 0), (.int (2) 0), (.int (0) 0), (.int (0) 0), (.int (3) 0), (.ref 307), (.bool true), (.int (181) 0), (.ref 308), .none, .none, .none, (.ref 309), (.int (585) 0), (.int (159) 0), (.str "/claim/cut.py" 586)].toArray), [].toArray⟩) ::
 (nat_lit 311, ⟨(.type "function"), none, (.func (PySem.W.fnOf "_law_done" "_law_done" (zI s__law_done) (zG s__law_done) (zC s__law_done) .none .none .none (.str "law_nearplane_k23_no_deeds" 486) none (.ref 310) .none)), [].toArray⟩) ::
 (nat_lit 317, ⟨(.type "code"), none, (.fields [(.str "_law_odd_deed" 588), (.str "_law_odd_deed" 589), (.str "/claim/cut.py" 590), (.int (172) 0), (.int (2) 0), (.int (0) 0), (.int (0) 0), (.int (3) 0), (.ref 312), (.bool true), (.int (181) 0), (.ref 313), .none, (.ref 314), (.ref 315), (.ref 316), (.int (598) 0), (.int (172) 0), (.str "/claim/cut.py" 599)].toArray), [].toArray⟩) ::
 (nat_lit 318, ⟨(.type "function"), none, (.func (PySem.W.fnOf "_law_odd_deed" "_law_odd_deed" (zI s__law_odd_deed) (zG s__law_odd_deed) (zC s__law_odd_deed) .none .none .none (.str "law_nearplane_k23_no_deeds" 486) none (.ref 317) .none)), [].toArray⟩) ::
 (nat_lit 324, ⟨(.type "code"), none, (.fields [(.str "_law_refused" 601), (.str "_law_refused" 602), (.str "/claim/cut.py" 603), (.int (186) 0), (.int (2) 0), (.int (0) 0), (.int (0) 0), (.int (3) 0), (.ref 319), (.bool true), (.int (181) 0), (.ref 320), .none, (.ref 321), (.ref 322), (.ref 323), (.int (608) 0), (.int (186) 0), (.str "/claim/cut.py" 609)].toArray), [].toArray⟩) ::
 (nat_lit 325, ⟨(.type "function"), none, (.func (PySem.W.fnOf "_law_refused" "_law_refused" (zI s__law_refused) (zG s__law_refused) (zC s__law_refused) .none .none .none (.str "law_nearplane_k23_no_deeds" 486) none (.ref 324) .none)), [].toArray⟩) ::
 (nat_lit 329, ⟨(.type "code"), none, (.fields [(.str "law" 611), (.str "law" 612), (.str "/claim/cut.py" 613), (.int (195) 0), (.int (1) 0), (.int (0) 0), (.int (0) 0), (.int (3) 0), (.ref 326), (.bool true), (.int (181) 0), (.ref 327), .none, .none, .none, (.ref 328), (.int (614) 0), (.int (195) 0), (.str "/claim/cut.py" 615)].toArray), [].toArray⟩) ::
 (nat_lit 330, ⟨(.type "function"), none, (.func (PySem.W.fnOf "law" "law" (zI s_law) (zG s_law) (zC s_law) .none .none .none (.str "law_nearplane_k23_no_deeds" 486) none (.ref 329) .none)), [].toArray⟩) :: []
def KA : List Addr := nat_lit 3 :: nat_lit 23 :: nat_lit 24 :: nat_lit 36 :: nat_lit 37 :: nat_lit 48 :: nat_lit 49 :: nat_lit 60 :: nat_lit 61 :: nat_lit 72 :: nat_lit 73 :: nat_lit 84 :: nat_lit 85 :: nat_lit 96 :: nat_lit 97 :: nat_lit 108 :: nat_lit 109 :: nat_lit 120 :: nat_lit 121 :: nat_lit 132 :: nat_lit 133 :: nat_lit 144 :: nat_lit 145 :: nat_lit 148 :: nat_lit 154 :: nat_lit 155 :: nat_lit 161 :: nat_lit 162 :: nat_lit 168 :: nat_lit 169 :: nat_lit 175 :: nat_lit 176 :: nat_lit 182 :: nat_lit 183 :: nat_lit 189 :: nat_lit 190 :: nat_lit 194 :: nat_lit 195 :: nat_lit 199 :: nat_lit 200 :: nat_lit 204 :: nat_lit 205 :: nat_lit 211 :: nat_lit 212 :: nat_lit 216 :: nat_lit 217 :: nat_lit 223 :: nat_lit 224 :: nat_lit 230 :: nat_lit 231 :: nat_lit 237 :: nat_lit 238 :: nat_lit 244 :: nat_lit 245 :: nat_lit 251 :: nat_lit 252 :: nat_lit 258 :: nat_lit 259 :: nat_lit 265 :: nat_lit 266 :: nat_lit 272 :: nat_lit 273 :: nat_lit 279 :: nat_lit 280 :: nat_lit 286 :: nat_lit 287 :: nat_lit 291 :: nat_lit 292 :: nat_lit 298 :: nat_lit 299 :: nat_lit 305 :: nat_lit 306 :: nat_lit 310 :: nat_lit 311 :: nat_lit 317 :: nat_lit 318 :: nat_lit 324 :: nat_lit 325 :: nat_lit 329 :: nat_lit 330 :: []
end Tm
open PySem PySem.W PyProof.Rows
def PySem.W.Fast.tw1273629744914650050 : Unit := ()
def PySem.W.Fast.tw6958170002488697861 : Unit := ()
def PySem.W.Fast.tw18267875900880461670 : Unit := ()
def PySem.W.Fast.tw7786193088576710343 : Unit := ()
def PySem.W.Fast.tw10793389004250953000 : Unit := ()
def PySem.W.Fast.tw4217654843677762601 : Unit := ()
def PySem.W.Fast.tw18180110152392946059 : Unit := ()
def PySem.W.Fast.tw7238996392013272940 : Unit := ()
def PySem.W.Fast.tw5184435061910873358 : Unit := ()
def PySem.W.Fast.tw1632721611458500976 : Unit := ()
def PySem.W.Fast.tw3800053737134105781 : Unit := ()
def PySem.W.Fast.tw3481646163512091509 : Unit := ()
def PySem.W.Fast.tw15977901122854685079 : Unit := ()
def PySem.W.Fast.tw749352901075160759 : Unit := ()
def PySem.W.Fast.tw6440105798957872443 : Unit := ()
def PySem.W.Fast.tw8451461549350879995 : Unit := ()
set_option maxRecDepth 100000 in
set_option maxHeartbeats 0 in
theorem PySem.Challenge.cw_nearplane_k23_no_deeds_holds : PySem.Challenge.rw_nearplane_k23_no_deeds.Holds := by
 w_on; o_law; o_head (PySem.W.kHook Tm.KK Tm.KA (fun _ => by kernel_rfl)); (case hw => w_witness2)
 k_fill
 refine Tm.walk (l := PySem.Challenge.rw_nearplane_k23_no_deeds) rfl rfl (fun w h Y => PySem.W.kIn_of Y) ?F ?hq
 case hq => first | rfl | decide +kernel
 case F =>
  intro w mg fa h KX G hmg
  refine' Tm.all_mk rfl KX G hmg ?a0 ?l0 ?c0 ?k0 ?a1 ?l1 ?c1 ?k1 ?a2 ?l2 ?c2 ?k2 ?a3 ?l3 ?c3 ?k3 ?a4 ?l4 ?c4 ?k4 ?a5 ?l5 ?c5 ?k5 ?a6 ?l6 ?c6 ?k6 ?a7 ?l7 ?c7 ?k7 ?a8 ?l8 ?c8 ?k8 ?a9 ?l9 ?c9 ?k9 ?a10 ?l10 ?c10 ?k10 ?a11 ?l11 ?c11 ?k11 ?a12 ?l12 ?c12 ?k12 ?a13 ?l13 ?c13 ?k13 ?a14 ?l14 ?c14 ?k14 ?a15 ?l15 ?c15 ?k15 ?a16 ?l16 ?c16 ?k16 ?a17 ?l17 ?c17 ?k17 ?a18 ?l18 ?c18 ?k18 ?a19 ?l19 ?c19 ?k19 ?a20 ?l20 ?c20 ?k20 ?a21 ?l21 ?c21 ?k21 ?a22 ?l22 ?c22 ?k22 ?a23 ?l23 ?c23 ?k23 ?a24 ?l24 ?c24 ?k24 ?a25 ?l25 ?c25 ?k25 ?a26 ?l26 ?c26 ?k26 ?a27 ?l27 ?c27 ?k27 ?aCNOUGHT ?lCNOUGHT ?z_ValueError ?z_abs ?z_all ?z_bool ?z_divmod ?z_int ?z_isinstance ?z_len ?z_list ?z_max ?z_range ?z_str ?z_tuple ?z_zip ?aX_NoColumn ?aX_NoDeed ?aX_NoInverse ?aX_NoLine ?aX_NoMark ?aX_NoName ?aX_NoPoint ?aX_NoRatio ?aX_NoText ?aX_NotSure ?aX_PlaneError ?x_exmOne_NoDeed_NoDeed ?x_exmNo_NoDeed_NotSure ?x_exmNo_NoDeed_NoText ?x_exmNo_NoDeed_NoRatio ?x_exmNo_NoDeed_NoPoint ?x_exmNo_NoDeed_NoName ?x_exmNo_NoDeed_NoMark ?x_exmNo_NoDeed_NoLine ?x_exmNo_NoDeed_NoInverse ?x_exmNo_NoDeed_NoColumn ?x_kitOne_NoRatio_PlaneError ?x_kitOne_NoDeed_PlaneError ?x_kitOne_NoRatio_ValueError ?x_kitOne_NoDeed_ValueError ?x_exc_NoDeed
  (case a0 => k_is)
  (case l0 => k_is)
  (case c0 => k_is)
  (case k0 => k_is)
  (case a1 => k_is)
  (case l1 => k_is)
  (case c1 => k_is)
  (case k1 => k_is)
  (case a2 => k_is)
  (case l2 => k_is)
  (case c2 => k_is)
  (case k2 => k_is)
  (case a3 => k_is)
  (case l3 => k_is)
  (case c3 => k_is)
  (case k3 => k_is)
  (case a4 => k_is)
  (case l4 => k_is)
  (case c4 => k_is)
  (case k4 => k_is)
  (case a5 => k_is)
  (case l5 => k_is)
  (case c5 => k_is)
  (case k5 => k_is)
  (case a6 => k_is)
  (case l6 => k_is)
  (case c6 => k_is)
  (case k6 => k_is)
  (case a7 => k_is)
  (case l7 => k_is)
  (case c7 => k_is)
  (case k7 => k_is)
  (case a8 => k_is)
  (case l8 => k_is)
  (case c8 => k_is)
  (case k8 => k_is)
  (case a9 => k_is)
  (case l9 => k_is)
  (case c9 => k_is)
  (case k9 => k_is)
  (case a10 => k_is)
  (case l10 => k_is)
  (case c10 => k_is)
  (case k10 => k_is)
  (case a11 => k_is)
  (case l11 => k_is)
  (case c11 => k_is)
  (case k11 => k_is)
  (case a12 => k_is)
  (case l12 => k_is)
  (case c12 => k_is)
  (case k12 => k_is)
  (case a13 => k_is)
  (case l13 => k_is)
  (case c13 => k_is)
  (case k13 => k_is)
  (case a14 => k_is)
  (case l14 => k_is)
  (case c14 => k_is)
  (case k14 => k_is)
  (case a15 => k_is)
  (case l15 => k_is)
  (case c15 => k_is)
  (case k15 => k_is)
  (case a16 => k_is)
  (case l16 => k_is)
  (case c16 => k_is)
  (case k16 => k_is)
  (case a17 => k_is)
  (case l17 => k_is)
  (case c17 => k_is)
  (case k17 => k_is)
  (case a18 => k_is)
  (case l18 => k_is)
  (case c18 => k_is)
  (case k18 => k_is)
  (case a19 => k_is)
  (case l19 => k_is)
  (case c19 => k_is)
  (case k19 => k_is)
  (case a20 => k_is)
  (case l20 => k_is)
  (case c20 => k_is)
  (case k20 => k_is)
  (case a21 => k_is)
  (case l21 => k_is)
  (case c21 => k_is)
  (case k21 => k_is)
  (case a22 => k_is)
  (case l22 => k_is)
  (case c22 => k_is)
  (case k22 => k_is)
  (case a23 => k_is)
  (case l23 => k_is)
  (case c23 => k_is)
  (case k23 => k_is)
  (case a24 => k_is)
  (case l24 => k_is)
  (case c24 => k_is)
  (case k24 => k_is)
  (case a25 => k_is)
  (case l25 => k_is)
  (case c25 => k_is)
  (case k25 => k_is)
  (case a26 => k_is)
  (case l26 => k_is)
  (case c26 => k_is)
  (case k26 => k_is)
  (case a27 => k_is)
  (case l27 => k_is)
  (case c27 => k_is)
  (case k27 => k_is)
  (case aCNOUGHT => k_is)
  (case lCNOUGHT => k_is)
  (case z_ValueError => k_is)
  (case z_abs => k_is)
  (case z_all => k_is)
  (case z_bool => k_is)
  (case z_divmod => k_is)
  (case z_int => k_is)
  (case z_isinstance => k_is)
  (case z_len => k_is)
  (case z_list => k_is)
  (case z_max => k_is)
  (case z_range => k_is)
  (case z_str => k_is)
  (case z_tuple => k_is)
  (case z_zip => k_is)
  (case aX_NoColumn => k_is)
  (case aX_NoDeed => k_is)
  (case aX_NoInverse => k_is)
  (case aX_NoLine => k_is)
  (case aX_NoMark => k_is)
  (case aX_NoName => k_is)
  (case aX_NoPoint => k_is)
  (case aX_NoRatio => k_is)
  (case aX_NoText => k_is)
  (case aX_NotSure => k_is)
  (case aX_PlaneError => k_is)
  (case x_exmOne_NoDeed_NoDeed => first | kernel_rfl | decide +kernel)
  (case x_exmNo_NoDeed_NotSure => first | kernel_rfl | decide +kernel)
  (case x_exmNo_NoDeed_NoText => first | kernel_rfl | decide +kernel)
  (case x_exmNo_NoDeed_NoRatio => first | kernel_rfl | decide +kernel)
  (case x_exmNo_NoDeed_NoPoint => first | kernel_rfl | decide +kernel)
  (case x_exmNo_NoDeed_NoName => first | kernel_rfl | decide +kernel)
  (case x_exmNo_NoDeed_NoMark => first | kernel_rfl | decide +kernel)
  (case x_exmNo_NoDeed_NoLine => first | kernel_rfl | decide +kernel)
  (case x_exmNo_NoDeed_NoInverse => first | kernel_rfl | decide +kernel)
  (case x_exmNo_NoDeed_NoColumn => first | kernel_rfl | decide +kernel)
  (case x_kitOne_NoRatio_PlaneError => first | kernel_rfl | decide +kernel)
  (case x_kitOne_NoDeed_PlaneError => first | kernel_rfl | decide +kernel)
  (case x_kitOne_NoRatio_ValueError => first | kernel_rfl | decide +kernel)
  (case x_kitOne_NoDeed_ValueError => first | kernel_rfl | decide +kernel)
  (case x_exc_NoDeed => k_exc)
end
