import PyProof.Rows.All
import Wide.All
import OpenK.AllK
import Wide.FinOn
import Lean
import PyProof.EqAt
import PyProof.EqKinds
import PyProof.NeKinds
import PyProof.ZipIter
import PyProof.Rows.ZipGen
import PyProof.ExcArgs
import PyProof.CompUse
import PyProof.TupleCall
import PyProof.CompFree
import PyProof.Cells
import OpenK.KEqL
import KE.KEqDict
import PyProof.EnumIter
import PyProof.EnumFor
import PyProof.EnumMake
import PyProof.EnumStmt
import PyProof.Rows.EnumRows
import KE.KRevIter
import OpenK.KRaise
import PyProof.Draws
import PyProof.StrWalks
import PyProof.StrCalls2
import PyProof.Rows.StrJoin2
import PyProof.StrLawsTight
import PyProof.StrLawsIn
import PyProof.SliceStr2
import PyProof.StrBlockI
import PyProof.StrLawsOcc
import PyProof.StrCalls3
import KE.KIntText
import PySem.SetOps
import PyProof.TupleKey
import PyProof.SetRoads
import PyProof.Rows.SetFrom
import PyProof.ConsumeS
import PyProof.MinMaxWalk
import PyProof.StrOps2
import PyProof.WalkInts
import PyProof.LongRange
import KE.KUnpack
import PyProof.Rows.IntBool
import KE.KRevSl
import KE.KLam
import KE.KNestM
import KE.KBits
import KE.RegKIsAll
import PySem.Challenge.RW_cellfolio_k17_shown_and_taken
set_option Elab.async false
set_option linter.all false
set_option maxRecDepth 100000
namespace L2
open PySem PySem.Spec PyProof.Rows
noncomputable abbrev Key := Sum Int Str
noncomputable def keyIs : Key → Value → Bool
 | .inl k, v => Value.isInt k v
 | .inr x, v => Value.isStrOf x v
noncomputable def keyH (w : World) : Key → Int
 | .inl k => hashInt k
 | .inr x => hashStr w x
theorem dw : ∀ {k : Key} {v : Value}, keyIs k v = true → (∃ i t, k = Sum.inl i ∧ v = Value.int i t) ∨ (∃ x t, k = Sum.inr x ∧ v = Value.str x t)
 | .inl i, v, h => by
  obtain ⟨t, e⟩ := Value.isInt_shape (k := i) (v := v) h
  exact .inl ⟨i, t, rfl, e⟩
 | .inr x, v, h => by
  obtain ⟨t, e⟩ := Value.isStrOf_shape (x := x) (v := v) h
  exact .inr ⟨x, t, rfl, e⟩
theorem key_ll (a b : Int) : decide ((Sum.inl a : Key) = Sum.inl b) = (a == b) := by
 by_cases e : a = b
 ·subst e; simp
 ·have h : ¬ (Sum.inl a : Key) = Sum.inl b := fun q => e (Sum.inl.inj q)
  rw [decide_eq_false h]
  exact (beq_eq_false_iff_ne.mpr e).symm
theorem key_rr (a b : Str) : decide ((Sum.inr a : Key) = Sum.inr b) = decide (a = b) := by
 by_cases e : a = b
 ·subst e; simp
 ·have h : ¬ (Sum.inr a : Key) = Sum.inr b := fun q => e (Sum.inr.inj q)
  rw [decide_eq_false h, decide_eq_false e]
theorem key_lr (a : Int) (b : Str) : decide ((Sum.inl a : Key) = Sum.inr b) = false := decide_eq_false (fun q => nomatch q)
theorem key_rl (a : Str) (b : Int) : decide ((Sum.inr a : Key) = Sum.inl b) = false := decide_eq_false (fun q => nomatch q)
noncomputable def mixKind (prog : Program) (w : World) : PySem.KeyKind prog w Key where
 is := keyIs
 hash := keyH w
 inj := fun v a b ha hb => by
  rcases dw ha with ⟨i, t, rfl, rfl⟩ | ⟨x, t, rfl, rfl⟩
  ·rcases dw hb with ⟨j, u, rfl, e⟩ | ⟨y, u, rfl, e⟩
   ·injection e with e1 _; rw [e1]
   ·exact nomatch e
  ·rcases dw hb with ⟨j, u, rfl, e⟩ | ⟨y, u, rfl, e⟩
   ·exact nomatch e
   ·injection e with e1 _; rw [e1]
 byValue := fun k v h => by
  rcases dw h with ⟨i, t, rfl, rfl⟩ | ⟨x, t, rfl, rfl⟩ <;> rfl
 pyHash := fun hv h => by
  rcases dw hv with ⟨i, t, rfl, rfl⟩ | ⟨x, t, rfl, rfl⟩
  ·exact wpAny_pyHash_int h
  ·exact wpAny_pyHash_str h
 eqBool := fun hu hv h => by
  rcases dw hu with ⟨i, t, rfl, rfl⟩ | ⟨x, t, rfl, rfl⟩
  ·rcases dw hv with ⟨j, u, rfl, rfl⟩ | ⟨y, u, rfl, rfl⟩
   ·rw [key_ll] at h; exact wpAny_eqBool_int h
   ·rw [key_lr] at h; exact SeqAt.EqAt.int_str i t y u _ _ _ _ h
  ·rcases dw hv with ⟨j, u, rfl, rfl⟩ | ⟨y, u, rfl, rfl⟩
   ·rw [key_rl] at h; exact SeqAt.EqAt.str_int x t j u _ _ _ _ h
   ·rw [key_rr] at h; exact wpAny_eqBool_str h
 «strs» := fun k x t v h => by
  rcases dw h with ⟨i, u, rfl, e⟩ | ⟨y, u, rfl, e⟩
  ·exact nomatch e
  ·injection e with e1 _
   subst e1
   cases v <;> rfl
inductive V where
 | non | bl (b : Bool) | int (i : Int) | str (x : Str) | byt (b : Array UInt8) | flt (b : UInt64) | ref (a : Addr) | ty (n : String)
 deriving DecidableEq
noncomputable def RelV : V → Value → Prop
 | .non, u => u = Value.none
 | .bl b, u => u = Value.bool b
 | .int i, u => ∃ t, u = Value.int i t
 | .str x, u => ∃ t, u = Value.str x t
 | .byt b, u => ∃ t, u = Value.bytes b t
 | .flt b, u => ∃ t, u = Value.float b t
 | .ref a, u => u = Value.ref a
 | .ty n, u => u = Value.type n
noncomputable abbrev Vals : List V → List Value → Prop := Paired RelV
theorem Vals.length {xs : List V} {us : List Value} (r : Vals xs us) : xs.length = us.length := Paired.length r
theorem Vals.get : ∀ {xs : List V} {us : List Value} {i : Nat} {x : V}, Vals xs us → xs[i]? = some x → ∃ u, us[i]? = some u ∧ RelV x u
 | _, _, _, _, .nil, e => by simp at e
 | _, _, 0, _, .cons r _, e => by simp at e; subst e; exact ⟨_, rfl, r⟩
 | _, _, i + 1, x, .cons _ t, e => by
  obtain ⟨u, h1, h2⟩ := Vals.get (i := i) (x := x) t (by simpa using e)
  exact ⟨u, by simpa using h1, h2⟩
theorem Vals.set {x : V} {u : Value} (r : RelV x u) : ∀ {xs : List V} {us : List Value} (i : Nat), Vals xs us → Vals (xs.set i x) (us.set i u)
 | _, _, _, .nil => .nil
 | _, _, 0, .cons _ t => .cons r t
 | _, _, i + 1, .cons q t => .cons q (Vals.set r i t)
theorem Vals.append : ∀ {xs ys : List V} {us ws : List Value}, Vals xs us → Vals ys ws → Vals (xs ++ ys) (us ++ ws)
 | _, _, _, _, .nil, s => s
 | _, _, _, _, .cons r t, s => .cons r (Vals.append t s)
theorem Vals.take : ∀ {xs : List V} {us : List Value} (n : Nat), Vals xs us → Vals (xs.take n) (us.take n)
 | _, _, 0, _ => .nil
 | _, _, _ + 1, .nil => .nil
 | _, _, n + 1, .cons r t => .cons r (Vals.take n t)
theorem Vals.drop : ∀ {xs : List V} {us : List Value} (n : Nat), Vals xs us → Vals (xs.drop n) (us.drop n)
 | _, _, 0, r => r
 | _, _, _ + 1, .nil => .nil
 | _, _, n + 1, .cons _ t => Vals.drop n t
theorem Vals.none_of : ∀ {xs : List V} {us : List Value} {i : Nat}, Vals xs us → xs[i]? = none → us[i]? = none := fun {xs us i} r e => by
 have h1 := r.length
 have h2 : xs.length ≤ i := List.getElem?_eq_none_iff.mp e
 exact List.getElem?_eq_none_iff.mpr (by omega)
noncomputable def RelO : Option V → Option Value → Prop
 | some v, some u => RelV v u
 | none, none => True
 | _, _ => False
noncomputable def KV {κ : Type} : List (κ × V) → List (κ × Value) → Prop := Paired fun (p : κ × V) (q : κ × Value) => p.1 = q.1 ∧ RelV p.2 q.2
noncomputable def kV : Key → V
 | .inl i => .int i
 | .inr x => .str x
inductive HO where
 | lst (xs : List V)
 | tup (xs : List V)
 | dK (kvs : List (Key × V)) | dT (kvs : List (List Key × V))
 | set (S : Int → Bool) (n : Nat)
 | ins (C dx : Addr) (fs : List (Str × V))
 | own (x : Addr)
 | xd (fs : List (Str × V))
 | met (f x : Addr)
 | rng (lo hi : Int)
 | frz (o : Obj) (u : HO)
 | tbl (ps : Array Value)
 | ext (φ : Heap → Prop)
noncomputable abbrev Hp := Addr → Option HO
noncomputable def upd (H : Hp) (a : Addr) (o : HO) : Hp := fun b => if b = a then some o else H b
theorem ak {H : Hp} {a : Addr} {o : HO} : upd H a o a = some o := by unfold upd; rw [if_pos rfl]
theorem aJ {H : Hp} {a b : Addr} {o : HO} (h : b ≠ a) : upd H a o b = H b := by unfold upd; rw [if_neg h]
theorem ne_of {H : Hp} {a b : Addr} {o u : HO} (h : H a = some o) (h' : H b = some u) (d : o ≠ u) : a ≠ b := by
 intro e; subst e; rw [h] at h'; exact d (Option.some.inj h')
theorem aK {H : Hp} {a b : Addr} {o : HO} (h : H a = some o) (h' : H b = none) : a ≠ b := by
 intro e; subst e; rw [h] at h'; cases h'
section
variable (P : Program) (w : World)
noncomputable def dU (H : Hp) (h : Heap) (a : Addr) : HO → Prop
 | .lst xs => xs.length ≤ sizeLine ∧ ∃ (its : List Value) (n : Nat), Vals xs its ∧ h.get? a = some { cls := .type "list", data := .seq its.toArray n }
 | .tup xs => xs.length ≤ sizeLine ∧ ∃ its : List Value, Vals xs its ∧ IsTup h a its.toArray
 | .dK kvs => kvs.length ≤ sizeLine ∧ (a == sysModules) = false ∧ ∃ vs, KV kvs vs ∧ h.DictOf (mixKind P w) a vs
 | .dT kvs => kvs.length ≤ sizeLine ∧ (a == sysModules) = false ∧ ∃ xs : List (List Key × Addr × Value),
   Paired (fun (p : List Key × V) (q : List Key × Addr × Value) => p.1 = q.1 ∧ H q.2.1 = some (.tup (p.1.map kV)) ∧ RelV p.2 q.2.2) kvs xs ∧
   ∃ o es ep, h.get? a = some o ∧ o.ExactDict ∧ o.data = .dict es ep ∧ es.toList = xs.map (entryOfKey (tupleKind (mixKind P w))) ∧ (xs.map (·.1)).Nodup
 | .set S n => h.SetOf (intKind P w) a S n
 | .ins C dx fs => H dx = some (.own a) ∧ fs.length ≤ 1000 ∧ dx ≠ a ∧ h.get? a = some (PySem.W.instObj C dx) ∧
   ∃ mA, h.Ns1 dx mA ∧ (∀ f, RelO (fs.lookup f) (mA f)) ∧ PySem.Within mA (fs.map (·.1))
 | .own _ => ∃ o, h.get? a = some o
 | .xd fs => ∃ mA, h.Ns1 a mA ∧ ∀ f, RelO (fs.lookup f) (mA f)
 | .rng lo hi => ∃ t u v, h.get? a = some { cls := .type "range", data := .fields #[.int lo t, .int hi u, .int 1 v] }
 | .frz o u => h.get? a = some o ∧ dU H h a u
 | .tbl ps => h.get? a = some { cls := .none, data := .fields ps }
 | .met f x => h.get? a = some (PySem.W.methodObj (.ref f) (.ref x))
 | .ext φ => φ h ∧ (∃ o, h.get? a = some o) ∧ ∀ h1 h2 : Heap, φ h1 → (∀ o, h1.get? a = some o → h2.get? a = some o) → φ h2
noncomputable def HOk (H : Hp) (h : Heap) : Prop := ∀ a o, H a = some o → dU P w H h a o
end
section
variable {P : Program} {w : World} {H H' : Hp} {h h' : Heap} {a : Addr} {o : HO}
theorem dU.lt (x : dU P w H h a o) : a < h.objs.size := by
 cases o with
 | lst xs => obtain ⟨_, _, _, _, e⟩ := x; exact Heap.lt_size e
 | tup xs => obtain ⟨_, _, _, p⟩ := x; exact p.lt
 | dK kvs => obtain ⟨_, _, _, _, o, _, _, e, _⟩ := x; exact Heap.lt_size e
 | dT kvs => obtain ⟨_, _, _, _, o, _, _, e, _⟩ := x; exact Heap.lt_size e
 | set S n => obtain ⟨o, _, _, _, e, _⟩ := x; exact Heap.lt_size e
 | ins C dx fs => obtain ⟨_, _, _, e, _⟩ := x; exact Heap.lt_size e
 | own y => obtain ⟨_, e⟩ := x; exact Heap.lt_size e
 | xd fs => obtain ⟨_, ⟨_, _, _, e, _⟩, _⟩ := x; exact Heap.lt_size e
 | rng lo hi => obtain ⟨_, _, _, e⟩ := x; exact Heap.lt_size e
 | frz ob u => obtain ⟨e, _⟩ := x; exact Heap.lt_size e
 | tbl ps => exact Heap.lt_size (show h.get? a = some _ from x)
 | met f y => exact Heap.lt_size (show h.get? a = some _ from x)
 | ext φ => obtain ⟨_, ⟨_, e⟩, _⟩ := x; exact Heap.lt_size e
theorem Paired.mapP {α β : Type} {F G : α → β → Prop} : ∀ {l₁ : List α} {l₂ : List β}, Paired F l₁ l₂ → (∀ a b, F a b → G a b) → Paired G l₁ l₂
 | _, _, .nil, _ => .nil
 | _, _, .cons r t, f => .cons (f _ _ r) (Paired.mapP t f)
theorem dU.stay (x : dU P w H h a o) (k : ∀ b u, (b = a ∨ H b = some (.own a)) → h.get? b = some u → h'.get? b = some u)
  (ho : ∀ b, H b = some (.own a) → H' b = some (.own a)) (ht : ∀ b xs, H b = some (.tup xs) → H' b = some (.tup xs)) : dU P w H' h' a o := by
 induction o with
 | lst xs => obtain ⟨z, its, n, r, e⟩ := x; exact ⟨z, its, n, r, k _ _ (.inl rfl) e⟩
 | tup xs => obtain ⟨z, its, r, ob, e, c⟩ := x; exact ⟨z, its, r, ob, k _ _ (.inl rfl) e, c⟩
 | dK kvs => obtain ⟨z, y, vs, r, ob, es, ep, e, c⟩ := x; exact ⟨z, y, vs, r, ob, es, ep, k _ _ (.inl rfl) e, c⟩
 | dT kvs =>
  obtain ⟨z, y, xs, r, ob, es, ep, e, c⟩ := x
  exact ⟨z, y, xs, Paired.mapP r fun p q z => ⟨z.1, ht _ _ z.2.1, z.2.2⟩, ob, es, ep, k _ _ (.inl rfl) e, c⟩
 | set S n => obtain ⟨ob, es, ep, t, e, c⟩ := x; exact ⟨ob, es, ep, t, k _ _ (.inl rfl) e, c⟩
 | ins C dx fs =>
  obtain ⟨d, z, ne, e, mA, ⟨od, es, ep, e2, c⟩, r⟩ := x
  exact ⟨ho _ d, z, ne, k _ _ (.inl rfl) e, mA, ⟨od, es, ep, k _ _ (.inr d) e2, c⟩, r⟩
 | own y => obtain ⟨ob, e⟩ := x; exact ⟨ob, k _ _ (.inl rfl) e⟩
 | xd fs => obtain ⟨mA, ⟨od, es, ep, e, c⟩, r⟩ := x; exact ⟨mA, ⟨od, es, ep, k _ _ (.inl rfl) e, c⟩, r⟩
 | rng lo hi => obtain ⟨t, u, v, e⟩ := x; exact ⟨t, u, v, k _ _ (.inl rfl) e⟩
 | frz ob u ih => obtain ⟨e, q⟩ := x; exact ⟨k _ _ (.inl rfl) e, ih q⟩
 | tbl ps =>
  have e : h.get? a = some { cls := .none, data := .fields ps } := x
  show h'.get? a = some { cls := .none, data := .fields ps }
  exact k a _ (.inl rfl) e
 | met f y =>
  have e : h.get? a = some (PySem.W.methodObj (.ref f) (.ref y)) := x
  show h'.get? a = some (PySem.W.methodObj (.ref f) (.ref y))
  exact k a _ (.inl rfl) e
 | ext φ => obtain ⟨p, ⟨o, e⟩, st⟩ := x; exact ⟨st _ _ p fun o q => k _ _ (.inl rfl) q, ⟨o, k _ _ (.inl rfl) e⟩, st⟩
theorem HOk.lt (x : HOk P w H h) (e : H a = some o) : a < h.objs.size := (x a o e).lt
theorem HOk.fresh (x : HOk P w H h) (e : h.objs.size ≤ a) : H a = none := by
 cases q : H a with
 | none => rfl
 | some u => exact absurd (Nat.lt_of_lt_of_le (x.lt q) e) (Nat.lt_irrefl _)
theorem HOk.kept (x : HOk P w H h) (k : ∀ b u, h.get? b = some u → h'.get? b = some u) : HOk P w H h' := fun a o e =>
 (x a o e).stay (fun b u _ q => k b u q) (fun _ q => q) fun _ _ q => q
theorem HOk.laid (x : HOk P w H h) (k : ∀ b u, h.get? b = some u → h'.get? b = some u) (hp : h.objs.size ≤ a) (new : dU P w (upd H a o) h' a o) : HOk P w (upd H a o) h' := fun b u e => by
 have hn := x.fresh hp
 by_cases hb : b = a
 ·subst hb; rw [ak] at e; cases e; exact new
 ·rw [aJ hb] at e
  exact (x b u e).stay (fun c v _ q => k c v q) (fun c q => by rw [aJ (aK q hn)]; exact q) fun c xs q => by rw [aJ (aK q hn)]; exact q
end
noncomputable def Rd (H : Hp) (a : Addr) (u : HO) : Prop := H a = some u ∨ ∃ o, H a = some (.frz o u)
theorem Rd.ok {P : Program} {w : World} {H : Hp} {h : Heap} {a : Addr} {u : HO} (r : Rd H a u) (x : HOk P w H h) : dU P w H h a u := by
 rcases r with r | ⟨o, r⟩
 ·exact x a u r
 ·obtain ⟨_, q⟩ := x a _ r
  exact q
noncomputable def Mut : Option HO → Prop
 | some (.lst _) => True
 | some (.dK _) => True
 | some (.dT _) => True
 | some (.set _ _) => True
 | some (.ins _ _ _) => True
 | some (.ext _) => True
 | _ => False
section
variable {P : Program} {w : World} {H : Hp} {h h' : Heap} {x e : Addr} {o' : HO}
theorem HOk.write (ok : HOk P w H h) (mu : Mut (H x)) (he : e = x ∨ H e = some (.own x)) (k : ∀ b u, b ≠ e → h.get? b = some u → h'.get? b = some u) (heo : ∃ u, h'.get? e = some u)
  (new : dU P w (upd H x o') h' x o') : HOk P w (upd H x o') h' := fun b u q => by
 have nown : ∀ c y, H c = some (.own y) → c ≠ x := fun c y r z => by subst z; rw [r] at mu; exact mu
 have ntup : ∀ c xs, H c = some (.tup xs) → c ≠ x := fun c xs r z => by subst z; rw [r] at mu; exact mu
 by_cases hb : b = x
 ·subst hb; rw [ak] at q; cases q; exact new
 ·rw [aJ hb] at q
  by_cases hbe : b = e
  ·have q' : H b = some (.own x) := by
    rcases he with z | z
    ·exact absurd (hbe.trans z) hb
    ·rw [hbe]; exact z
   rw [q] at q'; cases q'
   obtain ⟨v, hv⟩ := heo
   exact ⟨v, by rw [hbe]; exact hv⟩
  ·refine (ok b u q).stay (fun c v hc r => k c v ?_ r) (fun c r => by rw [aJ (nown c b r)]; exact r) fun c xs r => by rw [aJ (ntup c xs r)]; exact r
   rcases hc with rfl | hc
   ·exact hbe
   ·rintro rfl
    rcases he with z | z
    ·exact nown c b hc z
    ·rw [hc] at z; cases z; exact hb rfl
end
structure Un (fs ex : List Addr) (H H' : Hp) (h h' : Heap) : Prop where
 keep : ∀ b o, h.get? b = some o → H b = none → b ∉ fs → b ∉ ex → h'.get? b = some o
 slot : ∀ b o, h.get? b = some o → H b = none → b ∈ fs → b ∉ ex → ∃ sl, h'.get? b = some { o with slots := sl }
 free : ∀ b o, h.get? b = some o → H b = none → b ∉ ex → H' b = none
 there : ∀ b o, h.get? b = some o → b ∉ ex → ∃ o', h'.get? b = some o'
 tups : ∀ b xs, H b = some (.tup xs) → H' b = some (.tup xs)
 frzs : ∀ b o u, H b = some (.frz o u) → H' b = some (.frz o u)
 tbls : ∀ b ps, H b = some (.tbl ps) → ∃ more, H' b = some (.tbl (ps ++ more))
section
variable {fs fs' ex ex' : List Addr} {H H1 H2 : Hp} {h h1 h2 h' : Heap} {a x e : Addr} {o : HO}
theorem Un.any (u : Un fs ex H H1 h h1) {b : Addr} {ob : Obj} (q : h.get? b = some ob) (n : H b = none) (hx : b ∉ ex) : ∃ sl, h1.get? b = some { ob with slots := sl } := by
 by_cases hb : b ∈ fs
 ·exact u.slot b ob q n hb hx
 ·exact ⟨ob.slots, u.keep b ob q n hb hx⟩
theorem Un.kept (k : ∀ b u, h.get? b = some u → h'.get? b = some u) : Un fs ex H H h h' :=
 ⟨fun b ob q _ _ _ => k b ob q, fun b ob q _ _ _ => ⟨ob.slots, k b ob q⟩, fun _ _ _ n _ => n, fun b ob q _ => ⟨ob, k b ob q⟩, fun _ _ q => q, fun _ _ _ q => q, fun _ ps q => ⟨#[], by rw [q]; simp⟩⟩
theorem Un.refl : Un fs ex H H h h := Un.kept fun _ _ q => q
theorem Un.laid (k : ∀ b u, h.get? b = some u → h'.get? b = some u) (hp : h.objs.size ≤ a) (hn : H a = none) : Un fs ex H (upd H a o) h h' where
 keep := fun b u q _ _ _ => k b u q
 slot := fun b u q _ _ _ => ⟨u.slots, k b u q⟩
 free := fun b u q n _ => by rw [aJ (Nat.ne_of_lt (Nat.lt_of_lt_of_le (Heap.lt_size q) hp))]; exact n
 there := fun b u q _ => ⟨u, k b u q⟩
 tups := fun b xs q => by rw [aJ (aK q hn)]; exact q
 frzs := fun b u xs q => by rw [aJ (aK q hn)]; exact q
 tbls := fun b ps q => ⟨#[], by rw [aJ (aK q hn), q]; simp⟩
theorem Un.write (mu : Mut (H x)) (he : e = x ∨ H e = some (.own x)) (k : ∀ b u, b ≠ e → h.get? b = some u → h'.get? b = some u) (heo : ∃ u, h'.get? e = some u) : Un fs ex H (upd H x o) h h' := by
 have hx : ∀ b, H b = none → b ≠ x := fun b n z => by subst z; rw [n] at mu; exact mu
 have hb : ∀ b, H b = none → b ≠ e := fun b n z => by
  subst z
  rcases he with r | r
  ·exact hx b n r
  ·rw [n] at r; cases r
 have hm : ∀ b u, H b = some u → ¬ Mut (some u) → b ≠ x := fun b u q nm z => by subst z; rw [q] at mu; exact nm mu
 refine ⟨fun b u q n _ _ => k b u (hb b n) q, fun b u q n _ _ => ⟨u.slots, k b u (hb b n) q⟩, fun b u q n _ => by rw [aJ (hx b n)]; exact n, fun b u q _ => ?_,
  fun b xs q => by rw [aJ (hm b _ q fun z => z)]; exact q, fun b u xs q => by rw [aJ (hm b _ q fun z => z)]; exact q, fun b ps q => ⟨#[], by rw [aJ (hm b _ q fun z => z), q]; simp⟩⟩
 by_cases hbe : b = e
 ·subst hbe; exact heo
 ·exact ⟨u, k b u hbe q⟩
end
noncomputable def trk (h : Heap) (H : Hp) : List Addr := (List.range h.objs.size).filter fun a => (H a).isSome
noncomputable def hidT (h : Heap) (H : Hp) : Heap := PySem.W.hideAll h (trk h H)
theorem hidT_size (h : Heap) (H : Hp) : (hidT h H).objs.size = h.objs.size := PySem.W.hideAll_size _ _
theorem hidT_get {h : Heap} {H : Hp} {b : Addr} {o : Obj} (e : h.get? b = some o) (n : H b = none) : (hidT h H).get? b = some o :=
 PySem.W.hideAll_get _ e fun hm => by
  have q : (H b).isSome = true := (List.mem_filter.mp hm).2
  rw [n] at q; simp at q
theorem of_hidT {h : Heap} {H : Hp} {b : Addr} {o : Obj} (e : (hidT h H).get? b = some o) : h.get? b = some o ∧ H b = none := by
 have e' : h.get? b = some o := PySem.W.of_hideAll (trk h H) e
 refine ⟨e', ?_⟩
 cases q : H b with
 | none => rfl
 | some x =>
  have hm : b ∈ trk h H := List.mem_filter.mpr ⟨List.mem_range.mpr (Heap.lt_size e'), by simp [q]⟩
  have z : (hidT h H).get? b = none := PySem.W.hideAll_none (trk h H) hm
  rw [z] at e; cases e
structure Mod (K : PySem.W.Frag) (mg : Str → Option Value) (base : Heap) : Prop where
 kin : K.In base
 glob : base.Ns mainGlobals mg
 blt : ∃ mb, base.Ns builtinsNs mb ∧ ∀ x : Str, x ≠ "__name__" → mb x = bootBuiltins x
 nolimit : base.NoLimit
structure Cx where
 prog : Program
 w : World
 K : PySem.W.Frag
 mg : Str → Option Value
 base : Heap
 A : Around
 N : List Str
 s₀ : Shared
 H₀ : Hp
 env : Env
 outer : List Env
 stack : List Env
 ex : List Addr
 fn : Str → Bool
 calm : Bool
 pn : List (Addr × Obj)
 xe : Value → Shared → Prop
noncomputable def frs (l : List Env) : List Addr := l.filterMap (·.frame)
noncomputable abbrev Cx.fs (X : Cx) : List Addr := frs X.outer
noncomputable def Vis (sc : Scope) (x : Str) : Prop := sc.names.lookup x = some .local ∨ sc.names.lookup x = some .cell ∨ sc.names.lookup x = some .free
noncomputable def Loc (sc : Scope) (x : Str) : Prop := sc.names.lookup x = some .local ∨ sc.names.lookup x = some .cell
noncomputable def Look (env : Env) (h : Heap) (m : Str → Option Value) (x : Str) (u : Value) : Prop :=
 (env.kindOf x = some .local ∧ m x = some u) ∨ ((env.kindOf x = some .cell ∨ env.kindOf x = some .free) ∧ ∃ c, env.cells.lookup x = some c ∧ h.IsCell c (some u))
structure Cx.Ok (X : Cx) : Prop where
 mod : Mod X.K X.mg X.base
 kind : X.env.scope.kind = .function
 glob : X.env.globals = mainGlobals
 blt : X.env.builtins = builtinsNs
 above : X.s₀.heap.objs.size ≤ X.env.locals
 inj : ∀ x y c, X.env.cells.lookup x = some c → X.env.cells.lookup y = some c → x = y
 has : ∀ x, (X.env.kindOf x = some .cell ∨ X.env.kindOf x = some .free) → ∃ c, X.env.cells.lookup x = some c
 cab : ∀ x c, X.fn x = true → X.env.cells.lookup x = some c → X.s₀.heap.objs.size ≤ c
 hd : X.calm = true → X.A.handled = none
 frames : X.A.frames = some X.stack
 stk : X.stack = X.outer ∨ (X.stack = X.env :: X.outer ∧ X.env.frame = some X.env.locals)
 exf : ∀ b ∈ X.ex, b ≠ X.env.locals ∧ ∀ x c, X.env.cells.lookup x = some c → c ≠ b
 bs : ∀ b o, X.base.get? b = some o → X.s₀.heap.get? b = some o ∧ X.H₀ b = none
 bsz : X.base.objs.size ≤ X.s₀.heap.objs.size
 noex : ∀ b o, X.base.get? b = some o → b ∉ X.ex
 exfs : ∀ b ∈ X.ex, b ∉ X.fs
 funs : X.s₀.heap.FunFrames X.base X.outer
 frf : ∀ b ∈ X.fs, X.H₀ b = none
structure Inv (X : Cx) (pins : List (Addr × Obj)) (σ : List (Option V)) (H : Hp) (s : Shared) : Prop where
 ok : X.Ok
 os : s.os = X.s₀.os
 bare : AllBare s.gens
 base : Un X.fs X.ex X.H₀ H X.s₀.heap s.heap
 loc : ∃ m, s.heap.Ns X.env.locals m ∧ ∀ (i : Nat) (x : Str) (v : V), X.N[i]? = some x → σ[i]? = some (some v) → Vis X.env.scope x → ∃ u, RelV v u ∧ Look X.env s.heap m x u
 cell : ∀ x c, X.env.cells.lookup x = some c → ∃ v, s.heap.IsCell c v
 free : H X.env.locals = none
 freeC : ∀ x c, X.env.cells.lookup x = some c → H c = none
 pin : ∀ p ∈ X.pn ++ pins, s.heap.get? p.1 = some p.2 ∧ H p.1 = none ∧ p.1 ≠ X.env.locals ∧ p.1 ∉ X.fs ∧ ∀ v, p.2.data ≠ .cell v
 hok : HOk X.prog X.w H s.heap
 len : σ.length = X.N.length
section
variable {X : Cx} {pins : List (Addr × Obj)} {σ : List (Option V)} {H H' : Hp} {s : Shared} {h' : Heap}
theorem Cx.Ok.nofr (ok : X.Ok) {b : Addr} {o : Obj} (e : X.base.get? b = some o) : b ∉ X.fs := fun hb => by
 have := (ok.funs.mem hb).1
 rw [e] at this; cases this
theorem Inv.bs (I : Inv X pins σ H s) : ∀ b o, X.base.get? b = some o → s.heap.get? b = some o ∧ H b = none := fun b o e =>
 ⟨I.base.keep b o (I.ok.bs b o e).1 (I.ok.bs b o e).2 (I.ok.nofr e) (I.ok.noex b o e), I.base.free b o (I.ok.bs b o e).1 (I.ok.bs b o e).2 (I.ok.noex b o e)⟩
theorem Inv.bk (I : Inv X pins σ H s) : ∀ b o, X.base.get? b = some o → s.heap.get? b = some o := fun b o e => (I.bs b o e).1
theorem Inv.mod (I : Inv X pins σ H s) : Mod X.K X.mg X.base := I.ok.mod
theorem Inv.kIn (I : Inv X pins σ H s) : X.K.In s.heap := I.ok.mod.kin.keeps I.bk
theorem Inv.lt (I : Inv X pins σ H s) : X.env.locals < s.heap.objs.size := let ⟨_, hn, _⟩ := I.loc; hn.lt
theorem Inv.sz (I : Inv X pins σ H s) : X.s₀.heap.objs.size ≤ s.heap.objs.size := Nat.le_trans I.ok.above (Nat.le_of_lt I.lt)
theorem Inv.nofs (I : Inv X pins σ H s) {a : Addr} (h : s.heap.objs.size ≤ a) : a ∉ X.fs := fun hb => by
 obtain ⟨_, o, ho, _⟩ := I.ok.funs.mem hb
 exact absurd (Nat.lt_of_lt_of_le (Heap.lt_size ho) (Nat.le_trans I.sz h)) (Nat.lt_irrefl _)
theorem Inv.cne (I : Inv X pins σ H s) : ∀ x c, X.env.cells.lookup x = some c → c ≠ X.env.locals := fun x c e z => by
 obtain ⟨v, o, ho, hd⟩ := I.cell x c e
 obtain ⟨m, ⟨o', es, ep, ho', hd', _⟩, _⟩ := I.loc
 rw [z, ho'] at ho; cases ho; rw [hd'] at hd; cases hd
theorem Inv.funs (I : Inv X pins σ H s) : s.heap.FunFrames X.base X.outer := by
 have all : ∀ (l : List Env), (∀ b ∈ frs l, b ∈ X.fs) → X.s₀.heap.FunFrames X.base l → s.heap.FunFrames X.base l := by
  intro l
  induction l with
  | nil => intro _ _; trivial
  | cons env r ih =>
   intro hs hl
   obtain ⟨hk, ⟨L, o, hf, hn, ho, hd⟩, hr⟩ := hl
   have hL : L ∈ X.fs := hs L (by unfold frs; rw [List.filterMap_cons, hf]; exact List.mem_cons_self)
   obtain ⟨sl, e⟩ := I.base.slot L o ho (I.ok.frf L hL) hL fun z => I.ok.exfs L z hL
   exact ⟨hk, ⟨L, _, hf, hn, e, hd⟩, ih (fun b hb => hs b (by unfold frs; rw [List.filterMap_cons, hf]; exact List.mem_cons_of_mem _ hb)) hr⟩
 exact all X.outer (fun _ hb => hb) I.ok.funs
theorem Inv.stack (I : Inv X pins σ H s) : s.heap.FunFrames X.base X.stack := by
 rcases I.ok.stk with e | ⟨e, hf⟩
 ·rw [e]; exact I.funs
 ·rw [e]
  obtain ⟨m, hn, _⟩ := I.loc
  refine .cons (by rw [I.ok.kind]; decide) hf hn ?_ I.funs
  exact Heap.get?_none_of_le (Nat.le_trans I.ok.bsz I.ok.above)
theorem Inv.stkSub (I : Inv X pins σ H s) : ∀ b ∈ frs X.stack, b ∈ X.env.locals :: X.fs := fun b hb => by
 rcases I.ok.stk with e | ⟨e, hf⟩
 ·rw [e] at hb; exact List.mem_cons_of_mem _ hb
 ·rw [e] at hb
  unfold frs at hb
  rw [List.filterMap_cons, hf] at hb
  exact hb
theorem Inv.stkFree (I : Inv X pins σ H s) : ∀ b ∈ frs X.stack, H b = none := fun b hb => by
 rcases List.mem_cons.mp (I.stkSub b hb) with e | hb
 ·rw [e]; exact I.free
 ·obtain ⟨_, o, ho, _⟩ := I.ok.funs.mem hb
  exact I.base.free b o ho (I.ok.frf b hb) fun z => I.ok.exfs b z hb
theorem Inv.step {g' : Array GenState} {t' : Nat} {d' : Drawn} {ch : List Addr} (I : Inv X pins σ H s)
  (hch : ∀ b ∈ ch, (b ∈ X.ex ∨ X.s₀.heap.objs.size ≤ b) ∧ b ≠ X.env.locals ∧ (∀ x c, X.env.cells.lookup x = some c → c ≠ b) ∧ ∀ p ∈ X.pn ++ pins, p.1 ≠ b)
  (keep : ∀ b o, b ≠ X.env.locals → b ∉ X.fs → b ∉ ch → s.heap.get? b = some o → H b = none → h'.get? b = some o)
  (slot : ∀ b o, b ≠ X.env.locals → b ∈ X.fs → b ∉ ch → s.heap.get? b = some o → H b = none → ∃ sl, h'.get? b = some { o with slots := sl }) (free : ∀ b o, b ∉ ch → s.heap.get? b = some o → H b = none → H' b = none)
  (there : ∀ b o, b ∉ ch → s.heap.get? b = some o → ∃ o', h'.get? b = some o')
  (tups : ∀ b xs, H b = some (.tup xs) → H' b = some (.tup xs)) (frzs : ∀ b o u, H b = some (.frz o u) → H' b = some (.frz o u)) (tbls : ∀ b ps, H b = some (.tbl ps) → ∃ more, H' b = some (.tbl (ps ++ more)))
  (ns : ∀ m, s.heap.Ns X.env.locals m → h'.Ns X.env.locals m) (hok : HOk X.prog X.w H' h') (hg : AllBare g') :
  Inv X pins σ H' { s with heap := h', gens := g', drawn := d', toks := t' } := by
 have neL : ∀ b o, X.s₀.heap.get? b = some o → b ≠ X.env.locals := fun b o e => Nat.ne_of_lt (Nat.lt_of_lt_of_le (Heap.lt_size e) I.ok.above)
 have neC : ∀ b o, X.s₀.heap.get? b = some o → b ∉ X.ex → b ∉ ch := fun b o e hx hb => by
  rcases (hch b hb).1 with z | z
  ·exact hx z
  ·exact absurd (Nat.lt_of_lt_of_le (Heap.lt_size e) z) (Nat.lt_irrefl _)
 have cellK : ∀ x c, X.env.cells.lookup x = some c → ∀ v, s.heap.IsCell c v → h'.IsCell c v := fun x c e v ⟨o, ho, hd⟩ => by
  have nch : c ∉ ch := fun z => (hch c z).2.2.1 x c e rfl
  by_cases hc : c ∈ X.fs
  ·obtain ⟨sl, q⟩ := slot c o (I.cne x c e) hc nch ho (I.freeC x c e)
   exact ⟨_, q, hd⟩
  ·exact ⟨o, keep c o (I.cne x c e) hc nch ho (I.freeC x c e), hd⟩
 refine ⟨I.ok, I.os, hg, ⟨fun b o e n hb hx => ?_, fun b o e n hb hx => ?_, fun b o e n hx => ?_, fun b o e hx => ?_, fun b xs e => tups b xs (I.base.tups b xs e), fun b o xs e => frzs b o xs (I.base.frzs b o xs e), fun b ps e => ?_⟩, ?_, fun x c e => ?_, ?_, fun x c e => ?_, fun p hp => ?_, hok, I.len⟩
 ·exact keep b o (neL b o e) hb (neC b o e hx) (I.base.keep b o e n hb hx) (I.base.free b o e n hx)
 ·obtain ⟨sl, e1⟩ := I.base.slot b o e n hb hx
  obtain ⟨sl', e2⟩ := slot b _ (neL b o e) hb (neC b o e hx) e1 (I.base.free b o e n hx)
  exact ⟨sl', e2⟩
 ·obtain ⟨o', e1⟩ := I.base.there b o e hx
  exact free b o' (neC b o e hx) e1 (I.base.free b o e n hx)
 ·obtain ⟨o', e1⟩ := I.base.there b o e hx
  exact there b o' (neC b o e hx) e1
 ·obtain ⟨m1, e1⟩ := I.base.tbls b ps e
  obtain ⟨m2, e2⟩ := tbls b _ e1
  exact ⟨m1 ++ m2, by rw [e2, Array.append_assoc]⟩
 ·obtain ⟨m, hn, hl⟩ := I.loc
  refine ⟨m, ns m hn, fun i x v e1 e2 e3 => ?_⟩
  obtain ⟨u, r, l⟩ := hl i x v e1 e2 e3
  refine ⟨u, r, ?_⟩
  rcases l with l | ⟨k, c, e, z⟩
  ·exact .inl l
  ·exact .inr ⟨k, c, e, cellK x c e _ z⟩
 ·obtain ⟨v, z⟩ := I.cell x c e
  exact ⟨v, cellK x c e v z⟩
 ·obtain ⟨m, ⟨o, _, _, ho, _⟩, _⟩ := I.loc
  exact free _ o (fun z => (hch _ z).2.1 rfl) ho I.free
 ·obtain ⟨v, o, ho, hd⟩ := I.cell x c e
  exact free c o (fun z => (hch c z).2.2.1 x c e rfl) ho (I.freeC x c e)
 ·obtain ⟨e, n, ne, nf, d⟩ := I.pin p hp
  have nch : p.1 ∉ ch := fun z => (hch p.1 z).2.2.2 p hp rfl
  exact ⟨keep p.1 p.2 ne nf nch e n, free p.1 p.2 nch e n, ne, nf, d⟩
theorem Inv.un {t' : Nat} (I : Inv X pins σ H s) (u : Un X.fs [] H H' s.heap h') (hok : HOk X.prog X.w H' h') : Inv X pins σ H' { s with heap := h', toks := t' } := by
 obtain ⟨m, ⟨o, es, ep, ho, r⟩, _⟩ := id I.loc
 obtain ⟨sl, hL⟩ := u.any ho I.free (by simp)
 exact I.step (g' := s.gens) (d' := s.drawn) (ch := []) (fun _ z => nomatch z) (fun b o _ hb _ e n => u.keep b o e n hb (by simp)) (fun b o _ hb _ e n => u.slot b o e n hb (by simp)) (fun b o _ e n => u.free b o e n (by simp)) (fun b o _ e => u.there b o e (by simp)) u.tups u.frzs u.tbls (fun m' hm => by
  obtain ⟨o', es', ep', ho', r'⟩ := hm
  rw [ho] at ho'; cases ho'
  exact ⟨_, es', ep', hL, r'⟩) hok I.bare
theorem Inv.call {g' : Array GenState} {t' : Nat} {d' : Drawn} {ch : List Addr} (I : Inv X pins σ H s) (u : Un (frs X.stack) ch H H' s.heap h') (hok : HOk X.prog X.w H' h') (hg : AllBare g')
  (hch : ∀ b ∈ ch, (b ∈ X.ex ∨ X.s₀.heap.objs.size ≤ b) ∧ b ≠ X.env.locals ∧ (∀ x c, X.env.cells.lookup x = some c → c ≠ b) ∧ ∀ p ∈ X.pn ++ pins, p.1 ≠ b) :
  Inv X pins σ H' { s with heap := h', gens := g', drawn := d', toks := t' } := by
 obtain ⟨m, ⟨o, es, ep, ho, r⟩, _⟩ := id I.loc
 obtain ⟨sl, hL⟩ := u.any ho I.free fun z => (hch _ z).2.1 rfl
 exact I.step (ch := ch) hch (fun b o hL hb hc e n => u.keep b o e n (fun z => (List.mem_cons.mp (I.stkSub b z)).elim hL hb) hc) (fun b o _ _ hc e n => u.any e n hc) (fun b o hc e n => u.free b o e n hc) (fun b o hc e => u.there b o e hc) u.tups u.frzs u.tbls (fun m' hm => by
  obtain ⟨o', es', ep', ho', r'⟩ := hm
  rw [ho] at ho'; cases ho'
  exact ⟨_, es', ep', hL, r'⟩) hok hg
theorem Inv.turned {t' : Nat} {it : Addr} (I : Inv X pins σ H s) (k : ∀ b o, b ≠ it → s.heap.get? b = some o → h'.get? b = some o) (hn : H it = none) (hL : it ≠ X.env.locals)
  (h1 : it ∈ X.ex ∨ X.s₀.heap.objs.size ≤ it) (h2 : ∀ x c, X.env.cells.lookup x = some c → c ≠ it) (h3 : ∀ p ∈ X.pn ++ pins, p.1 ≠ it) : Inv X pins σ H { s with heap := h', toks := t' } := by
 have nit : ∀ b u, H b = some u → b ≠ it := fun b u e z => by rw [z, hn] at e; cases e
 refine I.step (g' := s.gens) (d' := s.drawn) (ch := [it]) (fun b hb => ?_) (fun b o _ _ hc e _ => k b o (fun z => hc (by simp [z])) e) (fun b o _ _ hc e _ => ⟨o.slots, k b o (fun z => hc (by simp [z])) e⟩) (fun _ _ _ _ n => n)
  (fun b o hc e => ⟨o, k b o (fun z => hc (by simp [z])) e⟩) (fun _ _ e => e) (fun _ _ _ e => e) (fun b ps e => ⟨#[], by rw [e]; simp⟩) (fun m hm => ?_) (fun b u e => ?_) I.bare
 ·have e : b = it := by simpa using hb
  subst e
  exact ⟨h1, hL, h2, h3⟩
 ·obtain ⟨o, es, ep, ho, r⟩ := hm
  exact ⟨o, es, ep, k _ o (Ne.symm hL) ho, r⟩
 ·refine (I.hok b u e).stay (fun c v hc q => k c v ?_ q) (fun _ q => q) fun _ _ q => q
  rcases hc with z | z
  ·rw [z]; exact nit b u e
  ·exact nit c _ z
theorem Inv.tok (I : Inv X pins σ H s) (t : Nat) : Inv X pins σ H { s with toks := t } := I.un (h' := s.heap) (t' := t) Un.refl I.hok
theorem Inv.kept {t' : Nat} (I : Inv X pins σ H s) (k : ∀ b u, s.heap.get? b = some u → h'.get? b = some u) : Inv X pins σ H { s with heap := h', toks := t' } := I.un (Un.kept k) (I.hok.kept k)
theorem Inv.laid {a : Addr} {o : HO} {t' : Nat} (I : Inv X pins σ H s) (k : ∀ b u, s.heap.get? b = some u → h'.get? b = some u) (hp : s.heap.objs.size ≤ a) (new : dU X.prog X.w (upd H a o) h' a o) :
  Inv X pins σ (upd H a o) { s with heap := h', toks := t' } := I.un (Un.laid k hp (I.hok.fresh hp)) (I.hok.laid k hp new)
theorem Inv.write {x e : Addr} {o : HO} {t' : Nat} (I : Inv X pins σ H s) (mu : Mut (H x)) (he : e = x ∨ H e = some (.own x)) (k : ∀ b u, b ≠ e → s.heap.get? b = some u → h'.get? b = some u) (heo : ∃ u, h'.get? e = some u)
  (new : dU X.prog X.w (upd H x o) h' x o) : Inv X pins σ (upd H x o) { s with heap := h', toks := t' } := I.un (Un.write mu he k heo) (I.hok.write mu he k heo new)
theorem Inv.pins_of {pins' : List (Addr × Obj)} (I : Inv X pins σ H s) (h : ∀ p ∈ pins', s.heap.get? p.1 = some p.2 ∧ H p.1 = none ∧ p.1 ≠ X.env.locals ∧ p.1 ∉ X.fs ∧ ∀ v, p.2.data ≠ .cell v) : Inv X pins' σ H s :=
 ⟨I.ok, I.os, I.bare, I.base, I.loc, I.cell, I.free, I.freeC, fun p hp => (List.mem_append.mp hp).elim (fun z => I.pin p (List.mem_append_left _ z)) (h p), I.hok, I.len⟩
theorem nodup_ix {N : List Str} (hN : N.Nodup) {i j : Nat} {x : Str} (a : N[i]? = some x) (b : N[j]? = some x) : i = j := by
 obtain ⟨h1, e1⟩ := List.getElem?_eq_some_iff.mp a
 obtain ⟨h2, e2⟩ := List.getElem?_eq_some_iff.mp b
 exact (List.getElem_inj hN).mp (e1.trans e2.symm)
theorem store_ok2 {M : Model} {A : Around} {E : Value → Shared → Prop} {i : Nat} {x : Str} {v : V} {u : Value} {Q : Unit → Shared → Prop} (I : Inv X pins σ H s) (hN : X.N.Nodup) (hi : X.N[i]? = some x) (hx : Loc X.env.scope x) (r : RelV v u)
    (h : ∀ s', Inv X pins (σ.set i (some v)) H s' → (∃ a, Heap.SameBut a s.heap s'.heap ∧ (a = X.env.locals ∨ X.env.cells.lookup x = some a)) → Q () s') (hf : X.fn x = true ∨ X.env.scope.names.lookup x = some .local := by first | exact .inl rfl | exact .inr rfl | assumption) : wpAny M A (storeName X.env x u) Q E s := by
  obtain ⟨m, hn, hl⟩ := id I.loc
  have hcls : (X.env.scope.kind == .class || (X.env.scope.kind == .module && X.env.locals != X.env.globals)) = false := by rw [I.ok.kind]; rfl
  have hiσ : i < σ.length := by rw [I.len]; exact (List.getElem?_eq_some_iff.mp hi).1
  have cne := I.cne
  have tracked : ∀ {a : Addr} {h' : Heap}, (∃ o, s.heap.get? a = some o ∧ H a = none) → Heap.SameBut a s.heap h' → HOk X.prog X.w H h' := fun {a h'} ha hs b ob e => by
    obtain ⟨_, _, hfree⟩ := ha
    refine (I.hok b ob e).stay (fun c w' hc q => (hs.2 c ?_).trans q) (fun _ q => q) fun _ _ q => q
    rintro rfl
    rcases hc with rfl | hc
    · rw [hfree] at e; cases e
    · rw [hfree] at hc; cases hc
  rcases hx with hk | hk
  · refine wpAny_storeName_local hk hn (fun h' hn' hs => ?_) hcls
    obtain ⟨oL, _, _, hoL, _⟩ := id hn
    refine h _ ⟨I.ok, I.os, I.bare, ⟨fun b o e n hb hx => ?_, fun b o e n hb hx => ?_, I.base.free, fun b o e hx => ?_, I.base.tups, I.base.frzs, I.base.tbls⟩, ⟨_, hn', fun j y v' e1 e2 e3 => ?_⟩, fun y c e => ?_, I.free, I.freeC, fun p hp => ?_, tracked ⟨oL, hoL, I.free⟩ hs, by simpa using I.len⟩ ⟨_, hs, .inl rfl⟩
    · exact (hs.2 b (Nat.ne_of_lt (Nat.lt_of_lt_of_le (Heap.lt_size e) I.ok.above))).trans (I.base.keep b o e n hb hx)
    · obtain ⟨sl, e1⟩ := I.base.slot b o e n hb hx
      exact ⟨sl, (hs.2 b (Nat.ne_of_lt (Nat.lt_of_lt_of_le (Heap.lt_size e) I.ok.above))).trans e1⟩
    · obtain ⟨o', e1⟩ := I.base.there b o e hx
      exact ⟨o', (hs.2 b (Nat.ne_of_lt (Nat.lt_of_lt_of_le (Heap.lt_size e) I.ok.above))).trans e1⟩
    · by_cases hj : j = i
      · subst hj
        rw [hi] at e1; cases e1
        rw [List.getElem?_set_self hiσ] at e2
        cases e2
        exact ⟨u, r, .inl ⟨hk, by simp⟩⟩
      · rw [List.getElem?_set_ne (Ne.symm hj)] at e2
        obtain ⟨u', r', q⟩ := hl j y v' e1 e2 e3
        refine ⟨u', r', ?_⟩
        rcases q with ⟨k, e⟩ | ⟨k, c, e, z⟩
        · refine .inl ⟨k, ?_⟩
          have : y ≠ x := fun e => hj (nodup_ix hN e1 (e ▸ hi))
          simp [this, e]
        · exact .inr ⟨k, c, e, z.sameBut hs (cne y c e)⟩
    · obtain ⟨w', z⟩ := I.cell y c e
      exact ⟨w', z.sameBut hs (cne y c e)⟩
    · obtain ⟨e, n, ne, nf, d⟩ := I.pin p hp
      exact ⟨(hs.2 p.1 ne).trans e, n, ne, nf, d⟩
  · have hfn : X.fn x = true := by
      rcases hf with z | z
      · exact z
      · rw [z] at hk; cases hk
    obtain ⟨c, hc⟩ := I.ok.has x (.inl hk)
    obtain ⟨w', z⟩ := I.cell x c hc
    refine wpAny_storeName_cell I.ok.kind hk hc z (fun h' hc' hs => ?_)
    obtain ⟨oc, hoc, hocd⟩ := id z
    refine h { s with heap := h' } ⟨I.ok, I.os, I.bare, ⟨fun b o e n hb hx => ?_, fun b o e n hb hx => ?_, I.base.free, fun b o e hx => ?_, I.base.tups, I.base.frzs, I.base.tbls⟩, ⟨m, hn.sameBut hs (Ne.symm (cne x c hc)), fun j y v' e1 e2 e3 => ?_⟩, fun y c' e => ?_, I.free, I.freeC, fun p hp => ?_, tracked ⟨oc, hoc, I.freeC x c hc⟩ hs, by simpa using I.len⟩ ⟨c, hs, .inr hc⟩
    · exact (hs.2 b (Nat.ne_of_lt (Nat.lt_of_lt_of_le (Heap.lt_size e) (I.ok.cab x c hfn hc)))).trans (I.base.keep b o e n hb hx)
    · obtain ⟨sl, e1⟩ := I.base.slot b o e n hb hx
      exact ⟨sl, (hs.2 b (Nat.ne_of_lt (Nat.lt_of_lt_of_le (Heap.lt_size e) (I.ok.cab x c hfn hc)))).trans e1⟩
    · obtain ⟨o', e1⟩ := I.base.there b o e hx
      exact ⟨o', (hs.2 b (Nat.ne_of_lt (Nat.lt_of_lt_of_le (Heap.lt_size e) (I.ok.cab x c hfn hc)))).trans e1⟩
    · by_cases hj : j = i
      · subst hj
        rw [hi] at e1; cases e1
        rw [List.getElem?_set_self hiσ] at e2
        cases e2
        exact ⟨u, r, .inr ⟨.inl hk, c, hc, hc'⟩⟩
      · rw [List.getElem?_set_ne (Ne.symm hj)] at e2
        obtain ⟨u', r', q⟩ := hl j y v' e1 e2 e3
        refine ⟨u', r', ?_⟩
        rcases q with q | ⟨k, c', e, z'⟩
        · exact .inl q
        · refine .inr ⟨k, c', e, z'.sameBut hs ?_⟩
          rintro rfl
          exact hj (nodup_ix hN e1 (I.ok.inj _ _ _ e hc ▸ hi))
    · by_cases hcc : c' = c
      · subst hcc; exact ⟨_, hc'⟩
      · obtain ⟨w2, z2⟩ := I.cell y c' e
        exact ⟨w2, z2.sameBut hs hcc⟩
    · obtain ⟨e, n, ne, nf, d⟩ := I.pin p hp
      refine ⟨(hs.2 p.1 ?_).trans e, n, ne, nf, d⟩
      intro q
      rw [q, hoc] at e
      have q' : oc = p.2 := Option.some.inj e
      exact d w' (by rw [← q']; exact hocd)
theorem store_ok {M : Model} {A : Around} {E : Value → Shared → Prop} {i : Nat} {x : Str} {v : V} {u : Value} {Q : Unit → Shared → Prop} (I : Inv X pins σ H s) (hN : X.N.Nodup) (hi : X.N[i]? = some x) (hx : Loc X.env.scope x) (r : RelV v u)
  (h : ∀ s', Inv X pins (σ.set i (some v)) H s' → Q () s') (hf : X.fn x = true ∨ X.env.scope.names.lookup x = some .local := by first | exact .inl rfl | exact .inr rfl | assumption) : wpAny M A (storeName X.env x u) Q E s :=
 store_ok2 I hN hi hx r (fun s' I' _ => h s' I') hf
theorem Inv.call' {s' : Shared} {ch : List Addr} (I : Inv X pins σ H s) (ho : s'.os = s.os) (u : Un (frs X.stack) ch H H' s.heap s'.heap) (hok : HOk X.prog X.w H' s'.heap) (hg : AllBare s'.gens)
  (hch : ∀ b ∈ ch, (b ∈ X.ex ∨ X.s₀.heap.objs.size ≤ b) ∧ b ≠ X.env.locals ∧ (∀ x c, X.env.cells.lookup x = some c → c ≠ b) ∧ ∀ p ∈ X.pn ++ pins, p.1 ≠ b) : Inv X pins σ H' s' := by
 obtain ⟨h', g', d', t', o'⟩ := s'
 have e : o' = s.os := ho
 subst e
 exact I.call (g' := g') (t' := t') (d' := d') u hok hg hch
end
noncomputable abbrev XK := Value → Option Addr → Hp → Prop
noncomputable abbrev St := List (Option V)
noncomputable abbrev VK := V → Hp → Prop
noncomputable abbrev TE := St → Hp → VK → Prop
noncomputable abbrev TT := St → Hp → (Bool → Hp → Prop) → Prop
noncomputable abbrev TA := St → Hp → (List V → Hp → Prop) → Prop
structure Ends where
 nx : St → Hp → Prop
 rt : VK
 bk : St → Hp → Prop := fun _ _ => False
 ct : St → Hp → Prop := fun _ _ => False
noncomputable abbrev TS := Ends → St → Hp → Prop
noncomputable def EP (X : Cx) (pins : List (Addr × Obj)) (σ : St) (Q : VK) (u : Value) (s' : Shared) : Prop := ∃ v H', Inv X pins σ H' s' ∧ RelV v u ∧ Q v H'
noncomputable def TP (X : Cx) (pins : List (Addr × Obj)) (σ : St) (Q : Bool → Hp → Prop) (b : Bool) (s' : Shared) : Prop := ∃ H', Inv X pins σ H' s' ∧ Q b H'
noncomputable def AP (X : Cx) (pins : List (Addr × Obj)) (σ : St) (Q : List V → Hp → Prop) (us : List Value) (s' : Shared) : Prop := ∃ vs H', Inv X pins σ H' s' ∧ Vals vs us ∧ Q vs H'
noncomputable def SP (X : Cx) (pins : List (Addr × Obj)) (D : Ends) (f : Flow) (s' : Shared) : Prop :=
 match f with
 | .next => ∃ σ' H', Inv X pins σ' H' s' ∧ D.nx σ' H'
 | .brk => ∃ σ' H', Inv X pins σ' H' s' ∧ D.bk σ' H'
 | .cont => ∃ σ' H', Inv X pins σ' H' s' ∧ D.ct σ' H'
 | .ret u => ∃ v σ' H', Inv X pins σ' H' s' ∧ RelV v u ∧ D.rt v H'
noncomputable def PE (X : Cx) (e : Expr) (t : TE) : Prop :=
 ∀ (pins : List (Addr × Obj)) (s : Shared) (σ : St) (H : Hp) (Q : VK), Inv X pins σ H s → t σ H Q → wpAny (model X.prog X.w) X.A (eval e X.env) (EP X pins σ Q) X.xe s
noncomputable def PT (X : Cx) (e : Expr) (t : TT) : Prop :=
 ∀ (pins : List (Addr × Obj)) (s : Shared) (σ : St) (H : Hp) (Q : Bool → Hp → Prop), Inv X pins σ H s → t σ H Q → wpAny (model X.prog X.w) X.A (isTrue e X.env (eval e X.env)) (TP X pins σ Q) X.xe s
noncomputable def PW (X : Cx) (e : Expr) (t : TT) : Prop :=
 ∀ (whole : Sem Value) (pins : List (Addr × Obj)) (s : Shared) (σ : St) (H : Hp) (Q : Bool → Hp → Prop), Inv X pins σ H s → t σ H Q → wpAny (model X.prog X.w) X.A (isTrue e X.env whole) (TP X pins σ Q) X.xe s
theorem PW.pt {X : Cx} {e : Expr} {t : TT} (h : PW X e t) : PT X e t := h _
noncomputable def PA (X : Cx) (es : List Expr) (t : TA) : Prop :=
 ∀ (pos : Pos) (pins : List (Addr × Obj)) (s : Shared) (σ : St) (H : Hp) (Q : List V → Hp → Prop), Inv X pins σ H s → t σ H Q → wpAny (model X.prog X.w) X.A (spliced (backTo pos (starEach es X.env))) (AP X pins σ Q) X.xe s
noncomputable def PS (X : Cx) (st : Stmt) (t : TS) : Prop :=
 ∀ (pins : List (Addr × Obj)) (s : Shared) (σ : St) (H : Hp) (D : Ends), Inv X pins σ H s → t D σ H → wpAny (model X.prog X.w) X.A (exec st X.env) (SP X pins D) X.xe s
noncomputable def PSs (X : Cx) (st : List Stmt) (t : TS) : Prop :=
 ∀ (pins : List (Addr × Obj)) (s : Shared) (σ : St) (H : Hp) (D : Ends), Inv X pins σ H s → t D σ H → wpAny (model X.prog X.w) X.A (execs st X.env) (SP X pins D) X.xe s
theorem bZ {α : Type} {t : Sem α} {Q Q' : α → Shared → Prop} {M : Model} {A : Around} {E : Value → Shared → Prop} {s : Shared} (h : wpAny M A t Q E s) (hQ : ∀ a s, Q a s → Q' a s) : wpAny M A t Q' E s := wpAny_mono h hQ fun _ _ x => x
section
variable {X : Cx}
noncomputable def tVar (i : Nat) : TE := fun σ H Q => ∃ v, σ[i]? = some (some v) ∧ Q v H
noncomputable def tC (v : V) : TE := fun _ H Q => Q v H
theorem pe_var {i : Nat} {x : Str} {pos : Pos} (hN : X.N[i]? = some x) (hv : Vis X.env.scope x) (hd : (x == ("__debug__" : Str)) = false := by decide) (hcd : (x == ("__classdict__" : Str)) = false := by decide) : PE X (.Name x pos) (tVar i) := by
 intro pins s σ H Q I h
 obtain ⟨v, e, h⟩ := h
 obtain ⟨m, hn, hl⟩ := I.loc
 obtain ⟨u, r, l⟩ := hl i x v hN e hv
 have fin : EP X pins σ Q u s := ⟨v, H, I, r, h⟩
 rcases l with ⟨hk, hm⟩ | ⟨hk, c, hc, hcell⟩
 ·exact wpAny_Name (wpAny_loadName_local I.ok.kind hk hn hm fin) hd
 ·rcases hk with hk | hk
  ·exact wpAny_Name (wpAny_loadName_cell I.ok.kind hk hc hcell fin) hd
  ·exact wpAny_Name (wpAny_loadName_free I.ok.kind hk hc hcell fin hcd) hd
theorem aq {i j pos} : PE X (.Constant (.int i) j pos) (tC (.int i)) := fun _ _ _ H _ I h => wpAny_Constant_int ⟨.int i, H, I.tok _, ⟨_, rfl⟩, h⟩
theorem fj {b j pos} : PE X (.Constant (.bool b) j pos) (tC (.bl b)) := fun _ _ _ H _ I h => Constant_bool ⟨.bl b, H, I, rfl, h⟩
theorem iT {j pos} : PE X (.Constant .none j pos) (tC .non) := fun _ _ _ H _ I h => Constant_none ⟨.non, H, I, rfl, h⟩
theorem bJ {x j pos} : PE X (.Constant (.str x) j pos) (tC (.str x)) := fun _ _ _ H _ I h => Calls.Constant_str ⟨.str x, H, I.tok _, ⟨_, rfl⟩, h⟩
noncomputable def Gl (X : Cx) (x : Str) : Prop := X.env.kindOf x = some .globalImplicit
theorem ld_glob {E : Value → Shared → Prop} {pins : List (Addr × Obj)} {s : Shared} {σ : St} {H : Hp} {x : Str} {u : Value} {pos : Pos} {Q : Value → Shared → Prop} (I : Inv X pins σ H s) (hg : Gl X x) (hm : X.mg x = some u) (h : Q u s)
  (hd : (x == ("__debug__" : Str)) = false := by decide) : wpAny (model X.prog X.w) X.A (eval (.Name x pos) X.env) Q E s :=
 Calls.Name_function_global I.ok.kind hg (Calls.loadGlobal_global (by rw [I.ok.glob]; exact I.mod.glob.keeps I.bk) hm h) hd
theorem ld_blt {E : Value → Shared → Prop} {pins : List (Addr × Obj)} {s : Shared} {σ : St} {H : Hp} {x : Str} {u : Value} {pos : Pos} {Q : Value → Shared → Prop} (I : Inv X pins σ H s) (hg : Gl X x) (hm : X.mg x = none) (hv : bootBuiltins x = some u) (h : Q u s)
  (hn : x ≠ "__name__" := by decide) (hd : (x == ("__debug__" : Str)) = false := by decide) : wpAny (model X.prog X.w) X.A (eval (.Name x pos) X.env) Q E s := by
 obtain ⟨mb, h1, h2⟩ := I.mod.blt
 exact Calls.Name_function_global I.ok.kind hg (Calls.loadGlobal_builtin (by rw [I.ok.glob]; exact I.mod.glob.keeps I.bk) hm (by rw [I.ok.blt]; exact h1.keeps I.bk) ((h2 x hn).trans hv) h) hd
theorem bR {x : Str} {v : V} {u : Value} {pos : Pos} (hg : Gl X x) (hm : X.mg x = some u) (r : RelV v u) (hd : (x == ("__debug__" : Str)) = false := by decide) : PE X (.Name x pos) (tC v) :=
 fun _ _ _ H _ I h => ld_glob I hg hm ⟨v, H, I, r, h⟩ hd
theorem pe_bltn {x : Str} {v : V} {u : Value} {pos : Pos} (hg : Gl X x) (hm : X.mg x = none) (hv : bootBuiltins x = some u) (r : RelV v u) (hn : x ≠ "__name__" := by decide) (hd : (x == ("__debug__" : Str)) = false := by decide) : PE X (.Name x pos) (tC v) :=
 fun _ _ _ H _ I h => ld_blt I hg hm hv ⟨v, H, I, r, h⟩ hn hd
variable {a b : Expr} {ta tb : TE} {pos : Pos}
noncomputable def PC (X : Cx) (op : CmpOp) (a b : Expr) (t : TE) : Prop :=
 ∀ (pins : List (Addr × Obj)) (s : Shared) (σ : St) (H : Hp) (Q : VK), Inv X pins σ H s → t σ H Q →
  wpAny (model X.prog X.w) X.A (eval a X.env) (fun v s₁ => wpAny (model X.prog X.w) X.A (eval b X.env) (fun u s₂ => wpAny (model X.prog X.w) X.A (compareOp op v u) (EP X pins σ Q) X.xe s₂) X.xe s₁) X.xe s
theorem nobehind (b : Expr) {op : CmpOp} (h : op ≠ .In) (h2 : op ≠ .NotIn) : behindInMarks op b = false := by
 have e1 : (op == CmpOp.In) = false := by cases op <;> first | rfl | exact absurd rfl h
 have e2 : (op == CmpOp.NotIn) = false := by cases op <;> first | rfl | exact absurd rfl h2
 cases b <;> simp [behindInMarks, e1, e2]
noncomputable def tNotN (ta : TE) : TE := fun σ H Q => ta σ H fun x H1 => Q (.bl (!decide (x = .non))) H1
theorem RelV.none_iff {x : V} {v : Value} (r : RelV x v) : (v == Value.none) = decide (x = .non) := by
 cases x with
 | non => cases r; rfl
 | bl _ => cases r; rfl
 | int _ => obtain ⟨t, rfl⟩ := r; rfl
 | str _ => obtain ⟨t, rfl⟩ := r; rfl
 | byt _ => obtain ⟨t, rfl⟩ := r; rfl
 | flt _ => obtain ⟨t, rfl⟩ := r; rfl
 | ref _ => cases r; rfl
 | ty _ => cases r; rfl
theorem pc_notN {j pos'} (ha : PE X a ta) : PC X .IsNot a (.Constant .none j pos') (tNotN ta) := by
 intro pins s σ H Q I h
 refine bZ (ha pins s σ H _ I h) fun v s1 ⟨x, H1, I1, r1, q1⟩ => ?_
 exact Constant_none (isnot_none_gen ⟨.bl _, H1, I1, by rw [r1.none_iff]; rfl, q1⟩)
noncomputable def tB (t : TE) : TT := fun σ H Q => t σ H fun x H1 => ∃ c, x = .bl c ∧ Q c H1
theorem pt_cmp {op : CmpOp} {t : TE} (h : PC X op a b t) (h1 : behindInMarks op b = false := by first | exact nobehind _ (by decide) (by decide) | rfl) : PT X (.Compare a [op] [b] pos) (tB t) := by
 intro pins s σ H Q I hw
 refine wpAny_isTrue_Compare1 (bZ (h pins s σ H _ I hw) fun v s1 h1 => bZ h1 fun u s2 h2 => bZ h2 fun c s3 ⟨x, H1, I1, r1, q1⟩ => ?_) h1
 obtain ⟨d, rfl, q⟩ := q1
 cases r1
 exact wpAny_truthy_bool ⟨H1, I1, q⟩
theorem bH {e : Expr} {t : TE} (h : PE X e t) (he : ∀ whole, isTrue e X.env whole = (do let v ← whole; standAt e.pos; holding [v] (truthy v)) := by intro _; rfl) : PT X e (tB t) := by
 intro pins s σ H Q I hw
 refine isTrue_plain (bZ (h pins s σ H _ I hw) fun v s1 ⟨x, H1, I1, r1, q1⟩ => ?_) (he _)
 obtain ⟨d, rfl, q⟩ := q1
 cases r1
 exact wpAny_truthy_bool ⟨H1, I1, q⟩
variable {tA tB' : TT} {rest : List Expr}
noncomputable def tAnd (t u : TT) : TT := fun σ H Q => t σ H fun c H1 => if c = true then u σ H1 Q else Q false H1
noncomputable def tOr (t u : TT) : TT := fun σ H Q => t σ H fun c H1 => if c = true then Q true H1 else u σ H1 Q
noncomputable def tNot (t : TT) : TT := fun σ H Q => t σ H fun c H1 => Q (!c) H1
theorem pw_and1 (ha : PT X a tA) : PW X (.BoolOp .And [a] pos) tA := by
 intro wh pins s σ H Q I h
 refine isTrue_and (bZ (ha pins s σ H Q I h) fun c s1 e => ?_)
 cases c with
 | true => exact isTrue_and_nil e
 | false => exact e
theorem gQ (ha : PT X a tA) : PW X (.BoolOp .Or [a] pos) tA := by
 intro wh pins s σ H Q I h
 refine isTrue_or (bZ (ha pins s σ H Q I h) fun c s1 e => ?_)
 cases c with
 | false => exact isTrue_or_nil e
 | true => exact e
theorem pw_and (ha : PT X a tA) (hb : PW X (.BoolOp .And (b :: rest) pos) tB') : PW X (.BoolOp .And (a :: b :: rest) pos) (tAnd tA tB') := by
 intro wh pins s σ H Q I h
 refine isTrue_and (bZ (ha pins s σ H _ I h) fun c s1 ⟨H1, I1, q1⟩ => ?_)
 cases c with
 | true => exact hb wh pins s1 σ H1 Q I1 q1
 | false => exact ⟨H1, I1, q1⟩
theorem iw (ha : PT X a tA) (hb : PW X (.BoolOp .Or (b :: rest) pos) tB') : PW X (.BoolOp .Or (a :: b :: rest) pos) (tOr tA tB') := by
 intro wh pins s σ H Q I h
 refine isTrue_or (bZ (ha pins s σ H _ I h) fun c s1 ⟨H1, I1, q1⟩ => ?_)
 cases c with
 | true => exact ⟨H1, I1, q1⟩
 | false => exact hb wh pins s1 σ H1 Q I1 q1
theorem bW (ha : PT X a tA) : PT X (.UnaryOp .Not a pos) (tNot tA) := by
 intro pins s σ H Q I h
 exact isTrue_not (ha pins s σ H (fun c H1 => Q (!c) H1) I h)
noncomputable def tAndV (ta tb : TE) : TE := fun σ H Q => ta σ H fun x H1 => ∃ c, x = .bl c ∧ if c = true then tb σ H1 Q else Q (.bl false) H1
noncomputable def tNotV (ta : TE) : TE := fun σ H Q => ta σ H fun x H1 => ∃ c, x = .bl c ∧ Q (.bl (!c)) H1
theorem pe_one {op} {t : TE} (h : PE X a t) : PE X (.BoolOp op [a] pos) t := fun pins s σ H Q I hw => BoolOp_one (h pins s σ H Q I hw)
theorem pe_and (ha : PE X a ta) (hb : PE X (.BoolOp .And (b :: rest) pos) tb) : PE X (.BoolOp .And (a :: b :: rest) pos) (tAndV ta tb) := by
 intro pins s σ H Q I h
 refine BoolOp_and (bZ (ha pins s σ H _ I h) fun v s1 ⟨x, H1, I1, r1, q1⟩ => ?_)
 obtain ⟨c, rfl, q1⟩ := q1
 cases r1
 refine wpAny_truthy_bool ?_
 cases c with
 | true => exact hb pins s1 σ H1 Q I1 q1
 | false => exact ⟨.bl false, H1, I1, rfl, q1⟩
theorem pe_not (ha : PE X a ta) : PE X (.UnaryOp .Not a pos) (tNotV ta) := by
 intro pins s σ H Q I h
 refine UnaryOp_ (bZ (ha pins s σ H _ I h) fun v s1 ⟨x, H1, I1, r1, q1⟩ => ?_)
 obtain ⟨c, rfl, q1⟩ := q1
 cases r1
 exact not_of (wpAny_truthy_bool ⟨.bl (!c), H1, I1, rfl, q1⟩)
noncomputable def tIf (t : TT) (ta tb : TE) : TE := fun σ H Q => t σ H fun c H1 => if c = true then ta σ H1 Q else tb σ H1 Q
theorem pe_ifExp {c : Expr} (hc : PT X c tA) (ha : PE X a ta) (hb : PE X b tb) : PE X (.IfExp c a b pos) (tIf tA ta tb) := by
 intro pins s σ H Q I h
 refine wpAny_IfExp (bZ (hc pins s σ H _ I h) fun d s1 ⟨H1, I1, q1⟩ => ?_)
 cases d with
 | true => exact ha pins s1 σ H1 Q I1 q1
 | false => exact hb pins s1 σ H1 Q I1 q1
end
noncomputable def aU (K : PySem.W.Frag) (H : Hp) (a : Addr) (xs : List V) : Prop :=
 Rd H a (.lst xs) ∨
  ∃ (o : Obj) (its : Array Value) (n : Nat), K.lookup a = some o ∧ o.cls = .type "list" ∧ o.dict = none ∧ o.data = .seq its n ∧ its.size ≤ sizeLine ∧ Vals xs its.toList
noncomputable def dC (K : PySem.W.Frag) (H : Hp) (a : Addr) (xs : List V) : Prop :=
 Rd H a (.tup xs) ∨
  ∃ (o : Obj) (its : Array Value) (n : Nat), K.lookup a = some o ∧ o.cls = .type "tuple" ∧ o.data = .seq its n ∧ its.size ≤ sizeLine ∧ Vals xs its.toList
noncomputable def absV : Value → Option V
 | .none => some .non
 | .bool b => some (.bl b)
 | .int i _ => some (.int i)
 | .str x _ => some (.str x)
 | .bytes b _ => some (.byt b)
 | .float b _ => some (.flt b)
 | .ref a => some (.ref a)
 | .type n => some (.ty n)
 | _ => none
theorem RelV.abs {x : V} {u : Value} (r : RelV x u) : absV u = some x := by
 cases x with
 | non => cases r; rfl
 | bl _ => cases r; rfl
 | int _ => obtain ⟨t, rfl⟩ := r; rfl
 | str _ => obtain ⟨t, rfl⟩ := r; rfl
 | byt _ => obtain ⟨t, rfl⟩ := r; rfl
 | flt _ => obtain ⟨t, rfl⟩ := r; rfl
 | ref _ => cases r; rfl
 | ty _ => cases r; rfl
theorem RelV.inj {x y : V} {u : Value} (r : RelV x u) (q : RelV y u) : x = y := Option.some.inj (r.abs.symm.trans q.abs)
theorem Vals.inj : ∀ {xs ys : List V} {us : List Value}, Vals xs us → Vals ys us → xs = ys
 | _, _, _, .nil, .nil => rfl
 | _, _, _, .cons r t, .cons r' t' => by rw [r.inj r', Vals.inj t t']
section
variable {X : Cx} {pins : List (Addr × Obj)} {σ : St} {H : Hp} {s : Shared} {a : Addr} {xs ys : List V}
theorem aU.of {K : PySem.W.Frag} (h : H a = some (.lst xs)) : aU K H a xs := .inl (.inl h)
theorem dC.of {K : PySem.W.Frag} (h : H a = some (.tup xs)) : dC K H a xs := .inl (.inl h)
theorem Inv.list (I : Inv X pins σ H s) (h : aU X.K H a xs) : ∃ its : List Value, Vals xs its ∧ PlainL s.heap a its.toArray ∧ xs.length ≤ sizeLine := by
 rcases h with h | ⟨o, its, n, hk, hc, hd, hs, hz, r⟩
 ·obtain ⟨z, its, n, r, e⟩ := h.ok I.hok
  exact ⟨its, r, ⟨_, n, e, rfl, rfl, rfl⟩, z⟩
 ·refine ⟨its.toList, r, ⟨o, n, I.kIn a o hk, hc, hd, by simpa using hs⟩, ?_⟩
  have e := r.length
  simp only [Array.length_toList] at e
  omega
theorem Inv.tuple (I : Inv X pins σ H s) (h : dC X.K H a xs) : ∃ its : List Value, Vals xs its ∧ IsTup s.heap a its.toArray ∧ xs.length ≤ sizeLine := by
 rcases h with h | ⟨o, its, n, hk, hc, hs, hz, r⟩
 ·obtain ⟨z, its, r, p⟩ := h.ok I.hok
  exact ⟨its, r, p, z⟩
 ·refine ⟨its.toList, r, ⟨o, I.kIn a o hk, hc, n, by simpa using hs⟩, ?_⟩
  have e := r.length
  simp only [Array.length_toList] at e
  omega
theorem Inv.list_inj (I : Inv X pins σ H s) (h : aU X.K H a xs) (h' : aU X.K H a ys) : xs = ys := by
 obtain ⟨its, r, ⟨o, n, e, _, _, d⟩, _⟩ := I.list h
 obtain ⟨its', r', ⟨o', n', e', _, _, d'⟩, _⟩ := I.list h'
 rw [e] at e'; cases e'
 rw [d] at d'
 injection d' with d1 _
 have : its = its' := by simpa using congrArg Array.toList d1
 subst this
 exact r.inj r'
theorem Inv.tuple_inj (I : Inv X pins σ H s) (h : dC X.K H a xs) (h' : dC X.K H a ys) : xs = ys := by
 obtain ⟨its, r, ⟨o, e, _, n, d⟩, _⟩ := I.tuple h
 obtain ⟨its', r', ⟨o', e', _, n', d'⟩, _⟩ := I.tuple h'
 rw [e] at e'; cases e'
 rw [d] at d'
 injection d' with d1 _
 have : its = its' := by simpa using congrArg Array.toList d1
 subst this
 exact r.inj r'
end
noncomputable abbrev Cx.wish (X : Cx) (E : Value → Shared → Prop) : Cx := { X with xe := E }
noncomputable abbrev Cx.nox (X : Cx) : Cx := X.wish fun _ _ => False
theorem Cx.Ok.wish {X : Cx} (ok : X.Ok) (E : Value → Shared → Prop) : (X.wish E).Ok :=
 ⟨ok.mod, ok.kind, ok.glob, ok.blt, ok.above, ok.inj, ok.has, ok.cab, ok.hd, ok.frames, ok.stk, ok.exf, ok.bs, ok.bsz, ok.noex, ok.exfs, ok.funs, ok.frf⟩
theorem Cx.Ok.unwish {X : Cx} {E : Value → Shared → Prop} (ok : (X.wish E).Ok) : X.Ok :=
 ⟨ok.mod, ok.kind, ok.glob, ok.blt, ok.above, ok.inj, ok.has, ok.cab, ok.hd, ok.frames, ok.stk, ok.exf, ok.bs, ok.bsz, ok.noex, ok.exfs, ok.funs, ok.frf⟩
section
variable {X : Cx} {pins : List (Addr × Obj)} {σ : St} {H : Hp} {s : Shared} {E : Value → Shared → Prop}
theorem Inv.wish (I : Inv X pins σ H s) (E : Value → Shared → Prop) : Inv (X.wish E) pins σ H s := ⟨I.ok.wish E, I.os, I.bare, I.base, I.loc, I.cell, I.free, I.freeC, I.pin, I.hok, I.len⟩
theorem Inv.unwish (I : Inv (X.wish E) pins σ H s) : Inv X pins σ H s := ⟨I.ok.unwish, I.os, I.bare, I.base, I.loc, I.cell, I.free, I.freeC, I.pin, I.hok, I.len⟩
theorem SP.unwish {D : Ends} {f : Flow} {s' : Shared} (h : SP (X.wish E) pins D f s') : SP X pins D f s' := by
 cases f with
 | next => obtain ⟨σ', H', I, q⟩ := h; exact ⟨σ', H', I.unwish, q⟩
 | brk => obtain ⟨σ', H', I, q⟩ := h; exact ⟨σ', H', I.unwish, q⟩
 | cont => obtain ⟨σ', H', I, q⟩ := h; exact ⟨σ', H', I.unwish, q⟩
 | ret u => obtain ⟨v, σ', H', I, r, q⟩ := h; exact ⟨v, σ', H', I.unwish, r, q⟩
theorem PSs.nox {st : List Stmt} {t : TS} (h : PSs X.nox st t) : PSs X st t := fun pins s σ H D I hw =>
 wpAny_mono (h pins s σ H D (I.wish _) hw) (fun _ _ q => q.unwish) fun _ _ z => False.elim z
end
section
variable {X : Cx} {st : Stmt} {rest : List Stmt} {t u : TS} {e : Expr} {te : TE} {pos : Pos}
noncomputable def tNext : TS := fun D σ H => D.nx σ H
noncomputable def tSeq (t u : TS) : TS := fun D σ H => t { D with nx := u D } σ H
theorem aV : PSs X [] tNext := fun _ _ σ H _ I h => wpAny_execs_nil ⟨σ, H, I, h⟩
theorem au (h1 : PS X st t) (h2 : PSs X rest u) : PSs X (st :: rest) (tSeq t u) := by
 intro pins s σ H D I h
 refine wpAny_execs_cons (bZ (h1 pins s σ H { D with nx := u D } I h) fun f s1 q => ?_)
 cases f with
 | next =>
  obtain ⟨σ', H', I', q⟩ := q
  exact h2 pins s1 σ' H' D I' q
 | ret v => exact q
 | brk => exact q
 | cont => exact q
theorem aA (h1 : PS X st t) : PSs X [st] t := by
 intro pins s σ H D I h
 refine wpAny_execs_cons (bZ (h1 pins s σ H D I h) fun f s1 q => ?_)
 cases f with
 | next => exact wpAny_execs_nil q
 | ret v => exact q
 | brk => exact q
 | cont => exact q
theorem Inv.quiet {pins : List (Addr × Obj)} {σ : St} {H : Hp} {s : Shared} (I : Inv X pins σ H s) : interactive X.env = false := by simp [interactive, I.ok.kind]
noncomputable def tDrop (te : TE) : TS := fun D σ H => te σ H fun _ H1 => D.nx σ H1
theorem cz (he : PE X e te) (hs : swapsWith e none pos.line X.env = pure false := by rfl) : PS X (.Expr e pos) (tDrop te) := by
 intro pins s σ H D I h
 exact wpAny_Expr_any (bZ (he pins s σ H _ I h) fun v s1 ⟨x, H1, I1, r1, q1⟩ => ⟨σ, H1, I1, q1⟩) I.quiet hs
noncomputable def tRet (te : TE) : TS := fun D σ H => te σ H D.rt
theorem aM (he : PE X e te) : PS X (.Return (some e) pos) (tRet te) := by
 intro pins s σ H D I h
 exact wpAny_Return_some (bZ (he pins s σ H _ I h) fun v s1 ⟨x, H1, I1, r1, q1⟩ => ⟨x, σ, H1, I1, r1, q1⟩)
noncomputable def tIfS (c : TT) (t u : TS) : TS := fun D σ H => c σ H fun b H1 => if b = true then t D σ H1 else u D σ H1
theorem bK {c : Expr} {a b : List Stmt} {tc : TT} (hc : PT X c tc) (ha : PSs X a t) (hb : PSs X b u) : PS X (.If c a b pos) (tIfS tc t u) := by
 intro pins s σ H D I h
 refine wpAny_If (bZ (hc pins s σ H _ I h) fun d s1 ⟨H1, I1, q1⟩ => ?_)
 cases d with
 | true => exact ha pins s1 σ H1 D I1 q1
 | false => exact hb pins s1 σ H1 D I1 q1
end
noncomputable abbrev TG := V → St → Hp → (St → Hp → Prop) → Prop
noncomputable abbrev TGs := List V → St → Hp → (St → Hp → Prop) → Prop
noncomputable def PG (X : Cx) (target : Expr) (t : TG) : Prop :=
 ∀ (pins : List (Addr × Obj)) (s : Shared) (σ : St) (H : Hp) (v : V) (u : Value) (Q : St → Hp → Prop), Inv X pins σ H s → RelV v u → t v σ H Q →
  wpAny (model X.prog X.w) X.A (assign target X.env u) (fun _ s' => ∃ σ' H', Inv X pins σ' H' s' ∧ Q σ' H') X.xe s
noncomputable def PGs (X : Cx) (ts : List Expr) (t : TGs) : Prop :=
 ∀ (pins : List (Addr × Obj)) (s : Shared) (σ : St) (H : Hp) (vs : List V) (us : List Value) (Q : St → Hp → Prop), Inv X pins σ H s → Vals vs us → t vs σ H Q →
  wpAny (model X.prog X.w) X.A (assignInOrder ((assignEach ts X.env).map (·.2)) us) (fun _ s' => ∃ σ' H', Inv X pins σ' H' s' ∧ Q σ' H') X.xe s
noncomputable abbrev TSet := V → V → V → Hp → (Hp → Prop) → Prop
noncomputable def PSet (X : Cx) (t : TSet) : Prop :=
 ∀ (pins : List (Addr × Obj)) (s : Shared) (σ : St) (H : Hp) (o i v : V) (ov iv u : Value) (Q : Hp → Prop), Inv X pins σ H s → RelV o ov → RelV i iv → RelV v u → t o i v H Q →
  wpAny (model X.prog X.w) X.A (setItem ov iv u) (fun _ s' => ∃ H', Inv X pins σ H' s' ∧ Q H') X.xe s
section
variable {X : Cx} {pos : Pos}
noncomputable def dG (i : Nat) : TG := fun v σ H Q => Q (σ.set i (some v)) H
theorem aP {i : Nat} {x : Str} (hN : X.N.Nodup) (hi : X.N[i]? = some x) (hx : Loc X.env.scope x) (hf : X.fn x = true ∨ X.env.scope.names.lookup x = some .local := by first | exact .inl rfl | exact .inr rfl | assumption) : PG X (.Name x pos) (dG i) := by
 intro pins s σ H v u Q I r h
 exact wpAny_assign_Name (store_ok I hN hi hx r (fun s' I' => ⟨_, H, I', h⟩) hf)
noncomputable def gNil : TGs := fun vs σ H Q => vs = [] ∧ Q σ H
noncomputable def gCons (t : TG) (u : TGs) : TGs := fun vs σ H Q => ∃ v r, vs = v :: r ∧ t v σ H fun σ' H' => u r σ' H' Q
theorem pgs_nil : PGs X [] gNil := by
 intro pins s σ H vs us Q I r h
 obtain ⟨e, h⟩ := h
 subst e
 cases r
 exact assignInOrder_nil ⟨σ, H, I, h⟩
theorem jb {e : Expr} {es : List Expr} {t : TG} {u : TGs} (h1 : PG X e t) (h2 : PGs X es u)
  (hs : (assignEach (e :: es) X.env).map (·.2) = assign e X.env :: (assignEach es X.env).map (·.2) := by rfl) : PGs X (e :: es) (gCons t u) := by
 intro pins s σ H vs us Q I r h
 obtain ⟨v, vr, e1, h⟩ := h
 subst e1
 cases r with
 | cons r rr =>
  rw [hs]
  refine assignInOrder_cons (bZ (h1 pins s σ H _ _ _ I r h) fun _ s1 ⟨σ1, H1, I1, q1⟩ => ?_)
  exact h2 pins s1 σ1 H1 _ _ Q I1 rr q1
noncomputable def gTup (K : PySem.W.Frag) (n : Nat) (t : TGs) : TG := fun v σ H Q => ∃ a xs, v = .ref a ∧ dC K H a xs ∧ xs.length = n ∧ t xs σ H Q
theorem pg_tup {es : List Expr} {k : Nat} {t : TGs} {n : Nat} (hc : X.calm = true) (h : PGs X es t)
  (hn : (assignEach es X.env).length = n := by rfl) (hst : (assignEach es X.env).findIdx? (·.1) = none := by rfl) : PG X (.Tuple es k pos) (gTup X.K n t) := by
 intro pins s σ H v u Q I r hw
 obtain ⟨a, xs, e1, hq, hl, hw⟩ := hw
 subst e1
 cases r
 obtain ⟨its, rv, ht, hz⟩ := I.tuple hq
 refine assign_Tuple_tuple (I.ok.hd hc) ht (by simp [hn, ← hl, rv.length]) hst fun h' hx => ?_
 have I1 : Inv X pins σ H { s with heap := h' } := I.kept (t' := s.toks) fun b o e => hx b o (Nat.ne_of_lt (Heap.lt_size e)) e
 exact h pins _ σ H xs _ Q I1 (by simpa using rv) hw
noncomputable def gSub (to ti : TE) (t : TSet) : TG := fun v σ H Q => to σ H fun o H1 => ti σ H1 fun i H2 => t o i v H2 fun H3 => Q σ H3
theorem pg_sub {o i : Expr} {to ti : TE} {t : TSet} (ho : PE X o to) (hi : PE X i ti) (hs : PSet X t)
  (ha : ∀ v, assign (.Subscript o i pos) X.env v = (do
   let ov ← holding [v] (eval o X.env)
   let iv ← holding [v, ov] (eval i X.env)
   standAt pos
   holding [v, ov, iv] (setItem ov iv v)
   release [v, ov, iv] []) := by intro _; rfl) : PG X (.Subscript o i pos) (gSub to ti t) := by
 intro pins s σ H v u Q I r h
 rw [ha]
 refine wpAny_bind (wpAny_holding (bZ (ho pins s σ H _ I h) fun ov s1 ⟨x, H1, I1, r1, q1⟩ => ?_))
 refine wpAny_bind (wpAny_holding (bZ (hi pins s1 σ H1 _ I1 q1) fun iv s2 ⟨y, H2, I2, r2, q2⟩ => ?_))
 refine wpAny_bind (wpAny_standAt (wpAny_bind (wpAny_holding (bZ (hs pins s2 σ H2 x y v ov iv u _ I2 r1 r2 r q2) fun _ s3 ⟨H3, I3, q3⟩ => ?_))))
 exact wpAny_release ⟨σ, H3, I3, q3⟩
noncomputable def tAsg (te : TE) (g : TG) : TS := fun D σ H => te σ H fun x H1 => g x σ H1 D.nx
theorem ps_asg {tg e : Expr} {te : TE} {g : TG} (he : PE X e te) (hg : PG X tg g) (hs : swapsWithSole [tg] e pos.line X.env = pure false := by rfl) (hw : swappedStores [tg] e X.env = pure none := by rfl)
  (h1 : (assignEach [tg] X.env).map (·.2) = [assign tg X.env] := by rfl) : PS X (.Assign [tg] e pos) (tAsg te g) := by
 intro pins s σ H D I h
 refine wpAny_Assign_stores (bZ (he pins s σ H _ I h) fun v s1 ⟨x, H1, I1, r1, q1⟩ => ?_) hs hw
 rw [h1]
 exact bZ (hg pins s1 σ H1 x v _ I1 r1 q1) fun _ s2 q => q
theorem aQ {i : Nat} {x : Str} {e : Expr} {te : TE} {pos' : Pos} (hN : X.N.Nodup) (hi : X.N[i]? = some x) (hx : Loc X.env.scope x) (he : PE X e te) (hs : swapsWith e (some (.Name x pos')) pos.line X.env = pure false := by rfl) (hf : X.fn x = true ∨ X.env.scope.names.lookup x = some .local := by first | exact .inl rfl | exact .inr rfl | assumption) :
  PS X (.Assign [.Name x pos'] e pos) (tAsg te (dG i)) := by
 intro pins s σ H D I h
 refine wpAny_Assign_Name (bZ (he pins s σ H _ I h) fun v s1 ⟨y, H1, I1, r1, q1⟩ => ?_) hs
 exact store_ok I1 hN hi hx r1 (fun s2 I2 => ⟨_, H1, I2, q1⟩) hf
end
structure It where
 go : Nat → Hp → Prop
 yld : Nat → Hp → V → Hp → Prop
 stop : Nat → Hp → Prop
noncomputable def FpOk (X : Cx) (pins : List (Addr × Obj)) (H : Hp) (b : Addr) : Prop :=
 H b = none ∧ b ≠ X.env.locals ∧ b ∉ X.fs ∧ (b ∈ X.ex ∨ X.s₀.heap.objs.size ≤ b) ∧ (∀ x c, X.env.cells.lookup x = some c → c ≠ b) ∧ ∀ p ∈ X.pn ++ pins, p.1 ≠ b
theorem Inv.fpOk {X : Cx} {pins : List (Addr × Obj)} {σ : St} {H H' : Hp} {s : Shared} {b : Addr} (I : Inv X pins σ H s) (hb : s.heap.objs.size ≤ b) (hn : H' b = none) : FpOk X pins H' b := by
 refine ⟨hn, Nat.ne_of_gt (Nat.lt_of_lt_of_le I.lt hb), I.nofs hb, .inr (Nat.le_trans I.sz hb), fun x c e z => ?_, fun p hp z => ?_⟩
 ·obtain ⟨v, q⟩ := I.cell x c e
  exact absurd (Nat.lt_of_lt_of_le q.lt (by rw [z]; exact hb)) (Nat.lt_irrefl _)
 ·exact absurd (Nat.lt_of_lt_of_le (Heap.lt_size (I.pin p hp).1) (by rw [z]; exact hb)) (Nat.lt_irrefl _)
structure Turn (P : Program) (w : World) (K : PySem.W.Frag) (tg : Expr) (J : It) (fp : List Addr) (it : Addr) (tn : Nat → Heap → Prop) : Prop where
 mem : it ∈ fp
 obj : ∀ i h, tn i h → ∀ b ∈ fp, ∃ o, h.get? b = some o ∧ ∀ v, o.data ≠ .cell v
 keep : ∀ i h h', tn i h → (∀ b ∈ fp, ∀ o, h.get? b = some o → h'.get? b = some o) → tn i h'
 item : ∀ (X : Cx), X.prog = P → X.w = w → X.K = K → X.calm = true → ∀ (i : Nat) (pins : List (Addr × Obj)) (s : Shared) (σ : St) (H : Hp) (E : Value → Shared → Prop), Inv X pins σ H s → (∀ b ∈ fp, FpOk X pins H b) → tn i s.heap → J.go i H →
  wpAny (model P w) X.A (pyNext (.ref it)) (fun r s1 => ∃ u, r = some u ∧
   wpAny (model P w) X.A (letOwnedTupleGo tg (.ref it) u) (fun _ s2 => ∃ x H', Inv X pins σ H' s2 ∧ RelV x u ∧ J.yld i H x H' ∧ tn (i + 1) s2.heap ∧ ∀ b ∈ fp, H' b = none) E s1) E s
 done : ∀ (X : Cx), X.prog = P → X.w = w → X.K = K → X.calm = true → ∀ (i : Nat) (pins : List (Addr × Obj)) (s : Shared) (σ : St) (H : Hp) (E : Value → Shared → Prop), Inv X pins σ H s → (∀ b ∈ fp, FpOk X pins H b) → tn i s.heap → J.stop i H →
  wpAny (model P w) X.A (pyNext (.ref it)) (fun r s1 => r = none ∧ Inv X pins σ H s1) E s
 self : ∀ (A : Around) (i : Nat) (s : Shared) (Q : Value → Shared → Prop) (E : Value → Shared → Prop), tn i s.heap → Q (.ref it) s → wpAny (model P w) A (pyIter (.ref it)) Q E s
noncomputable abbrev TI := St → Hp → (It → Hp → Prop) → Prop
noncomputable def PIE (X : Cx) (pins : List (Addr × Obj)) (σ : St) (tg : Expr) (R : It → Hp → Prop) (itv : Value) (s2 : Shared) : Prop :=
 ∃ (it : Addr) (fp : List Addr) (tn : Nat → Heap → Prop) (J : It) (H' : Hp), itv = .ref it ∧ Inv X pins σ H' s2 ∧ Turn X.prog X.w X.K tg J fp it tn ∧ tn 0 s2.heap ∧ (∀ b ∈ fp, FpOk X pins H' b) ∧ R J H'
noncomputable def PI (X : Cx) (tg iter : Expr) (wi : TI) : Prop :=
 ∀ (pins : List (Addr × Obj)) (s : Shared) (σ : St) (H : Hp) (R : It → Hp → Prop), Inv X pins σ H s → wi σ H R →
  wpAny (model X.prog X.w) X.A (eval iter X.env) (fun v s1 => wpAny (model X.prog X.w) X.A (pyIter v) (PIE X pins σ tg R) X.xe s1) X.xe s
theorem go_of {M : Model} {A : Around} {E : Value → Shared → Prop} {s : Shared} {tg : Expr} {it : Addr} {u : Value} {o : Obj} {n : String} {vs : Array Value} {Q : Unit → Shared → Prop} (ho : s.heap.get? it = some o) (hc : o.cls = .type n) (hd : o.data = .fields vs)
    (hn : ["enumerate", "zip", "dict_itemiterator", "dict_reverseitemiterator", "odict_iterator", "itertools.zip_longest", "itertools.pairwise"].contains n = false) (hQ : Q () s) : wpAny M A (letOwnedTupleGo tg (.ref it) u) Q E s := by
  unfold letOwnedTupleGo
  cases tg <;> first
    | exact wpAny_pure hQ
    | (cases u <;> first
        | exact wpAny_pure hQ
        | (refine wpAny_bind (wpAny_load ho ?_)
           rw [hc, hd]
           show wpAny M A (if (["enumerate", "zip", "dict_itemiterator", "dict_reverseitemiterator", "odict_iterator", "itertools.zip_longest", "itertools.pairwise"].contains n && vs[0]? == some (rawInt _)) = true then _ else _) Q E s
           rw [if_neg (by intro h; rw [hn, Bool.false_and] at h; cases h)]
           exact wpAny_pure hQ))
noncomputable def Itl (K : PySem.W.Frag) (a : Addr) : It :=
 ⟨fun i H => ∃ xs x, aU K H a xs ∧ xs[i]? = some x, fun i H x H' => H' = H ∧ ∀ xs, aU K H a xs → xs[i]? = some x, fun i H => ∃ xs, aU K H a xs ∧ xs.length ≤ i⟩
noncomputable def Itt (K : PySem.W.Frag) (a : Addr) : It :=
 ⟨fun i H => ∃ xs x, dC K H a xs ∧ xs[i]? = some x, fun i H x H' => H' = H ∧ ∀ xs, dC K H a xs → xs[i]? = some x, fun i H => ∃ xs, dC K H a xs ∧ xs.length ≤ i⟩
noncomputable def Itr (lo : Int) (n : Nat) : It := ⟨fun i _ => i < n, fun i H x H' => H' = H ∧ x = .int (lo + i), fun i _ => n ≤ i⟩
theorem turn_list {P : Program} {w : World} {K : PySem.W.Frag} {tg : Expr} (a it : Addr) : Turn P w K tg (Itl K a) [it] it (fun i h => h.IsListIter it a i) where
 mem := by simp
 obj := fun i h st b hb => by
  have e : b = it := by simpa using hb
  subst e
  obtain ⟨o, e, c, d⟩ := st
  exact ⟨o, e, fun v z => by rw [d] at z; cases z⟩
 keep := fun i h h' st k => st.at fun o e => k it (by simp) o e
 item := by
  intro X hP hw hK hc i pins s σ H E I hf st hg
  subst hP hw hK
  obtain ⟨xs, x, hq, hx⟩ := hg
  obtain ⟨its, rv, p, hz⟩ := I.list hq
  obtain ⟨u, hu, ru⟩ := rv.get hx
  obtain ⟨f0, f1, f2, f3, f4, f5⟩ := hf it (by simp)
  refine wpAny_pyNext_list_item st p.isList (x := u) (by simpa using hu) fun h' st' sb => ?_
  have I1 : Inv X pins σ H { s with heap := h' } := I.turned (t' := s.toks) (fun b o hb e => (sb.2 b hb).trans e) f0 f1 f3 f4 f5
  obtain ⟨o, e, c, d⟩ := id st'
  exact ⟨u, rfl, go_of (s := { s with heap := h' }) e c d (by decide) ⟨x, H, I1, ru, ⟨rfl, fun ys hy => by rw [I.list_inj hy hq]; exact hx⟩, st', fun b hb => (hf b hb).1⟩⟩
 done := by
  intro X hP hw hK hc i pins s σ H E I hf st hg
  subst hP hw hK
  obtain ⟨xs, hq, hx⟩ := hg
  obtain ⟨its, rv, p, hz⟩ := I.list hq
  obtain ⟨f0, f1, f2, f3, f4, f5⟩ := hf it (by simp)
  have hl := rv.length
  exact wpAny_pyNext_list_end (I.ok.hd hc) st p.isList (by simp; omega) fun h' eb => ⟨rfl, I.turned (t' := s.toks) (fun b o hb e => eb b o hb e) f0 f1 f3 f4 f5⟩
 self := fun _ _ _ _ _ st h => wpAny_pyIter_listiter st h
theorem turn_tuple {P : Program} {w : World} {K : PySem.W.Frag} {tg : Expr} (a it : Addr) : Turn P w K tg (Itt K a) [it] it (fun i h => h.IsTupleIter it a i) where
 mem := by simp
 obj := fun i h st b hb => by
  have e : b = it := by simpa using hb
  subst e
  obtain ⟨o, e, c, d⟩ := st
  exact ⟨o, e, fun v z => by rw [d] at z; cases z⟩
 keep := fun i h h' st k => st.at fun o e => k it (by simp) o e
 item := by
  intro X hP hw hK hc i pins s σ H E I hf st hg
  subst hP hw hK
  obtain ⟨xs, x, hq, hx⟩ := hg
  obtain ⟨its, rv, p, hz⟩ := I.tuple hq
  obtain ⟨u, hu, ru⟩ := rv.get hx
  obtain ⟨f0, f1, f2, f3, f4, f5⟩ := hf it (by simp)
  refine wpAny_pyNext_tuple_item st (show s.heap.IsTuple a its.toArray from p) (x := u) (by simpa using hu) fun h' st' sb => ?_
  have I1 : Inv X pins σ H { s with heap := h' } := I.turned (t' := s.toks) (fun b o hb e => (sb.2 b hb).trans e) f0 f1 f3 f4 f5
  obtain ⟨o, e, c, d⟩ := id st'
  exact ⟨u, rfl, go_of (s := { s with heap := h' }) e c d (by decide) ⟨x, H, I1, ru, ⟨rfl, fun ys hy => by rw [I.tuple_inj hy hq]; exact hx⟩, st', fun b hb => (hf b hb).1⟩⟩
 done := by
  intro X hP hw hK hc i pins s σ H E I hf st hg
  subst hP hw hK
  obtain ⟨xs, hq, hx⟩ := hg
  obtain ⟨its, rv, p, hz⟩ := I.tuple hq
  obtain ⟨f0, f1, f2, f3, f4, f5⟩ := hf it (by simp)
  have hl := rv.length
  exact wpAny_pyNext_tuple_end (I.ok.hd hc) st (show s.heap.IsTuple a its.toArray from p) (by simp; omega) fun h' eb => ⟨rfl, I.turned (t' := s.toks) (fun b o hb e => eb b o hb e) f0 f1 f3 f4 f5⟩
 self := fun _ _ _ _ _ st h => wpAny_pyIter_tupleiter st h
theorem turn_range {P : Program} {w : World} {K : PySem.W.Frag} {tg : Expr} (it : Addr) (lo : Int) (n : Nat) : Turn P w K tg (Itr lo n) [it] it (fun i h => IsRangeIter h it (lo + (i : Nat) * 1) ((n : Int) - (i : Nat)) 1) where
 mem := by simp
 obj := fun i h st b hb => by
  have e : b = it := by simpa using hb
  subst e
  exact ⟨_, st, fun v z => by
   have z' : Data.fields _ = Data.cell v := z
   cases z'⟩
 keep := fun i h h' st k => k it (by simp) _ st
 item := by
  intro X hP hw hK hc i pins s σ H E I hf st hg
  subst hP hw hK
  obtain ⟨f0, f1, f2, f3, f4, f5⟩ := hf it (by simp)
  have W := Walks.range (prog := X.prog) (w := X.w) (I.ok.hd hc) it lo 1 n
  refine W.item i s _ _ hg st fun v h' tk hv st' kk => ?_
  obtain ⟨t, rfl⟩ := hv
  have I1 : Inv X pins σ H { s with heap := h', toks := tk } := I.turned (fun b o hb e => kk b o (by simpa using hb) e) f0 f1 f3 f4 f5
  refine ⟨_, rfl, go_of (s := { s with heap := h', toks := tk }) (n := "range_iterator") st' rfl rfl (by decide) ⟨.int (lo + i), H, I1, ⟨t, ?_⟩, ⟨rfl, rfl⟩, st', fun b hb => (hf b hb).1⟩⟩
  rw [Int.mul_one]
 done := by
  intro X hP hw hK hc i pins s σ H E I hf st hg
  subst hP hw hK
  obtain ⟨f0, f1, f2, f3, f4, f5⟩ := hf it (by simp)
  exact wpAny_pyNext_range_end (I.ok.hd hc) st (by have : n ≤ i := hg; omega) fun h' eb => ⟨rfl, I.turned (t' := s.toks) (fun b o hb e => eb b o hb e) f0 f1 f3 f4 f5⟩
 self := fun _ _ _ _ _ st h => wpAny_pyIter_rangeiter st h
section
variable {X : Cx} {tg : Expr}
noncomputable def iList (K : PySem.W.Frag) (tl : TE) : TI := fun σ H R => tl σ H fun x H1 => ∃ a, x = .ref a ∧ (∃ xs, aU K H1 a xs) ∧ R (Itl K a) H1
noncomputable def iTup (K : PySem.W.Frag) (tl : TE) : TI := fun σ H R => tl σ H fun x H1 => ∃ a, x = .ref a ∧ (∃ xs, dC K H1 a xs) ∧ R (Itt K a) H1
theorem pi_list {l : Expr} {tl : TE} (hl : PE X l tl) : PI X tg l (iList X.K tl) := by
 intro pins s σ H R I h
 refine bZ (hl pins s σ H _ I h) fun v s1 ⟨x, H1, I1, r1, q1⟩ => ?_
 obtain ⟨a, e, ⟨xs, hq⟩, q⟩ := q1
 subst e
 cases r1
 obtain ⟨its, rv, p, hz⟩ := I1.list hq
 refine wpAny_pyIter_list p.isList ?_
 refine ⟨s1.heap.objs.size, [s1.heap.objs.size], _, _, H1, rfl, I1.kept (t' := s1.toks) fun b o e => Heap.get?_push_of_some _ e, turn_list a _, ⟨_, Heap.get?_push_size _ rfl, rfl, rfl⟩, fun b hb => ?_, q⟩
 have e : b = s1.heap.objs.size := by simpa using hb
 subst e
 exact I1.fpOk (Nat.le_refl _) (I1.hok.fresh (Nat.le_refl _))
theorem pi_tup {l : Expr} {tl : TE} (hl : PE X l tl) : PI X tg l (iTup X.K tl) := by
 intro pins s σ H R I h
 refine bZ (hl pins s σ H _ I h) fun v s1 ⟨x, H1, I1, r1, q1⟩ => ?_
 obtain ⟨a, e, ⟨xs, hq⟩, q⟩ := q1
 subst e
 cases r1
 obtain ⟨its, rv, p, hz⟩ := I1.tuple hq
 refine wpAny_pyIter_tuple (show s1.heap.IsTuple a its.toArray from p) ?_
 refine ⟨s1.heap.objs.size, [s1.heap.objs.size], _, _, H1, rfl, I1.kept (t' := s1.toks) fun b o e => Heap.get?_push_of_some _ e, turn_tuple a _, ⟨_, Heap.get?_push_size _ rfl, rfl, rfl⟩, fun b hb => ?_, q⟩
 have e : b = s1.heap.objs.size := by simpa using hb
 subst e
 exact I1.fpOk (Nat.le_refl _) (I1.hok.fresh (Nat.le_refl _))
theorem range_it {pins : List (Addr × Obj)} {σ : St} {H : Hp} {s : Shared} {R : It → Hp → Prop} {E : Value → Shared → Prop} {lo hi : Int} {t u v : Tok} {tk : Nat} (I : Inv X pins σ H s) (h1 : -(2 ^ 62) ≤ lo) (h2 : lo < 2 ^ 62) (h3 : -(2 ^ 62) ≤ hi) (h4 : hi < 2 ^ 62)
  (q : R (Itr lo (hi - lo).toNat) H) : wpAny (model X.prog X.w) X.A (pyIter (.ref s.heap.objs.size)) (PIE X pins σ tg R) E { s with heap := s.heap.push { cls := .type "range", data := .fields #[.int lo t, .int hi u, .int 1 v] }, toks := tk } := by
 refine wpAny_pyIter_range (IsRange.new ..) (small_one h1 h2 h3 h4) ?_
 have I1 : Inv X pins σ H { s with heap := s.heap.push { cls := .type "range", data := .fields #[.int lo t, .int hi u, .int 1 v] }, toks := tk } := I.kept fun b o e => Heap.get?_push_of_some _ e
 refine ⟨(s.heap.push { cls := .type "range", data := .fields #[.int lo t, .int hi u, .int 1 v] }).objs.size, [(s.heap.push { cls := .type "range", data := .fields #[.int lo t, .int hi u, .int 1 v] }).objs.size], _, _, H, rfl,
  I1.kept (t' := tk) fun b o e => Heap.get?_push_of_some _ e, turn_range _ lo (hi - lo).toNat, ?_, fun b hb => ?_, q⟩
 ·have e1 : lo + ((0 : Nat) : Int) * 1 = lo := by simp
  have e2 : (((hi - lo).toNat : Nat) : Int) - ((0 : Nat) : Int) = Builtin.Range.rangeSize lo hi 1 := by rw [rangeSize_one]; split <;> omega
  show IsRangeIter _ _ (lo + ((0 : Nat) : Int) * 1) ((((hi - lo).toNat : Nat) : Int) - ((0 : Nat) : Int)) 1
  rw [e1, e2]
  exact Heap.get?_push_size _ rfl
 ·have e : b = (s.heap.push { cls := .type "range", data := .fields #[.int lo t, .int hi u, .int 1 v] }).objs.size := by simpa using hb
  subst e
  exact I1.fpOk (Nat.le_refl _) (I1.hok.fresh (Nat.le_refl _))
noncomputable def iRng1 (ta : TA) : TI := fun σ H R => ta σ H fun vs H1 => ∃ j : Int, vs = [.int j] ∧ -(2 ^ 62) ≤ j ∧ j < 2 ^ 62 ∧ R (Itr 0 j.toNat) H1
theorem fV {a : Expr} {ta : TA} {p pos : Pos} (hg : Gl X "range") (hm : X.mg "range" = none) (ha : PA X [a] ta) (hs : starEach [a] X.env = [(false, eval a X.env)] := by rfl) : PI X tg (.Call (.Name "range" p) [a] [] pos) (iRng1 ta) := by
 intro pins s σ H R I h
 refine Call_ (ld_blt I hg hm boot_range (PyProof.Rows.callWith_type1 (bZ (ha pos pins s σ H _ I h) fun us s1 ⟨vs, H1, I1, r1, q1⟩ => ?_) hs rfl))
 obtain ⟨j, e, q1, q2, q⟩ := q1
 subst e
 cases r1 with
 | cons r rr =>
  cases rr
  obtain ⟨t, rfl⟩ := r
  exact call_range_1 (range_it I1 (by omega) (by omega) q1 q2 (by simpa using q))
noncomputable def tFor (wi : TI) (g : TG) (tb : TS) : TS := fun D σ H => wi σ H fun J H1 => ∃ W : Nat → Nat → St → Hp → Prop, (∃ m, W 0 m σ H1) ∧ ∀ i m σ H, W i m σ H →
 (J.stop i H ∧ D.nx σ H) ∨ (J.go i H ∧ ∃ N : St → Hp → Prop, (∀ σ' H', N σ' H' → ∃ m', m' < m ∧ W (i + 1) m' σ' H') ∧ ∀ x H', J.yld i H x H' → g x σ H' fun σ2 H2 => tb { D with nx := N, ct := N, bk := D.nx } σ2 H2)
noncomputable def pinsAt (fp : List Addr) (h : Heap) : List (Addr × Obj) := fp.filterMap fun b => (h.get? b).map fun o => (b, o)
theorem dz {fp : List Addr} {h : Heap} {b : Addr} {o : Obj} (hb : b ∈ fp) (e : h.get? b = some o) : (b, o) ∈ pinsAt fp h := List.mem_filterMap.mpr ⟨b, hb, by rw [e]; rfl⟩
theorem of_pinsAt {fp : List Addr} {h : Heap} {p : Addr × Obj} (hp : p ∈ pinsAt fp h) : p.1 ∈ fp ∧ h.get? p.1 = some p.2 := by
 obtain ⟨b, hb, e⟩ := List.mem_filterMap.mp hp
 cases q : h.get? b with
 | none => rw [q] at e; cases e
 | some o =>
  rw [q] at e
  have e' : (b, o) = p := Option.some.inj e
  subst e'
  exact ⟨hb, q⟩
theorem Inv.pinned {pins : List (Addr × Obj)} {σ : St} {H : Hp} {s : Shared} {fp : List Addr} (I : Inv X pins σ H s) (hf : ∀ b ∈ fp, FpOk X pins H b) (ho : ∀ b ∈ fp, ∃ o, s.heap.get? b = some o ∧ ∀ v, o.data ≠ .cell v) : Inv X (pins ++ pinsAt fp s.heap) σ H s :=
 I.pins_of fun p hp => (List.mem_append.mp hp).elim (fun z => I.pin p (List.mem_append_right _ z)) fun z => by
  obtain ⟨hb, e⟩ := of_pinsAt z
  obtain ⟨f0, f1, f2, _⟩ := hf p.1 hb
  obtain ⟨o, e', d⟩ := ho p.1 hb
  rw [e] at e'; cases e'
  exact ⟨e, f0, f1, f2, d⟩
theorem Inv.unpinned {pins pl : List (Addr × Obj)} {σ : St} {H : Hp} {s : Shared} (I : Inv X (pins ++ pl) σ H s) : Inv X pins σ H s := I.pins_of fun p hp => I.pin p (List.mem_append_right _ (List.mem_append_left _ hp))
theorem ps_for {iter : Expr} {body : List Stmt} {wi : TI} {g : TG} {tb : TS} {pos : Pos} (hp : PassesOwn (model X.prog X.w) X.A X.env X.xe) (hc : X.calm = true) (hi : PI X tg iter wi) (hg : PG X tg g) (hb : PSs X body tb)
  (hs : ∀ x, foldedSetIterable iter X.env x = pure x := by intro _; rfl) : PS X (.For tg iter body [] pos) (tFor wi g tb) := by
 intro pins s σ H D I h
 refine wpAny_For (bZ (hi pins s σ H _ I h) fun v s1 h1 => bZ h1 fun itv s2 h2 => ?_) hs
 obtain ⟨it, fp, tn, J, H2, e, I2, T, st2, f2, W, ⟨m0, w0⟩, turn⟩ := h2
 subst e
 have stat : ∀ {H' : Hp}, (∀ b ∈ fp, H' b = none) → ∀ b ∈ fp, FpOk X pins H' b := fun hn b hb => ⟨hn b hb, (f2 b hb).2⟩
 refine codeAny_forLoop_any (fun n s' => ∃ i σ' H', Inv X pins σ' H' s' ∧ tn i s'.heap ∧ (∀ b ∈ fp, H' b = none) ∧ W i n σ' H') ?_ m0 ⟨0, σ, H2, I2, st2, fun b hb => (f2 b hb).1, w0⟩
 rintro n s3 ⟨i, σ3, H3, I3, st3, fr3, w3⟩
 rcases turn i n σ3 H3 w3 with ⟨stop, qn⟩ | ⟨go, N, hN, step⟩
 ·refine wpAny_passesOwn hp (bZ (T.done X rfl rfl rfl hc i pins s3 σ3 H3 X.xe I3 (stat fr3) st3 stop) fun r s4 ⟨hr, I4⟩ => ?_)
  subst hr
  exact wpAny_execs_nil ⟨σ3, H3, I4, qn⟩
 ·refine wpAny_passesOwn hp (bZ (T.item X rfl rfl rfl hc i pins s3 σ3 H3 X.xe I3 (stat fr3) st3 go) fun r s4 ⟨u, hr, h4⟩ => ?_)
  subst hr
  refine wpAny_passesOwn hp (bZ h4 fun _ s5 ⟨x, H5, I5, r5, y5, st5, fr5⟩ => ?_)
  have I5' := I5.pinned (stat fr5) (T.obj _ _ st5)
  refine wpAny_passesOwn hp (bZ (hg _ s5 σ3 H5 x u _ I5' r5 (step x H5 y5)) fun _ s6 ⟨σ6, H6, I6, q6⟩ => ?_)
  refine wpAny_passesOwn hp (bZ (hb _ s6 σ6 H6 _ I6 q6) fun f s7 q7 => ?_)
  have again : ∀ {σ7 : St} {H7 : Hp}, Inv X (pins ++ pinsAt fp s5.heap) σ7 H7 s7 → N σ7 H7 → ∃ m, m < n ∧ ∃ i σ' H', Inv X pins σ' H' s7 ∧ tn i s7.heap ∧ (∀ b ∈ fp, H' b = none) ∧ W i m σ' H' := fun {σ7 H7} I7 n7 => by
   obtain ⟨m', hm, w7⟩ := hN σ7 H7 n7
   refine ⟨m', hm, i + 1, σ7, H7, I7.unpinned, T.keep _ _ _ st5 fun b hb o e => (I7.pin (b, o) (List.mem_append_right _ (List.mem_append_right _ (dz hb e)))).1, fun b hb => ?_, w7⟩
   obtain ⟨o, e, d⟩ := T.obj _ _ st5 b hb
   exact (I7.pin (b, o) (List.mem_append_right _ (List.mem_append_right _ (dz hb e)))).2.1
  cases f with
  | next => obtain ⟨σ7, H7, I7, n7⟩ := q7; exact again I7 n7
  | cont => obtain ⟨σ7, H7, I7, n7⟩ := q7; exact again I7 n7
  | brk => obtain ⟨σ7, H7, I7, q7⟩ := q7; exact ⟨σ7, H7, I7.unpinned, q7⟩
  | ret v => obtain ⟨x7, σ7, H7, I7, r7, q7⟩ := q7; exact ⟨x7, σ7, H7, I7.unpinned, r7, q7⟩
end
theorem for_list {K : PySem.W.Frag} {a : Addr} {xs : List V} {g : TG} {tb : TS} {D : Ends} {σ : St} {H : Hp} (Pv : Nat → St → Hp → Prop) (h0 : Pv 0 σ H) (hl : ∀ i σ H, i ≤ xs.length → Pv i σ H → aU K H a xs)
  (hs : ∀ i x σ H, xs[i]? = some x → Pv i σ H → g x σ H fun σ2 H2 => tb { D with nx := Pv (i + 1), ct := Pv (i + 1), bk := D.nx } σ2 H2) (hd : ∀ σ H, Pv xs.length σ H → D.nx σ H) :
  ∃ W : Nat → Nat → St → Hp → Prop, (∃ m, W 0 m σ H) ∧ ∀ i m σ H, W i m σ H →
   ((Itl K a).stop i H ∧ D.nx σ H) ∨ ((Itl K a).go i H ∧ ∃ N : St → Hp → Prop, (∀ σ' H', N σ' H' → ∃ m', m' < m ∧ W (i + 1) m' σ' H') ∧ ∀ x H', (Itl K a).yld i H x H' → g x σ H' fun σ2 H2 => tb { D with nx := N, ct := N, bk := D.nx } σ2 H2) := by
 refine ⟨fun i m σ H => m = xs.length - i ∧ i ≤ xs.length ∧ Pv i σ H, ⟨xs.length, by simp, Nat.zero_le _, h0⟩, ?_⟩
 rintro i m σ H ⟨rfl, hi, p⟩
 have q := hl i σ H hi p
 by_cases hlt : i < xs.length
 ·refine .inr ⟨⟨xs, xs[i], q, by simp [hlt]⟩, Pv (i + 1), fun σ' H' p' => ⟨xs.length - (i + 1), by omega, rfl, hlt, p'⟩, fun x H' y => ?_⟩
  obtain ⟨e, y⟩ := y
  subst e
  exact hs i x σ _ (y xs q) p
 ·have e : i = xs.length := by omega
  subst e
  exact .inl ⟨⟨xs, q, Nat.le_refl _⟩, hd σ H p⟩
theorem for_range {lo : Int} {n : Nat} {g : TG} {tb : TS} {D : Ends} {σ : St} {H : Hp} (Pv : Nat → St → Hp → Prop) (h0 : Pv 0 σ H)
  (hs : ∀ i σ H, i < n → Pv i σ H → g (.int (lo + i)) σ H fun σ2 H2 => tb { D with nx := Pv (i + 1), ct := Pv (i + 1), bk := D.nx } σ2 H2) (hd : ∀ σ H, Pv n σ H → D.nx σ H) :
  ∃ W : Nat → Nat → St → Hp → Prop, (∃ m, W 0 m σ H) ∧ ∀ i m σ H, W i m σ H →
   ((Itr lo n).stop i H ∧ D.nx σ H) ∨ ((Itr lo n).go i H ∧ ∃ N : St → Hp → Prop, (∀ σ' H', N σ' H' → ∃ m', m' < m ∧ W (i + 1) m' σ' H') ∧ ∀ x H', (Itr lo n).yld i H x H' → g x σ H' fun σ2 H2 => tb { D with nx := N, ct := N, bk := D.nx } σ2 H2) := by
 refine ⟨fun i m σ H => m = n - i ∧ i ≤ n ∧ Pv i σ H, ⟨n, by simp, Nat.zero_le _, h0⟩, ?_⟩
 rintro i m σ H ⟨rfl, hi, p⟩
 by_cases hlt : i < n
 ·refine .inr ⟨hlt, Pv (i + 1), fun σ' H' p' => ⟨n - (i + 1), by omega, rfl, hlt, p'⟩, fun x H' y => ?_⟩
  obtain ⟨e, y⟩ := y
  subst e y
  exact hs i σ _ hlt p
 ·have e : i = n := by omega
  subst e
  exact .inl ⟨Nat.le_refl _, hd σ H p⟩
noncomputable abbrev R2 := V → V → Hp → VK → Prop
noncomputable def OpR (X : Cx) (f : Value → Value → Sem Value) (r : R2) : Prop :=
 ∀ (pins : List (Addr × Obj)) (s : Shared) (σ : St) (H : Hp) (x y : V) (v u : Value) (Q : VK), Inv X pins σ H s → RelV x v → RelV y u → r x y H Q →
  wpAny (model X.prog X.w) X.A (f v u) (EP X pins σ Q) X.xe s
noncomputable def UnR (X : Cx) (f : Value → Sem Value) (r : V → Hp → VK → Prop) : Prop :=
 ∀ (pins : List (Addr × Obj)) (s : Shared) (σ : St) (H : Hp) (x : V) (v : Value) (Q : VK), Inv X pins σ H s → RelV x v → r x H Q →
  wpAny (model X.prog X.w) X.A (f v) (EP X pins σ Q) X.xe s
noncomputable def gU (X : Cx) (f : Value) (r : List V → Hp → VK → Prop) : Prop :=
 ∀ (pins : List (Addr × Obj)) (s : Shared) (σ : St) (H : Hp) (xs : List V) (us : List Value) (Q : VK), Inv X pins σ H s → Vals xs us → r xs H Q →
  wpAny (model X.prog X.w) X.A (call f us) (EP X pins σ Q) X.xe s
noncomputable def tOp (r : R2) (ta tb : TE) : TE := fun σ H Q => ta σ H fun x H1 => tb σ H1 fun y H2 => r x y H2 Q
noncomputable def tUn (r : V → Hp → VK → Prop) (ta : TE) : TE := fun σ H Q => ta σ H fun x H1 => r x H1 Q
noncomputable def rI (C : Int → Int → Prop) (g : Int → Int → V) : R2 := fun x y H Q => ∃ i j, x = .int i ∧ y = .int j ∧ C i j ∧ Q (g i j) H
noncomputable def rI0 (g : Int → Int → V) : R2 := fun x y H Q => ∃ i j, x = .int i ∧ y = .int j ∧ Q (g i j) H
noncomputable def rU (g : Int → V) : V → Hp → VK → Prop := fun x H Q => ∃ i, x = .int i ∧ Q (g i) H
section
variable {X : Cx} {a b c : Expr} {ta tb tc : TE} {pos : Pos}
theorem binT (ha : PE X a ta) (hb : PE X b tb) {pins : List (Addr × Obj)} {s : Shared} {σ : St} {H : Hp} {R : V → V → Hp → Prop} (I : Inv X pins σ H s)
  (h : ta σ H fun x H1 => tb σ H1 fun y H2 => R x y H2) {Q : Value → Shared → Prop} {f : Value → Value → Sem Value}
  (hf : ∀ v u s2 x y H2, Inv X pins σ H2 s2 → RelV x v → RelV y u → R x y H2 → wpAny (model X.prog X.w) X.A (f v u) Q X.xe s2) :
  wpAny (model X.prog X.w) X.A (eval a X.env) (fun v s₁ => wpAny (model X.prog X.w) X.A (eval b X.env) (fun u s₂ => wpAny (model X.prog X.w) X.A (f v u) Q X.xe s₂) X.xe s₁) X.xe s := by
 refine bZ (ha pins s σ H _ I h) fun v s1 ⟨x, H1, I1, r1, q1⟩ => ?_
 refine bZ (hb pins s1 σ H1 _ I1 q1) fun u s2 ⟨y, H2, I2, r2, q2⟩ => ?_
 exact hf v u s2 x y H2 I2 r1 r2 q2
theorem aC {op : Operator} {r : R2} (ho : OpR X (binaryOp op) r) (ha : PE X a ta) (hb : PE X b tb) : PE X (.BinOp a op b pos) (tOp r ta tb) := by
 intro pins s σ H Q I h
 exact wpAny_BinOp (binT ha hb I h fun v u s2 x y H2 I2 rx ry q => ho pins s2 σ H2 x y v u Q I2 rx ry q)
theorem pe_un {op : UnaryOp} {r : V → Hp → VK → Prop} (ho : UnR X (unaryOp op) r) (ha : PE X a ta) : PE X (.UnaryOp op a pos) (tUn r ta) := by
 intro pins s σ H Q I h
 exact UnaryOp_ (bZ (ha pins s σ H _ I h) fun v s1 ⟨x, H1, I1, r1, q1⟩ => ho pins s1 σ H1 x v Q I1 r1 q1)
theorem opI {f : Value → Value → Sem Value} {C : Int → Int → Prop} {g : Int → Int → Int}
  (rule : ∀ (i j : Int) (t u : Tok) (s : Shared) (Q : Value → Shared → Prop) (E : Value → Shared → Prop), C i j → Q (.int (g i j) s.toks) { s with toks := s.toks + 1 } → wpAny (model X.prog X.w) X.A (f (.int i t) (.int j u)) Q E s) :
  OpR X f (rI C fun i j => .int (g i j)) := by
 intro pins s σ H x y v u Q I rx ry h
 obtain ⟨i, j, rfl, rfl, hc, q⟩ := h
 obtain ⟨t, rfl⟩ := rx
 obtain ⟨t', rfl⟩ := ry
 exact rule i j t t' s _ _ hc ⟨.int (g i j), H, I.tok _, ⟨_, rfl⟩, q⟩
theorem opI0 {f : Value → Value → Sem Value} {g : Int → Int → Int}
  (rule : ∀ (i j : Int) (t u : Tok) (s : Shared) (Q : Value → Shared → Prop) (E : Value → Shared → Prop), Q (.int (g i j) s.toks) { s with toks := s.toks + 1 } → wpAny (model X.prog X.w) X.A (f (.int i t) (.int j u)) Q E s) :
  OpR X f (rI0 fun i j => .int (g i j)) := by
 intro pins s σ H x y v u Q I rx ry h
 obtain ⟨i, j, rfl, rfl, q⟩ := h
 obtain ⟨t, rfl⟩ := rx
 obtain ⟨t', rfl⟩ := ry
 exact rule i j t t' s _ _ ⟨.int (g i j), H, I.tok _, ⟨_, rfl⟩, q⟩
theorem opB0 {f : Value → Value → Sem Value} {g : Int → Int → Bool}
  (rule : ∀ (i j : Int) (t u : Tok) (s : Shared) (Q : Value → Shared → Prop) (E : Value → Shared → Prop), Q (.bool (g i j)) s → wpAny (model X.prog X.w) X.A (f (.int i t) (.int j u)) Q E s) :
  OpR X f (rI0 fun i j => .bl (g i j)) := by
 intro pins s σ H x y v u Q I rx ry h
 obtain ⟨i, j, rfl, rfl, q⟩ := h
 obtain ⟨t, rfl⟩ := rx
 obtain ⟨t', rfl⟩ := ry
 exact rule i j t t' s _ _ ⟨.bl (g i j), H, I, rfl, q⟩
noncomputable def CDiv (i j : Int) : Prop := 0 < j ∧ j < 1073741824
noncomputable def CPow (i j : Int) : Prop := 0 ≤ j ∧ j ≤ 1000000 ∧ i.natAbs < 2 ^ 64
noncomputable def CMul (i j : Int) : Prop := (-(2 ^ 64) < i ∧ i < 2 ^ 64) ∨ (-(2 ^ 64) < j ∧ j < 2 ^ 64)
theorem CMul.ok {i j : Int} (h : CMul i j) : IntMulOk i j := by
 rcases h with ⟨h1, h2⟩ | ⟨h1, h2⟩
 ·exact .of_left (intBits_le_64 h1 h2)
 ·exact .of_right (intBits_le_64 h1 h2)
theorem cj : OpR X (binaryOp .Add) (rI0 fun i j => .int (i + j)) := opI0 fun _ _ _ _ _ _ _ q => add_int q
theorem op_sub : OpR X (binaryOp .Sub) (rI0 fun i j => .int (i - j)) := opI0 fun _ _ _ _ _ _ _ q => sub_int q
theorem op_mul : OpR X (binaryOp .Mult) (rI CMul fun i j => .int (i * j)) := opI fun _ _ _ _ _ _ _ hc q => mul_int q hc.ok
theorem bz : OpR X (binaryOp .FloorDiv) (rI CDiv fun i j => .int (i / j)) := opI fun i j _ _ _ _ _ hc q => by
 have h1 : (0 : Int) < j := hc.1
 have h2 : j < 1073741824 := hc.2
 exact floordiv_int (by omega) (by rw [Int.fdiv_eq_ediv_of_nonneg i (by omega)]; exact q) (.inl (PyProof.noPylong_small (by omega)))
theorem bf : OpR X (binaryOp .Mod) (rI (fun _ j => 0 < j) fun i j => .int (i % j)) := opI fun i j _ _ _ _ _ hc q => by
 have h1 : (0 : Int) < j := hc
 exact mod_int' (by omega) (by rw [Int.fmod_eq_emod_of_nonneg i (by omega)]; exact q)
theorem op_pow : OpR X (binaryOp .Pow) (rI CPow fun i j => .int (i ^ j.toNat)) := opI fun _ _ _ _ _ _ _ hc q => pow_int_small hc.1 hc.2.1 hc.2.2 q
theorem unI {f : Value → Sem Value} {g : Int → Int}
  (rule : ∀ (i : Int) (t : Tok) (s : Shared) (Q : Value → Shared → Prop) (E : Value → Shared → Prop), Q (.int (g i) s.toks) { s with toks := s.toks + 1 } → wpAny (model X.prog X.w) X.A (f (.int i t)) Q E s) :
  UnR X f (rU fun i => .int (g i)) := by
 intro pins s σ H x v Q I rx h
 obtain ⟨i, rfl, q⟩ := h
 obtain ⟨t, rfl⟩ := rx
 exact rule i t s _ _ ⟨.int (g i), H, I.tok _, ⟨_, rfl⟩, q⟩
theorem un_neg : UnR X (unaryOp .USub) (rU fun i => .int (-i)) := unI fun _ _ _ _ _ q => neg_int q
end
noncomputable def scal : V → V → Bool
 | .non, .non => true | .non, .int _ => true | .int _, .non => true | .non, .bl _ => true | .bl _, .non => true | .non, .str _ => true | .str _, .non => true
 | .int _, .int _ => true | .bl _, .bl _ => true | .str _, .str _ => true | .byt _, .byt _ => true
 | .int _, .str _ => true | .str _, .int _ => true | .bl _, .str _ => true | .str _, .bl _ => true
 | _, _ => false
noncomputable def rEq : R2 := fun x y H Q => scal x y = true ∧ Q (.bl (decide (x = y))) H
noncomputable def rNe : R2 := fun x y H Q => scal x y = true ∧ Q (.bl (!decide (x = y))) H
theorem dec_int {i j : Int} : decide (V.int i = V.int j) = (i == j) := by
 rw [Bool.eq_iff_iff]
 simp
theorem dec_bl {i j : Bool} : decide (V.bl i = V.bl j) = (i == j) := by
 rw [Bool.eq_iff_iff]
 simp
theorem dec_str {i j : Str} : decide (V.str i = V.str j) = (i == j) := by
 rw [Bool.eq_iff_iff]
 simp
theorem dec_byt {i j : Array UInt8} : decide (V.byt i = V.byt j) = (i.toList == j.toList) := by
 rw [Bool.eq_iff_iff]
 cases i
 cases j
 simp
section
variable {X : Cx} {a b c : Expr} {ta tb tc : TE} {pos : Pos}
theorem bL {pins : List (Addr × Obj)} {σ : St} {H : Hp} {s : Shared} {Q : VK} {k k' : Bool} (I : Inv X pins σ H s) (q : Q (.bl k) H) (e : k = k') : EP X pins σ Q (.bool k') s := by
 subst e
 exact ⟨.bl k, H, I, rfl, q⟩
theorem op_eq : OpR X (compareOp .Eq) rEq := by
 intro pins s σ H x y v u Q I rx ry h
 obtain ⟨hs, q⟩ := h
 cases x with
 | non =>
  cases rx
  cases y with
  | non => cases ry; exact PySem.EqNone.eq_none_none (bL I q (by simp))
  | bl j => cases ry; exact PySem.EqNone.eq_none_bool (bL I q (by simp))
  | int j => obtain ⟨t', rfl⟩ := ry; exact PySem.EqNone.eq_none_int (bL I q (by simp))
  | str j => obtain ⟨t', rfl⟩ := ry; exact PySem.EqNone.eq_none_str (bL I q (by simp))
  | _ => exact absurd (show false = true from hs) Bool.false_ne_true
 | bl i =>
  cases rx
  cases y with
  | non => cases ry; exact PySem.EqNone.eq_bool_none (bL I q (by simp))
  | bl j => cases ry; exact eq_bool (bL I q dec_bl)
  | str j => obtain ⟨t', rfl⟩ := ry; exact PySem.EqMixed.eq_bool_str (bL I q (by simp))
  | _ => exact absurd (show false = true from hs) Bool.false_ne_true
 | int i =>
  obtain ⟨t, rfl⟩ := rx
  cases y with
  | non => cases ry; exact PySem.EqNone.eq_int_none (bL I q (by simp))
  | int j => obtain ⟨t', rfl⟩ := ry; exact eq_int (bL I q dec_int)
  | str j => obtain ⟨t', rfl⟩ := ry; exact PySem.EqMixed.eq_int_str (bL I q (by simp))
  | _ => exact absurd (show false = true from hs) Bool.false_ne_true
 | str i =>
  obtain ⟨t, rfl⟩ := rx
  cases y with
  | non => cases ry; exact PySem.EqNone.eq_str_none (bL I q (by simp))
  | bl j => cases ry; exact PySem.EqMixed.eq_str_bool (bL I q (by simp))
  | int j => obtain ⟨t', rfl⟩ := ry; exact PySem.EqMixed.eq_str_int (bL I q (by simp))
  | str j => obtain ⟨t', rfl⟩ := ry; exact eq_str (bL I q dec_str)
  | _ => exact absurd (show false = true from hs) Bool.false_ne_true
 | byt i =>
  obtain ⟨t, rfl⟩ := rx
  cases y with
  | byt j => obtain ⟨t', rfl⟩ := ry; exact PySem.W.eq_bytes (bL I q dec_byt)
  | _ => exact absurd (show false = true from hs) Bool.false_ne_true
 | _ => cases y <;> exact absurd (show false = true from hs) Bool.false_ne_true
theorem op_ne : OpR X (compareOp .NotEq) rNe := by
 intro pins s σ H x y v u Q I rx ry h
 obtain ⟨hs, q⟩ := h
 cases x with
 | non =>
  cases rx
  cases y with
  | non => cases ry; exact PySem.EqNone.ne_none_none (bL I q (by simp))
  | bl j => cases ry; exact PySem.EqNone.ne_none_bool (bL I q (by simp))
  | int j => obtain ⟨t', rfl⟩ := ry; exact PySem.EqNone.ne_none_int (bL I q (by simp))
  | str j => obtain ⟨t', rfl⟩ := ry; exact PySem.EqNone.ne_none_str (bL I q (by simp))
  | _ => exact absurd (show false = true from hs) Bool.false_ne_true
 | bl i =>
  cases rx
  cases y with
  | non => cases ry; exact PySem.EqNone.ne_bool_none (bL I q (by simp))
  | bl j => cases ry; exact ne_bool (bL I q (congrArg not dec_bl))
  | str j => obtain ⟨t', rfl⟩ := ry; exact PySem.EqMixed.ne_bool_str (bL I q (by simp))
  | _ => exact absurd (show false = true from hs) Bool.false_ne_true
 | int i =>
  obtain ⟨t, rfl⟩ := rx
  cases y with
  | non => cases ry; exact PySem.EqNone.ne_int_none (bL I q (by simp))
  | int j => obtain ⟨t', rfl⟩ := ry; exact ne_int (bL I q (congrArg not dec_int))
  | str j => obtain ⟨t', rfl⟩ := ry; exact PySem.EqMixed.ne_int_str (bL I q (by simp))
  | _ => exact absurd (show false = true from hs) Bool.false_ne_true
 | str i =>
  obtain ⟨t, rfl⟩ := rx
  cases y with
  | non => cases ry; exact PySem.EqNone.ne_str_none (bL I q (by simp))
  | bl j => cases ry; exact PySem.EqMixed.ne_str_bool (bL I q (by simp))
  | int j => obtain ⟨t', rfl⟩ := ry; exact PySem.EqMixed.ne_str_int (bL I q (by simp))
  | str j => obtain ⟨t', rfl⟩ := ry; exact ne_str (bL I q (congrArg not dec_str))
  | _ => exact absurd (show false = true from hs) Bool.false_ne_true
 | byt i =>
  obtain ⟨t, rfl⟩ := rx
  cases y with
  | byt j => obtain ⟨t', rfl⟩ := ry; exact PySem.W.ne_bytes (bL I q (congrArg not dec_byt))
  | _ => exact absurd (show false = true from hs) Bool.false_ne_true
 | _ => cases y <;> exact absurd (show false = true from hs) Bool.false_ne_true
theorem op_lt : OpR X (compareOp .Lt) (rI0 fun i j => .bl (decide (i < j))) := opB0 fun _ _ _ _ _ _ _ q => lt_int q
theorem op_le : OpR X (compareOp .LtE) (rI0 fun i j => .bl (decide (i ≤ j))) := opB0 fun _ _ _ _ _ _ _ q => le_int q
theorem op_gt : OpR X (compareOp .Gt) (rI0 fun i j => .bl (decide (j < i))) := opB0 fun _ _ _ _ _ _ _ q => gt_int q
theorem op_ge : OpR X (compareOp .GtE) (rI0 fun i j => .bl (decide (j ≤ i))) := opB0 fun _ _ _ _ _ _ _ q => ge_int q
theorem bA (b : Expr) {op : CmpOp} (h : op ≠ .In := by decide) (h2 : op ≠ .NotIn := by decide) : behindInMarks op b = false := by
 have e1 : (op == CmpOp.In) = false := by cases op <;> first | rfl | exact absurd rfl h
 have e2 : (op == CmpOp.NotIn) = false := by cases op <;> first | rfl | exact absurd rfl h2
 cases b <;> simp [behindInMarks, e1, e2]
theorem gW {op : CmpOp} {r : R2} (ho : OpR X (compareOp op) r) (ha : PE X a ta) (hb : PE X b tb) (hm : behindInMarks op b = false) : PE X (.Compare a [op] [b] pos) (tOp r ta tb) := by
 intro pins s σ H Q I h
 exact wpAny_Compare1 (binT ha hb I h fun v u s2 x y H2 I2 rx ry q => ho pins s2 σ H2 x y v u Q I2 rx ry q) hm
noncomputable def tTest (t : TE) : TT := fun σ H Q => t σ H fun x H' => ∃ k, x = .bl k ∧ Q k H'
theorem bj {op : CmpOp} {r : R2} (ho : OpR X (compareOp op) r) (ha : PE X a ta) (hb : PE X b tb) (hm : behindInMarks op b = false) : PT X (.Compare a [op] [b] pos) (tTest (tOp r ta tb)) := by
 intro pins s σ H Q I h
 refine wpAny_isTrue_Compare1 (bZ (ha pins s σ H _ I h) fun v s1 ⟨x, H1, I1, r1, q1⟩ => bZ (hb pins s1 σ H1 _ I1 q1) fun u s2 ⟨y, H2, I2, r2, q2⟩ =>
  bZ (ho pins s2 σ H2 x y v u _ I2 r1 r2 q2) fun c s3 ⟨z, H3, I3, r3, k, e, q3⟩ => ?_) hm
 subst e
 cases r3
 exact wpAny_truthy_bool ⟨H3, I3, q3⟩
theorem line63 : (sizeLine : Nat) < 2 ^ 63 := by rw [sizeLine_eq]; decide
theorem vals1 {x : V} {us : List Value} (r : Vals [x] us) : ∃ u, us = [u] ∧ RelV x u := by
 cases r with
 | cons r1 r2 => cases r2; exact ⟨_, rfl, r1⟩
theorem vals2 {x y : V} {us : List Value} (r : Vals [x, y] us) : ∃ u w', us = [u, w'] ∧ RelV x u ∧ RelV y w' := by
 cases r with
 | cons r1 r2 =>
  cases r2 with
  | cons r3 r4 => cases r4; exact ⟨_, _, rfl, r1, r3⟩
theorem call_min2 (hc : X.calm = true) : gU X (.builtin "min") (fun xs H Q => ∃ i j, xs = [.int i, .int j] ∧ Q (.int (if j < i then j else i)) H) := by
 intro pins s σ H xs us Q I r h
 obtain ⟨i, j, rfl, q⟩ := h
 obtain ⟨u, w', rfl, ⟨t, rfl⟩, ⟨t', rfl⟩⟩ := vals2 r
 refine min_two_ints (I.ok.hd hc) fun h' tk k => ⟨_, H, I.kept k, ?_, q⟩
 by_cases hj : j < i
 ·rw [if_pos hj, if_pos hj]; exact ⟨_, rfl⟩
 ·rw [if_neg hj, if_neg hj]; exact ⟨_, rfl⟩
end
structure ObjM (h : Heap) (x dx C : Addr) (mA : Str → Option Value) : Prop where
 obj : h.get? x = some (PySem.W.instObj C dx)
 ns : h.Ns1 dx mA
 ne : dx ≠ x
theorem lookIn_ns {h : Heap} {dx : Addr} {mA : Str → Option Value} (n : h.Ns1 dx mA) : ∃ od, h.get? dx = some od ∧ ∀ name, PySem.W.lookIn name od = some (mA name) := by
 obtain ⟨o, es, ep, ho, hd, hk, _, hm⟩ := n
 refine ⟨o, ho, fun name => ?_⟩
 have e := hm name
 unfold nsFind findBy at e
 rw [← Array.find?_toList] at e
 unfold PySem.W.lookIn
 rw [hd]
 dsimp only
 split
 ·rename_i y q
  rw [q] at e
  exact congrArg some e
 ·rename_i q
  rw [q] at e
  have a : es.toList.any (·.refKey) = false := by
   rw [List.any_eq_false]
   intro y hy
   obtain ⟨z, t, hkey⟩ := hk y (Array.mem_toList_iff.mp hy)
   simp [DictEntry.refKey, hkey]
  have a' : ¬ es.toList.any (·.refKey) = true := by rw [a]; exact Bool.false_ne_true
  rw [if_neg a']
  exact congrArg some e
theorem ObjM.look {h : Heap} {x dx C : Addr} {mA : Str → Option Value} (I : ObjM h x dx C mA) : ∃ od, PySem.W.InstAt h x (PySem.W.instObj C dx) C (some od) ∧ ∀ name, PySem.W.lookIn name od = some (mA name) :=
 let ⟨od, ho, hl⟩ := lookIn_ns I.ns
 ⟨od, ⟨I.obj, rfl, rfl, ho⟩, hl⟩
section
variable {prog : Program} {w : World} {A : Around} {E : Value → Shared → Prop} {s : Shared} {K : PySem.W.Frag} {x dx C f : Addr} {mA : Str → Option Value} {name : Str} {v : Value}
theorem get_map {expr : Bool} {Q : Value → Shared → Prop} (X : K.In s.heap) (I : ObjM s.heap x dx C mA) (hg : PySem.W.plainGet K C name = true) (hh : PySem.W.hasDictIn K C = true)
  (ha : PySem.W.findIn K (.ref C) name = some none) (hv : mA name = some v) (hv' : PySem.W.handedIn v = true) (h : Q v { s with toks := s.toks + 1 }) :
  wpAny (model prog w) A (getAttr (.ref x) name expr) Q E s := by
 obtain ⟨od, J, hl⟩ := I.look
 exact PySem.W.get_value X J (PySem.W.plainGet_of hg).1 (PySem.W.findObj_own hh ha rfl (by rw [hl, hv])) hv' h
theorem get_meth {pl : Sem Bool} {Q : Value × List Value → Shared → Prop} (X : K.In s.heap) (I : ObjM s.heap x dx C mA) (hg : PySem.W.plainGet K C name = true)
  (hf : PySem.W.findIn K (.ref C) name = some (some (.ref f))) (ht : PySem.W.isFn K (.ref f) = true) (hv : mA name = none) (h : Q (.ref f, [.ref x]) s) :
  wpAny (model prog w) A (getMethod (.ref x) name pl) Q E s := by
 obtain ⟨od, J, hl⟩ := I.look
 exact PySem.W.method_fn X J (PySem.W.plainGet_of hg).1 (PySem.W.plainGet_of hg).2 hf (beq_iff_eq.mp ht) (by show (PySem.W.lookIn name od).map (·.isSome) = some false; rw [hl, hv]; rfl) h
theorem set_map {ns : List Str} {Q : Unit → Shared → Prop} (X : K.In s.heap) (I : ObjM s.heap x dx C mA)
  (hs : PySem.W.findIn K (.ref C) "__setattr__" = some (some (.builtin "object.__setattr__"))) (hp : PySem.W.plainOver K C = true) (ht : PySem.W.takerIn K C name = some none) (hh : PySem.W.hasDictIn K C = true)
  (hw : PySem.Within mA ns) (hsz : ns.length ≤ sizeLine)
  (h : ∀ h', ObjM h' x dx C (fun y => if y = name then some v else mA y) → Heap.SameBut dx s.heap h' → Q () { s with heap := h', toks := s.toks + 2 }) :
  wpAny (model prog w) A (setAttr (.ref x) name v) Q E s := by
 obtain ⟨od, J, hl⟩ := I.look
 refine PySem.W.set_plain X J hs (PySem.W.osa_open (s := { s with toks := s.toks + 1 }) (r := none) X J hp ht fun b => ?_)
 obtain ⟨cd, hc, hd'⟩ := PySem.W.any_some hh
 have hx : s.heap.get? x = some ⟨.ref C, some dx, .plain, #[]⟩ := I.obj
 refine wpAny_bind (wpAny_pure (wpAny_bind (wpAny_bind (wpAny_loadPart hx (wpAny_bind (PySem.W.Looks.here (s := { s with toks := s.toks + 1 }) (PySem.W.looks_clsIn X hc) ?_))))))
 rw [hd']
 refine wpAny_pure (a := some dx) (wpAny_bind (wpAny_pure (wpAny_bind ?_)))
 refine wpAny_nsSet1 (s := { s with toks := s.toks + 1 }) I.ns fun h' hn2 hs2 => ?_
 obtain ⟨oD, esD, epD, hoD, hdD, hcD⟩ := hn2.count (PySem.Within.cons name v hw)
 refine wpAny_bind (wpAny_lookBehind hoD (by rw [hdD]; exact pastItsLine_dict (Nat.le_trans hcD (by rw [List.length_cons]; omega))) ?_)
 exact wpAny_pure (h _ ⟨(hs2.2 _ (Ne.symm I.ne)).trans I.obj, hn2, I.ne⟩ hs2)
theorem make_map {R : Result → Shared → Prop} {vs : List Value} {kw : List (Str × Value)} (X : K.In s.heap) (hm : PySem.W.makesIn K C = true)
  (hi : PySem.W.findIn K (.ref C) "__init__" = some (some (.ref f))) (hf : PySem.W.typeIn K (.ref f) = some (.type "function"))
  (h : codeAny (model prog w) (A.under (.builtin "type.__call__" ⟨.ref C :: vs, kw⟩)) (.call (.ref f) ⟨.ref (s.heap.objs.size + 1) :: vs, kw⟩) (PySem.W.InitBack (s.heap.objs.size + 1) R)
   { s with heap := (s.heap.push PySem.W.emptyDict).push (PySem.W.instObj C s.heap.objs.size) }) :
  codeAny (model prog w) A (.call (.ref C) ⟨vs, kw⟩) R s := by
 obtain ⟨hh, g, d, t, os⟩ := s
 exact PySem.W.make_core (PySem.W.makes_of X hm) (PySem.W.looks_findIn X hi) (fun self => PySem.W.bind_fn X self hf) (.inl rfl) h
end
noncomputable def putF (f : Str) (v : V) : List (Str × V) → List (Str × V)
  | [] => [(f, v)]
  | (g, x) :: r => if g = f then (g, v) :: r else (g, x) :: putF f v r
theorem iJ (f g : Str) (v : V) : ∀ fs : List (Str × V), (putF f v fs).lookup g = if g = f then some v else fs.lookup g
  | [] => by
    show List.lookup g [(f, v)] = _
    by_cases h : g = f
    · have hb : (g == f) = true := beq_iff_eq.mpr h
      simp only [List.lookup, hb, if_pos h]
    · have hb : (g == f) = false := beq_eq_false_iff_ne.mpr h
      simp only [List.lookup, hb, if_neg h]
  | (k, x) :: r => by
    have ih := iJ f g v r
    rw [show putF f v ((k, x) :: r) = (if k = f then (k, v) :: r else (k, x) :: putF f v r) from rfl]
    by_cases hk : k = f
    · rw [if_pos hk]
      by_cases h : g = k
      · have hb : (g == k) = true := beq_iff_eq.mpr h
        simp only [List.lookup, hb, if_pos (h.trans hk)]
      · have hb : (g == k) = false := beq_eq_false_iff_ne.mpr h
        simp only [List.lookup, hb, if_neg (fun e : g = f => h (e.trans hk.symm))]
    · rw [if_neg hk]
      by_cases h : g = k
      · have hb : (g == k) = true := beq_iff_eq.mpr h
        simp only [List.lookup, hb, if_neg (fun e : g = f => hk (h.symm.trans e))]
      · have hb : (g == k) = false := beq_eq_false_iff_ne.mpr h
        simp only [List.lookup, hb]
        exact ih
theorem keys_putF (f : Str) (v : V) : ∀ fs : List (Str × V), f ∈ (putF f v fs).map (·.1) ∧ ∀ g, g ∈ fs.map (·.1) → g ∈ (putF f v fs).map (·.1)
  | [] => ⟨by simp [putF], fun g h => by simp at h⟩
  | (k, x) :: r => by
    obtain ⟨i1, i2⟩ := keys_putF f v r
    rw [show putF f v ((k, x) :: r) = (if k = f then (k, v) :: r else (k, x) :: putF f v r) from rfl]
    by_cases hk : k = f
    · rw [if_pos hk]
      subst hk
      exact ⟨by simp, fun g h => by simpa using h⟩
    · rw [if_neg hk]
      refine ⟨?_, fun g h => ?_⟩
      · rw [List.map_cons]
        exact List.mem_cons_of_mem _ i1
      · rw [List.map_cons] at h ⊢
        rcases List.mem_cons.mp h with e | e
        · exact List.mem_cons.mpr (.inl e)
        · exact List.mem_cons_of_mem _ (i2 g e)
theorem length_putF (f : Str) (v : V) : ∀ fs : List (Str × V), (putF f v fs).length ≤ fs.length + 1
  | [] => by simp [putF]
  | (k, x) :: r => by
    have ih := length_putF f v r
    rw [show putF f v ((k, x) :: r) = (if k = f then (k, v) :: r else (k, x) :: putF f v r) from rfl]
    by_cases hk : k = f
    · rw [if_pos hk, List.length_cons, List.length_cons]; omega
    · rw [if_neg hk, List.length_cons, List.length_cons]; omega
theorem RelO.some_of {v : V} {o : Option Value} (r : RelO (some v) o) : ∃ u, o = some u ∧ RelV v u := by
 cases o with
 | none => exact (show False from r).elim
 | some u => exact ⟨u, rfl, r⟩
theorem RelO.none_of {o : Option Value} (r : RelO none o) : o = none := by
 cases o with
 | none => rfl
 | some u => exact (show False from r).elim
theorem handed_of {v : V} {u : Value} (r : RelV v u) : PySem.W.handedIn u = true := by
 cases v with
 | non => cases (show u = Value.none from r); rfl
 | bl b => cases (show u = Value.bool b from r); rfl
 | int i => obtain ⟨t, e⟩ := (show ∃ t, u = Value.int i t from r); cases e; rfl
 | str x => obtain ⟨t, e⟩ := (show ∃ t, u = Value.str x t from r); cases e; rfl
 | byt b => obtain ⟨t, e⟩ := (show ∃ t, u = Value.bytes b t from r); cases e; rfl
 | flt b => obtain ⟨t, e⟩ := (show ∃ t, u = Value.float b t from r); cases e; rfl
 | ref a => cases (show u = Value.ref a from r); rfl
 | ty n => cases (show u = Value.type n from r); rfl
section
variable {P : Program} {w : World} {H H' : Hp} {h h' : Heap} {a C dx : Addr} {fs fs' : List (Str × V)}
theorem ins_get (hok : HOk P w H h) (e : H a = some (.ins C dx fs)) : ∃ mA, ObjM h a dx C mA ∧ (∀ f, RelO (fs.lookup f) (mA f)) ∧ PySem.Within mA (fs.map (·.1)) ∧ fs.length ≤ 1000 ∧ H dx = some (.own a) := by
 obtain ⟨d, z, ne, ob, mA, n, r, q⟩ := (show dU P w H h a (.ins C dx fs) from hok a _ e)
 exact ⟨mA, ⟨ob, n, ne⟩, r, q, z, d⟩
end
structure Cls (K : PySem.W.Frag) (C : Addr) : Prop where
 pg : PySem.W.plainGet K C Str.empty = true
 hd : PySem.W.hasDictIn K C = true
 po : PySem.W.plainOver K C = true
 sa : PySem.W.findIn K (.ref C) "__setattr__" = some (some (.builtin "object.__setattr__"))
theorem Cls.get {K : PySem.W.Frag} {C : Addr} (c : Cls K C) (f : Str) : PySem.W.plainGet K C f = true := c.pg
noncomputable def NoAttr (K : PySem.W.Frag) (C : Addr) (f : Str) : Prop := PySem.W.findIn K (.ref C) f = some none
theorem NoAttr.taker {K : PySem.W.Frag} {C : Addr} {f : Str} (n : NoAttr K C f) : PySem.W.takerIn K C f = some none := by
 unfold PySem.W.takerIn
 rw [show PySem.W.findIn K (.ref C) f = some none from n]
 rfl
structure Meth (K : PySem.W.Frag) (C : Addr) (m : Str) (f : Addr) : Prop where
 at_ : PySem.W.findIn K (.ref C) m = some (some (.ref f))
 fn : PySem.W.isFn K (.ref f) = true
 kp : PySem.W.keepIn K (.ref f) = true
section
variable {X : Cx} {pins : List (Addr × Obj)} {σ : St} {H : Hp} {s : Shared} {a C dx : Addr} {fs : List (Str × V)} {f : Str} {v : V} {A : Around} {E : Value → Shared → Prop}
theorem getattr_ok {b : Bool} {Q : Value → Shared → Prop} (I : Inv X pins σ H s) (e : H a = some (.ins C dx fs)) (c : Cls X.K C) (n : NoAttr X.K C f) (l : fs.lookup f = some v)
  (h : ∀ u s', Inv X pins σ H s' → RelV v u → Q u s') : wpAny (model X.prog X.w) A (getAttr (.ref a) f b) Q E s := by
 obtain ⟨mA, O, r, _, _, _⟩ := ins_get I.hok e
 obtain ⟨u, hu, ru⟩ := RelO.some_of (v := v) (o := mA f) (by rw [← l]; exact r f)
 exact get_map I.kIn O (c.get f) c.hd n hu (handed_of ru) (h u _ (I.tok _) ru)
theorem getmeth_ok {m : Str} {g : Addr} {pl : Sem Bool} {Q : Value × List Value → Shared → Prop} (I : Inv X pins σ H s) (e : H a = some (.ins C dx fs)) (c : Cls X.K C) (k : Meth X.K C m g) (l : fs.lookup m = none)
  (h : Q (.ref g, [.ref a]) s) : wpAny (model X.prog X.w) A (getMethod (.ref a) m pl) Q E s := by
 obtain ⟨mA, O, r, _, _, _⟩ := ins_get I.hok e
 have hn : mA m = none := RelO.none_of (by rw [← l]; exact r m)
 exact get_meth I.kIn O (c.get m) k.at_ k.fn hn h
theorem setattr_ok {y : V} {u : Value} {Q : Unit → Shared → Prop} (I : Inv X pins σ H s) (e : H a = some (.ins C dx fs)) (c : Cls X.K C) (n : NoAttr X.K C f) (hl : fs.length < 1000) (ry : RelV y u)
  (h : ∀ s', Inv X pins σ (upd H a (.ins C dx (putF f y fs))) s' → Q () s') : wpAny (model X.prog X.w) A (setAttr (.ref a) f u) Q E s := by
 obtain ⟨mA, O, r, wi, _, ho⟩ := ins_get I.hok e
 have hz : (fs.map (·.1)).length ≤ sizeLine := by rw [List.length_map, sizeLine_eq]; omega
 refine set_map I.kIn O c.sa c.po n.taker c.hd wi hz fun h' O' sb => h _ ?_
 have hd : ∃ o, h'.get? dx = some o := let ⟨o, _, _, e', _⟩ := O'.ns; ⟨o, e'⟩
 refine I.write (x := a) (e := dx) (by rw [e]; exact True.intro) (.inr ho) (fun b q hb z => (sb.2 b hb).trans z) hd ?_
 refine ⟨by rw [aJ O.ne]; exact ho, ?_, O.ne, O'.obj, _, O'.ns, fun g => ?_, fun g hg => ?_⟩
 ·have := length_putF f y fs; omega
 ·show RelO ((putF f y fs).lookup g) (if g = f then some u else mA g)
  rw [iJ]
  by_cases q : g = f
  ·rw [if_pos q, if_pos q]; exact ry
  ·rw [if_neg q, if_neg q]; exact r g
 ·by_cases q : g = f
  ·rw [q]; exact (keys_putF f y fs).1
  ·refine (keys_putF f y fs).2 g (wi g fun z => hg ?_)
   show (if g = f then some u else mA g) = none
   rw [if_neg q]; exact z
theorem Inv.made (I : Inv X pins σ H s) : Inv X pins σ (upd (upd H s.heap.objs.size (.own (s.heap.objs.size + 1))) (s.heap.objs.size + 1) (.ins C s.heap.objs.size []))
  { s with heap := (s.heap.push PySem.W.emptyDict).push (PySem.W.instObj C s.heap.objs.size) } := by
 have e1 : (s.heap.push PySem.W.emptyDict).get? s.heap.objs.size = some PySem.W.emptyDict := Heap.get?_push_size s.heap rfl
 have e2 : ((s.heap.push PySem.W.emptyDict).push (PySem.W.instObj C s.heap.objs.size)).get? (s.heap.objs.size + 1) = some (PySem.W.instObj C s.heap.objs.size) := by
  have := Heap.get?_push_size (s.heap.push PySem.W.emptyDict) (o := PySem.W.instObj C s.heap.objs.size) rfl
  rwa [Heap.size_push] at this
 have e3 : (s.heap.push PySem.W.emptyDict).Ns s.heap.objs.size (fun _ => none) := ⟨PySem.W.emptyDict, #[], _, e1, rfl, (fun e he => absurd he (by simp)), fun _ => rfl⟩
 have I1 := I.laid (a := s.heap.objs.size) (o := .own (s.heap.objs.size + 1)) (h' := s.heap.push PySem.W.emptyDict) (t' := s.toks) (fun b u q => Heap.get?_push_of_some _ q) (Nat.le_refl _) ⟨_, e1⟩
 refine I1.laid (a := s.heap.objs.size + 1) (o := .ins C s.heap.objs.size []) (t' := s.toks) (fun b u q => Heap.get?_push_of_some _ q) (Nat.le_of_eq (Heap.size_push _ _)) ?_
 have ne : s.heap.objs.size ≠ s.heap.objs.size + 1 := Nat.ne_of_lt (Nat.lt_succ_self _)
 refine ⟨by rw [aJ ne, ak], Nat.zero_le _, ne, e2, fun _ => none, (Heap.Ns1.of_empty e3).at fun o q => Heap.get?_push_of_some _ q, fun _ => True.intro, fun y hy => absurd rfl hy⟩
theorem attr_of {prog : Program} {w : World} {env : Env} {e : Expr} {f : Str} {pos : Pos} {s : Shared} {Q : Value → Shared → Prop} (hb : attributeBase e f env (eval e env) = eval e env)
  (h : wpAny (model prog w) A (eval e env) (fun o s₁ => wpAny (model prog w) A (getAttr o f true) Q E s₁) E s) : wpAny (model prog w) A (eval (.Attribute e f pos) env) Q E s :=
 Attribute_any_ h (by rw [arm_eval_Attribute, hb])
end
noncomputable def tFld (K : PySem.W.Frag) (ta : TE) (f : Str) : TE := fun σ H Q => ta σ H fun x H1 => ∃ a C dx fs v, x = .ref a ∧ H1 a = some (.ins C dx fs) ∧ Cls K C ∧ NoAttr K C f ∧ fs.lookup f = some v ∧ Q v H1
noncomputable def sFld (K : PySem.W.Frag) (ta tv : TE) (f : Str) : TS := fun D σ H => tv σ H fun y H1 => ta σ H1 fun x H2 => ∃ a C dx fs, x = .ref a ∧ H2 a = some (.ins C dx fs) ∧ Cls K C ∧ NoAttr K C f ∧ fs.length < 1000 ∧
 D.nx σ (upd H2 a (.ins C dx (putF f y fs)))
section
variable {X : Cx} {o e value : Expr} {f : Str} {pos pos' tpos : Pos} {ta tv : TE}
theorem pe_fld (he : PE X e ta) (hb : attributeBase e f X.env (eval e X.env) = eval e X.env) : PE X (.Attribute e f pos) (tFld X.K ta f) := by
 intro pins s σ H Q I h
 refine attr_of hb (bZ (he pins s σ H _ I h) fun u s1 ⟨x, H1, I1, rx, a, C, dx, fs, v, ex, ea, c, n, l, q⟩ => ?_)
 subst ex
 obtain rfl : u = Value.ref a := rx
 exact getattr_ok I1 ea c n l fun u' s2 I2 ru => ⟨v, H1, I2, ru, q⟩
theorem ps_fld (ha : PE X o ta) (hv : PE X value tv) (hs : swapsWith value (some (.Attribute o f pos')) pos.line X.env = pure false) : PS X (.Assign [.Attribute o f pos'] value pos) (sFld X.K ta tv f) := by
 intro pins s σ H D I h
 refine plainObj_wpAny_Assign_Attribute (bZ (hv pins s σ H _ I h) fun u s1 ⟨y, H1, I1, ry, q⟩ => bZ (ha pins s1 σ H1 _ I1 q) fun ov s2 ⟨x, H2, I2, rx, a, C, dx, fs, ex, ea, c, n, l, q2⟩ => ?_) hs
 subst ex
 obtain rfl : ov = Value.ref a := rx
 exact setattr_ok I2 ea c n l ry fun s3 I3 => ⟨σ, _, I3, q2⟩
end
section
variable {X : Cx} {pins : List (Addr × Obj)} {σ : St} {H : Hp} {s : Shared} {A : Around} {E : Value → Shared → Prop} {Q : Value → Shared → Prop} {c : Value} {b : Bool}
inductive TyOf (K : PySem.W.Frag) (H : Hp) : V → Value → Prop where
 | non : TyOf K H .non (.type "NoneType")
 | bl (x : Bool) : TyOf K H (.bl x) (.type "bool")
 | int (i : Int) : TyOf K H (.int i) (.type "int")
 | str (x : Str) : TyOf K H (.str x) (.type "str")
 | flt (x : UInt64) : TyOf K H (.flt x) (.type "float")
 | lst {a : Addr} {xs : List V} (e : H a = some (.lst xs)) : TyOf K H (.ref a) (.type "list")
 | frz {a : Addr} {o : Obj} {xs : List V} (e : H a = some (.frz o (.lst xs))) : TyOf K H (.ref a) (.type "list")
 | tup {a : Addr} {xs : List V} (e : H a = some (.tup xs)) : TyOf K H (.ref a) (.type "tuple")
 | dK {a : Addr} {kvs : List (Key × V)} (e : H a = some (.dK kvs)) : TyOf K H (.ref a) (.type "dict")
 | dT {a : Addr} {kvs : List (List Key × V)} (e : H a = some (.dT kvs)) : TyOf K H (.ref a) (.type "dict")
 | ins {a C dx : Addr} {fs : List (Str × V)} (e : H a = some (.ins C dx fs)) (cl : Cls K C) (ha : PySem.W.findIn K (.ref C) "__class__" = some (some (.builtin "object.__class__")))
   (hn : PySem.W.specialIn K (.builtin "object.__class__") "__get__" = some (some (.builtin "getset_descriptor.__get__"))) (htk : PySem.W.takesIn K (.builtin "object.__class__") = some true)
   (hm : PySem.W.mroIn K C (.type "object") = some true) : TyOf K H (.ref a) (.ref C)
theorem isinst_ok {x : V} {u t : Value} (I : Inv X pins σ H s) (rx : RelV x u) (ty : TyOf X.K H x t) (e : PySem.W.kitOne X.K t c = some b) (h : ∀ tk, Q (.bool b) { s with toks := tk }) :
  wpAny (model X.prog X.w) A (call (.builtin "isinstance") [u, c]) Q E s := by
 cases ty with
 | non => cases (show u = Value.none from rx); exact PySem.W.kia_one PySem.W.kitx_none I.kIn True.intro e (fun z => nomatch z) h
 | bl y => cases (show u = Value.bool y from rx); exact PySem.W.kia_one PySem.W.kitx_bool I.kIn True.intro e (fun z => nomatch z) h
 | int i => obtain ⟨t, q⟩ := (show ∃ t, u = Value.int i t from rx); cases q; exact PySem.W.kia_one PySem.W.kitx_int I.kIn True.intro e (fun z => nomatch z) h
 | str y => obtain ⟨t, q⟩ := (show ∃ t, u = Value.str y t from rx); cases q; exact PySem.W.kia_one PySem.W.kitx_str I.kIn True.intro e (fun z => nomatch z) h
 | flt y => obtain ⟨t, q⟩ := (show ∃ t, u = Value.float y t from rx); cases q; exact PySem.W.kia_one PySem.W.kitx_float I.kIn True.intro e (fun z => nomatch z) h
 | @lst a xs ea =>
  cases (show u = Value.ref a from rx)
  obtain ⟨_, _, n, _, h1⟩ := (show dU X.prog X.w H s.heap a (.lst xs) from I.hok a _ ea)
  exact PySem.W.kia_one PySem.W.kitx_list I.kIn ⟨_, h1, rfl⟩ e (fun z => nomatch z) h
 | @frz a ob xs ea =>
  cases (show u = Value.ref a from rx)
  obtain ⟨_, _, _, n, _, h1⟩ := (show dU X.prog X.w H s.heap a (.frz ob (.lst xs)) from I.hok a _ ea)
  exact PySem.W.kia_one PySem.W.kitx_list I.kIn ⟨_, h1, rfl⟩ e (fun z => nomatch z) h
 | @tup a xs ea =>
  cases (show u = Value.ref a from rx)
  obtain ⟨_, _, _, p⟩ := (show dU X.prog X.w H s.heap a (.tup xs) from I.hok a _ ea)
  obtain ⟨o, h1, h2, _⟩ := p
  exact PySem.W.kia_one PySem.W.kitx_tuple I.kIn ⟨o, h1, h2⟩ e (fun z => nomatch z) h
 | @dK a kvs ea =>
  cases (show u = Value.ref a from rx)
  obtain ⟨_, _, vs, _, p⟩ := (show dU X.prog X.w H s.heap a (.dK kvs) from I.hok a _ ea)
  obtain ⟨o, es, ep, h1, h2, _⟩ := p
  exact PySem.W.kia_one PySem.W.kitx_dict I.kIn ⟨o, h1, h2.1⟩ e (fun z => nomatch z) h
 | @dT a kvs ea =>
  cases (show u = Value.ref a from rx)
  obtain ⟨_, _, xs, _, o, es, ep, h1, h2, _⟩ := (show dU X.prog X.w H s.heap a (.dT kvs) from I.hok a _ ea)
  exact PySem.W.kia_one PySem.W.kitx_dict I.kIn ⟨o, h1, h2.1⟩ e (fun z => nomatch z) h
 | @ins a C dx fs ea cl ha hn htk hm =>
  cases (show u = Value.ref a from rx)
  obtain ⟨mA, O, _⟩ := ins_get I.hok ea
  obtain ⟨od, J, _⟩ := O.look
  exact PySem.W.kia_one (PySem.W.kitx_own (cl.get _) cl.hd ha hn htk hm) I.kIn J e (fun z => nomatch z) h
end
structure fB (k : Nat) (A : Around) : Prop where
 hd : A.handled = none
 dp : A.depth + 3 * k + 5 < recursionLimit
 un : A.units + 16 * k + 200 < cLine
 gd : A.guards = some []
theorem fB.mono {j k : Nat} {A : Around} (r : fB k A) (h : j ≤ k) : fB j A := ⟨r.hd, by have := r.dp; omega, by have := r.un; omega, r.gd⟩
theorem fB.deeper {k : Nat} {A : Around} (r : fB (k + 1) A) (env : Env) : fB k (A.deeper env) :=
 ⟨r.hd, by have := r.dp; show A.depth + 1 + 3 * k + 5 < _; omega, by have := r.un; show A.units + 3 + 16 * k + 200 < _; omega, r.gd⟩
theorem make_depth {A : Around} {C : Addr} {us : List Value} {kw : List (Str × Value)} : (A.under (.builtin "type.__call__" ⟨.ref C :: us, kw⟩)).depth = A.depth + 1 := by
 first | rfl | simp [Around.under, Code.weight, Code.isCreation, Code.isGuard, Code.isCaller, Code.frames, Code.isFrame, guardIds]
theorem make_units {A : Around} {C : Addr} {us : List Value} {kw : List (Str × Value)} : (A.under (.builtin "type.__call__" ⟨.ref C :: us, kw⟩)).units = A.units + 1 := by
 first | rfl | simp [Around.under, Code.cUnits, Code.frames, Code.isFrame]
theorem fB.make {k : Nat} {A : Around} (r : fB (k + 1) A) (C : Addr) (us : List Value) (kw : List (Str × Value)) : fB k (A.under (.builtin "type.__call__" ⟨.ref C :: us, kw⟩)) :=
 ⟨r.hd, by have := r.dp; rw [make_depth]; omega, by have := r.un; rw [make_units]; omega, by first | exact r.gd | simp [Around.under, pushGuards, Code.guards, Code.isGuard, guardIds, r.gd]⟩
theorem fB.depth {k : Nat} {A : Around} (r : fB k A) : A.depth < recursionLimit := by have := r.dp; omega
theorem fB.units {k : Nat} {A : Around} (r : fB k A) : A.units + 64 < cLine := by have := r.un; omega
noncomputable def tNil : TA := fun _ H Q => Q [] H
noncomputable def tCons (ta : TE) (tr : TA) : TA := fun σ H Q => ta σ H fun x H1 => tr σ H1 fun xs H2 => Q (x :: xs) H2
section
variable {X : Cx} {e : Expr} {es : List Expr} {te : TE} {t : TA} {pos : Pos}
theorem aj : PA X [] tNil := fun _ _ _ _ H Q I h => Calls.spliced_nil ⟨[], H, I, .nil, h⟩
theorem aa (ha : PE X e te) (hr : PA X es t) (hs : starEach (e :: es) X.env = (false, eval e X.env) :: starEach es X.env := by rfl) : PA X (e :: es) (tCons te t) := by
 intro pos pins s σ H Q I h
 rw [hs]
 show wpAny _ _ (spliced ((false, eval e X.env) :: backTo pos (starEach es X.env))) _ _ s
 refine Calls.spliced_cons (bZ (ha pins s σ H _ I h) fun u s1 ⟨x, H1, I1, r1, q1⟩ => ?_)
 exact bZ (hr pos pins s1 σ H1 _ I1 q1) fun us s2 ⟨xs, H2, I2, r2, q2⟩ => ⟨x :: xs, H2, I2, .cons r1 r2, q2⟩
noncomputable def tTup (t : TA) : TE := fun σ H Q => t σ H fun xs H1 => xs.length ≤ sizeLine ∧ ∀ p, H1 p = none → Q (.ref p) (upd H1 p (.tup xs))
noncomputable def tLst (t : TA) : TE := fun σ H Q => t σ H fun xs H1 => xs.length ≤ sizeLine ∧ ∀ p, H1 p = none → Q (.ref p) (upd H1 p (.lst xs))
theorem bD {x1} (h : PA X es t) : PE X (.Tuple es x1 pos) (tTup t) := by
 intro pins s σ H Q I hq
 refine wpAny_Tuple_spliced (bZ (h pos pins s σ H _ I hq) fun us s1 ⟨xs, H1, I1, r, z, q⟩ => ⟨by rw [← r.length]; exact z, ?_⟩)
 have hf : H1 s1.heap.objs.size = none := I1.hok.fresh (Nat.le_refl _)
 refine ⟨.ref s1.heap.objs.size, upd H1 s1.heap.objs.size (.tup xs), I1.laid (t' := s1.toks) (fun b u e => Heap.get?_push_of_some _ e) (Nat.le_refl _) ?_, rfl, q _ hf⟩
 exact ⟨z, us, r, ⟨_, Heap.get?_push_size _ rfl, rfl, _, rfl⟩⟩
theorem aZ (h : PA X es t) : PE X (.List es pos) (tLst t) := by
 intro pins s σ H Q I hq
 refine wpAny_List_spliced (bZ (h pos pins s σ H _ I hq) fun us s1 ⟨xs, H1, I1, r, z, q⟩ => ⟨by rw [← r.length]; exact z, ?_⟩)
 have hf : H1 s1.heap.objs.size = none := I1.hok.fresh (Nat.le_refl _)
 refine ⟨.ref s1.heap.objs.size, upd H1 s1.heap.objs.size (.lst xs), I1.laid (t' := s1.toks) (fun b u e => Heap.get?_push_of_some _ e) (Nat.le_refl _) ?_, rfl, q _ hf⟩
 exact ⟨z, us, 0, r, Heap.get?_push_size _ rfl⟩
end
noncomputable abbrev Sp := List V → Hp → VK → XK → Prop
noncomputable abbrev CXT := List Env → Hp → Shared → XK → Value → Shared → Prop
structure Env0 (P : Program) (w : World) (K : PySem.W.Frag) (mg : Str → Option Value) (base : Heap) (A : Around) (outer : List Env) (s : Shared) (H : Hp) : Prop where
 frames : A.frames = some outer
 mod : Mod K mg base
 bs : ∀ b o, base.get? b = some o → s.heap.get? b = some o ∧ H b = none
 bsz : base.objs.size ≤ s.heap.objs.size
 funs : s.heap.FunFrames base outer
 frf : ∀ b ∈ frs outer, H b = none
 hok : HOk P w H s.heap
 bare : AllBare s.gens
noncomputable def CE (outer : List Env) (P : Program) (w : World) (H : Hp) (s : Shared) (Q : VK) (u : Value) (s' : Shared) : Prop :=
 ∃ v H', s'.os = s.os ∧ AllBare s'.gens ∧ Un (frs outer) [] H H' s.heap s'.heap ∧ HOk P w H' s'.heap ∧ RelV v u ∧ Q v H'
noncomputable def CR (CX : CXT) (outer : List Env) (P : Program) (w : World) (H : Hp) (s : Shared) (Q : VK) (E : XK) (r : Result) (s' : Shared) : Prop :=
 match r with
 | .ok (.ret u) => CE outer P w H s Q u s'
 | .ok _ => False
 | .error e => CX outer H s E e s'
structure bB (P : Program) (w : World) (K : PySem.W.Frag) (mg : Str → Option Value) (base : Heap) (CX : CXT) (k : Nat) (f : Addr) (fd : FuncData) (ps : List Str) (sp : Sp) : Prop where
 len : ∀ vs H Q E, sp vs H Q E → vs.length = ps.length
 run : ∀ (A : Around) (outer : List Env) (s : Shared) (H : Hp) (args : Args) (us : List Value) (vs : List V) (Q : VK) (E : XK), fB k A → Env0 P w K mg base A outer s H → BindsTo s fd args (ps.zip us) → Vals vs us → sp vs H Q E →
  codeAny (model P w) A (.call (.ref f) args) (CR CX outer P w H s Q E) s
theorem Env0.make {P : Program} {w : World} {K : PySem.W.Frag} {mg : Str → Option Value} {base : Heap} {A : Around} {outer : List Env} {s : Shared} {H : Hp} (e : Env0 P w K mg base A outer s H) (C : Addr) (us : List Value) (kw : List (Str × Value)) :
    Env0 P w K mg base (A.under (.builtin "type.__call__" ⟨.ref C :: us, kw⟩)) outer s H := ⟨by first | exact e.frames | (simpa [Around.under, Code.envs, Code.isFrame, pushEnvs] using e.frames), e.mod, e.bs, e.bsz, e.funs, e.frf, e.hok, e.bare⟩
section
variable {X : Cx} {pins : List (Addr × Obj)} {σ : St} {H : Hp} {s s' : Shared}
theorem Inv.env0 (I : Inv X pins σ H s) : Env0 X.prog X.w X.K X.mg X.base X.A X.stack s H :=
 ⟨I.ok.frames, I.ok.mod, I.bs, Nat.le_trans I.ok.bsz I.sz, I.stack, I.stkFree, I.hok, I.bare⟩
theorem Inv.after {Q : VK} {u : Value} (I : Inv X pins σ H s) (h : CE X.stack X.prog X.w H s Q u s') : EP X pins σ Q u s' := by
 obtain ⟨v, H', os, bare, un, hok, r, q⟩ := h
 obtain ⟨hh, g, d, t, os'⟩ := s'
 obtain rfl : os' = s.os := os
 exact ⟨v, H', I.call (h' := hh) (g' := g) (d' := d) (t' := t) (ch := []) un hok bare (fun b z => absurd z (by simp)), r, q⟩
end
noncomputable def tCall (sp : Sp) (dvs : List V) (E : XK) (t : TA) : TE := fun σ H Q => t σ H fun vs H1 => sp (vs ++ dvs) H1 Q E
noncomputable def tMeth (C : Addr) (m : Str) (sp : Sp) (dvs : List V) (E : XK) (ta : TE) (t : TA) : TE := fun σ H Q => ta σ H fun x H1 => ∃ a dx fs, x = .ref a ∧ H1 a = some (.ins C dx fs) ∧ fs.lookup m = none ∧
 t σ H1 fun vs H2 => sp (x :: (vs ++ dvs)) H2 Q E
noncomputable def Binds (K : PySem.W.Frag) (fd : FuncData) (ps : List Str) (ds : List Value) : Prop :=
 ∀ (s : Shared) (us : List Value), K.In s.heap → (us ++ ds).length = ps.length → BindsTo s fd ⟨us, []⟩ (ps.zip (us ++ ds))
theorem Binds.all {K : PySem.W.Frag} {fd : FuncData} {ps : List Str} (h : ∀ us : List Value, us.length = ps.length → bindArgs fd ⟨us, []⟩ = pure (ps.zip us)) : Binds K fd ps [] := fun s us _ hl => by
 rw [List.append_nil] at hl ⊢
 exact .of_eq (h us hl)
noncomputable def Passes (CX : CXT) (X : Cx) (E : XK) : Prop := ∀ (pins : List (Addr × Obj)) (σ : St) (H : Hp) (s : Shared) (e : Value) (s' : Shared), Inv X pins σ H s → CX X.stack H s E e s' → X.xe e s'
section
variable {X : Cx} {CX : CXT} {k : Nat} {f C : Addr} {fd : FuncData} {ps : List Str} {sp : Sp} {dvs : List V} {ds : List Value} {E : XK} {x m : Str} {p pos apos : Pos} {e o : Expr} {es : List Expr} {ta : TE} {t : TA}
theorem run_fn {pins : List (Addr × Obj)} {σ : St} {H : Hp} {s : Shared} {Q : VK} {us : List Value} {vs : List V} (F : bB X.prog X.w X.K X.mg X.base CX k f fd ps sp) (hr : fB k X.A) (hb : Binds X.K fd ps ds) (hd : Vals dvs ds) (hx : Passes CX X E)
  (I : Inv X pins σ H s) (r : Vals vs us) (h : sp (vs ++ dvs) H Q E) : wpAny (model X.prog X.w) X.A (call (.ref f) us) (EP X pins σ Q) X.xe s := by
 have r2 : Vals (vs ++ dvs) (us ++ ds) := r.append hd
 have hl : (us ++ ds).length = ps.length := by rw [← r2.length]; exact F.len _ _ _ _ h
 refine wpAny_call (codeAny_mono (F.run X.A X.stack s H ⟨us, []⟩ (us ++ ds) (vs ++ dvs) Q E hr I.env0 (hb s us I.kIn hl) r2 h) fun r s' hq => ?_)
 cases r with
 | error e => exact hx pins σ H s e s' I hq
 | ok fl =>
  cases fl with
  | ret u => exact I.after hq
  | next => exact False.elim hq
  | brk => exact False.elim hq
  | cont => exact False.elim hq
theorem pe_call (F : bB X.prog X.w X.K X.mg X.base CX k f fd ps sp) (hr : fB k X.A) (hg : Gl X x) (hm : X.mg x = some (.ref f)) (hk : PySem.W.keepIn X.K (.ref f) = true) (hb : Binds X.K fd ps ds) (hd : Vals dvs ds) (hx : Passes CX X E)
  (ha : PA X (e :: es) t) (hdb : (x == ("__debug__" : Str)) = false := by decide) (he : starEach (e :: es) X.env = (false, eval e X.env) :: starEach es X.env := by rfl) (hpl : (backTo pos (starEach es X.env)).any (·.1) = false := by rfl) :
  PE X (.Call (.Name x p) (e :: es) [] pos) (tCall sp dvs E t) := by
 intro pins s σ H Q I h
 refine wpAny_Call_Name_kw (ld_glob I hg hm ?_ hdb)
 refine PySem.W.callWith_K (h₀ := X.base) I.ok.mod.kin hk (bZ (ha pos pins s σ H _ I h) fun us s1 ⟨vs, H1, I1, r, q⟩ => ⟨I1.kIn, ?_⟩) he hpl
 exact run_fn F hr hb hd hx I1 r q
theorem pe_meth0 {pl : Sem Bool} (he : PE X o ta) (c : Cls X.K C) (hm : Meth X.K C m f) (F : bB X.prog X.w X.K X.mg X.base CX k f fd ps sp) (hr : fB k X.A) (hb : Binds X.K fd ps ds) (hd : Vals dvs ds) (hx : Passes CX X E)
  (ht : eval (.Call (.Attribute o m apos) [] [] pos) X.env = (do
   let ov ← eval o X.env
   standAt apos.atName
   let (f, first) ← holding [ov] (getMethod ov m pl)
   callWith pos f first (backTo pos (starEach [] X.env)) (backToKw pos (keywordEach [] X.env))) := by rfl) :
  PE X (.Call (.Attribute o m apos) [] [] pos) (tMeth C m sp dvs E ta tNil) := by
 intro pins s σ H Q I h
 refine PySem.W.methodCall_KW (pl := pl) (bZ (he pins s σ H _ I h) fun u s1 ⟨x, H1, I1, rx, a, dx, fs, ex, ea, l, q⟩ => ?_) ht
 subst ex
 obtain rfl : u = Value.ref a := rx
 refine getmeth_ok I1 ea c hm l ?_
 exact PySem.W.callWith_K0 (first := [.ref a]) I1.kIn hm.kp (run_fn (us := [.ref a]) (vs := [.ref a]) F hr hb hd hx I1 (.cons rfl .nil) q)
structure Mk (K : PySem.W.Frag) (C f : Addr) : Prop where
 makes : PySem.W.makesIn K C = true
 init : PySem.W.findIn K (.ref C) "__init__" = some (some (.ref f))
 fn : PySem.W.isFn K (.ref f) = true
 kp : PySem.W.keepIn K (.ref C) = true
end
section
variable {X : Cx} {CX : CXT} {k : Nat} {f C : Addr} {fd : FuncData} {ps ks : List Str} {sp : Sp} {E : XK} {x m : Str} {p pos apos kpos : Pos} {e o : Expr} {es : List Expr} {kws : List Keyword} {te ta : TE} {t tk : TA} {nm : Option Str}
variable {g : List Value → List Value → List Value} {gV : List V → List V → List V}
end
structure aO (N P : List Str) (sc : Scope) : Prop where
 kind : sc.kind = .function
 co : sc.isCoroutine = false
 gen : sc.isGenerator = false
 nd : N.Nodup
 pre : N.take P.length = P
 par : ∀ x ∈ P, sc.names.lookup x = some .local ∨ sc.names.lookup x = some .cell
 nofree : ∀ y ∈ sc.names, y.2 ≠ .free
theorem bindL_out {kindOf : Str → Option NameKind} {x : Str} : ∀ {binds : List (Str × Value)} {m : Str → Option Value}, (∀ v, (x, v) ∉ binds) → bindL kindOf binds m x = m x
  | [], _, _ => rfl
  | (n, v) :: r, m, h => by
    unfold bindL
    rw [bindL_out fun w hw => h w (List.mem_cons_of_mem _ hw)]
    split
    · have : x ≠ n := by rintro rfl; exact h v List.mem_cons_self
      simp [this]
    · rfl
theorem bindC_out {kindOf : Str → Option NameKind} {x : Str} : ∀ {binds : List (Str × Value)} {m : Str → Option Value}, (∀ v, (x, v) ∉ binds) → bindC kindOf binds m x = m x
  | [], _, _ => rfl
  | (n, v) :: r, m, h => by
    unfold bindC
    rw [bindC_out fun w hw => h w (List.mem_cons_of_mem _ hw)]
    split
    · rfl
    · have : x ≠ n := by rintro rfl; exact h v List.mem_cons_self
      simp [this]
theorem bindL_get {kindOf : Str → Option NameKind} {x : Str} {v : Value} : ∀ {P : List Str} {vs : List Value} {i : Nat} {m : Str → Option Value}, P.Nodup → P[i]? = some x → vs[i]? = some v → kindOf x = some .local →
  bindL kindOf (P.zip vs) m x = some v
 | [], _, _, _, _, h, _, _ => by simp at h
 | _ :: _, [], _, _, _, _, h, _ => by simp at h
 | p :: P, w :: vs, 0, m, nd, h1, h2, hk => by
  simp at h1 h2; subst h1; subst h2
  show bindL kindOf ((p, w) :: P.zip vs) m p = _
  unfold bindL
  rw [bindL_out fun v hv => (List.nodup_cons.mp nd).1 (List.of_mem_zip hv).1, if_pos hk]
  simp
 | p :: P, w :: vs, i + 1, m, nd, h1, h2, hk => by
  show bindL kindOf ((p, w) :: P.zip vs) m x = _
  unfold bindL
  exact bindL_get (i := i) (List.nodup_cons.mp nd).2 (by simpa using h1) (by simpa using h2) hk
theorem bindC_get {kindOf : Str → Option NameKind} {x : Str} {v : Value} : ∀ {P : List Str} {vs : List Value} {i : Nat} {m : Str → Option Value}, P.Nodup → P[i]? = some x → vs[i]? = some v → kindOf x ≠ some .local →
  bindC kindOf (P.zip vs) m x = some v
 | [], _, _, _, _, h, _, _ => by simp at h
 | _ :: _, [], _, _, _, _, h, _ => by simp at h
 | p :: P, w :: vs, 0, m, nd, h1, h2, hk => by
  simp at h1 h2; subst h1; subst h2
  show bindC kindOf ((p, w) :: P.zip vs) m p = _
  unfold bindC
  rw [bindC_out fun v hv => (List.nodup_cons.mp nd).1 (List.of_mem_zip hv).1, if_neg hk]
  simp
 | p :: P, w :: vs, i + 1, m, nd, h1, h2, hk => by
  show bindC kindOf ((p, w) :: P.zip vs) m x = _
  unfold bindC
  exact bindC_get (i := i) (List.nodup_cons.mp nd).2 (by simpa using h1) (by simpa using h2) hk
noncomputable def start (N : List Str) (vs : List V) : St := vs.map some ++ List.replicate (N.length - vs.length) none
noncomputable def gY (CX : CXT) (P : Program) (w : World) (K : PySem.W.Frag) (mg : Str → Option Value) (base : Heap) (N : List Str) (qual : Str) (scope : Scope) (f : Addr) (cd : Value) (A : Around) (outer : List Env) (s : Shared) (H : Hp) (E : XK) : Cx where
 prog := P
 w := w
 K := K
 mg := mg
 base := base
 A := A.deeper (envOfC qual scope s.heap.objs.size f cd)
 N := N
 s₀ := s
 H₀ := H
 env := envOfC qual scope s.heap.objs.size f cd
 outer := outer
 stack := envOfC qual scope s.heap.objs.size f cd :: outer
 ex := []
 calm := true
 fn := fun _ => true
 pn := []
 xe := fun e s' => wpAny (model P w) (A.deeper (envOfC qual scope s.heap.objs.size f cd)) (leaving (envOfC qual scope s.heap.objs.size f cd) e) (fun _ s'' => CX outer H s E e s'') (fun e' s'' => CX outer H s E e' s'') s'
theorem cell_has {sc : Scope} {n : Nat} {x : Str} (h : sc.names.lookup x = some .cell) : ∃ c, (cellsFrom n sc.names []).lookup x = some c := by
 have q := PySem.W.cellsFrom_some sc.names n [] (.inl h)
 exact Option.isSome_iff_exists.mp q
theorem inv_start {CX : CXT} {P : Program} {w : World} {K : PySem.W.Frag} {mg : Str → Option Value} {base : Heap} {N ps : List Str} {qual : Str} {scope : Scope} {f : Addr} {cd : Value} {A : Around} {outer : List Env} {s s1 : Shared} {H : Hp} {E : XK} {us : List Value} {vs : List V}
  (S : aO N ps scope) (hd : A.handled = none) (e0 : Env0 P w K mg base A outer s H) (hl : vs.length = ps.length) (r : Vals vs us)
  (x : InCallC s s.heap.objs.size (bindL (envOfC qual scope s.heap.objs.size f cd).kindOf (ps.zip us) fun _ => none) (cellsFrom (s.heap.objs.size + 1) scope.names []) (bindC (envOfC qual scope s.heap.objs.size f cd).kindOf (ps.zip us) fun _ => none) s1) :
  Inv (gY CX P w K mg base N qual scope f cd A outer s H E) [] (start N vs) H s1 := by
 have hpl : ps.length ≤ N.length := by have := congrArg List.length S.pre; rw [List.length_take] at this; omega
 obtain ⟨h1, tk, rfl, hk⟩ := x.done
 have noA : ∀ b : Addr, b ∉ (gY CX P w K mg base N qual scope f cd A outer s H E).ex := fun b z => absurd (show b ∈ ([] : List Addr) from z) (by simp)
 refine ⟨⟨e0.mod, S.kind, rfl, rfl, Nat.le_refl _, fun y z c h1 h2 => ?_, fun y hy => ?_, fun y c _ h => ?_, fun _ => hd, Around.frames_deeper e0.frames, .inr ⟨rfl, rfl⟩, fun b z => absurd z (noA b), e0.bs, e0.bsz, fun b _ _ => noA b, fun b z => absurd z (noA b), e0.funs, e0.frf⟩,
  rfl, e0.bare, Un.kept hk, ⟨_, x.toInCall.ns, fun i y v h1 h2 h3 => ?_⟩, fun y c h => ⟨_, x.cell y c h⟩, e0.hok.fresh (Nat.le_refl _), fun y c h => ?_, fun p hp => absurd (show p ∈ ([] : List (Addr × Obj)) from hp) (by simp), e0.hok.kept hk, ?_⟩
 ·exact name_of_addr x.apart (PySem.mem_of_lookup h1) (PySem.mem_of_lookup h2)
 ·have hy : scope.names.lookup y = some .cell ∨ scope.names.lookup y = some .free := hy
  rcases hy with hy | hy
  ·exact cell_has hy
  ·exact absurd rfl (S.nofree _ (PySem.mem_of_lookup hy))
 ·exact Nat.le_of_lt (x.above y c (PySem.mem_of_lookup h))
 ·have hi : i < vs.length := by
   unfold start at h2
   by_cases hi : i < vs.length
   ·exact hi
   ·rw [List.getElem?_append_right (by simpa using hi)] at h2
    rw [List.getElem?_replicate] at h2
    split at h2 <;> cases h2
  have ha : vs[i]? = some v := by
   unfold start at h2
   rw [List.getElem?_append_left (by simpa using hi), List.getElem?_map] at h2
   cases e : vs[i]? with
   | none => rw [e] at h2; cases h2
   | some a => rw [e] at h2; cases h2; rfl
  obtain ⟨u, hu, rv⟩ := r.get ha
  have hp : ps[i]? = some y := by
   rw [← S.pre, List.getElem?_take_of_lt (by omega)]; exact h1
  have ndP : ps.Nodup := by rw [← S.pre]; exact S.nd.sublist (List.take_sublist _ _)
  refine ⟨u, rv, ?_⟩
  rcases S.par y (List.mem_of_getElem? hp) with k | k
  ·exact .inl ⟨k, bindL_get ndP hp hu k⟩
  ·obtain ⟨c, e⟩ := cell_has (n := s.heap.objs.size + 1) k
   refine .inr ⟨.inl k, c, e, ?_⟩
   have q := x.cell y c e
   rw [bindC_get ndP hp hu (by show scope.names.lookup y ≠ _; rw [k]; decide)] at q
   exact q
 ·exact e0.hok.fresh (Nat.le_of_lt (x.above y c (PySem.mem_of_lookup h)))
 ·unfold start
  show _ = N.length
  rw [List.length_append, List.length_map, List.length_replicate]
  omega
theorem fn_of {CX : CXT} {P : Program} {w : World} {K : PySem.W.Frag} {mg : Str → Option Value} {base : Heap} {k : Nat} {f : Addr} {name qual : Str} {params : Arguments} {body : List Stmt} {scope : Scope} {dV kV doc pm cdv ct oc : Value} {an od : Option Addr}
  {osl : Array (Option Value)} {N ps : List Str} {sp : Sp} (lk : K.lookup f = some ⟨oc, od, .func (PySem.W.fnOf name qual params body scope dV kV doc pm an cdv ct), osl⟩) (hcd : PySem.W.codeIn K cdv qual = true) (S : aO N ps scope)
  (len : ∀ vs H Q E, sp vs H Q E → vs.length = ps.length)
  (hbody : ∀ (A : Around) (outer : List Env) (s : Shared) (H : Hp) (vs : List V) (Q : VK) (E : XK), fB k (A.deeper (envOfC qual scope s.heap.objs.size f cdv)) → sp vs H Q E →
   ∃ t, PSs (gY CX P w K mg base N qual scope f cdv A outer s H E) body t ∧ t { nx := fun _ H' => Q .non H', rt := Q } (start N vs) H) :
  bB P w K mg base CX (k + 1) f (PySem.W.fnOf name qual params body scope dV kV doc pm an cdv ct) ps sp := by
 refine ⟨len, fun A outer s H args us vs Q E hr e0 hb r hsp => ?_⟩
 have hl := len _ _ _ _ hsp
 have KX : K.In s.heap := e0.mod.kin.keeps fun b o e => (e0.bs b o e).1
 have lim : s.heap.NoLimit := e0.mod.nolimit.keeps fun b o e => (e0.bs b o e).1
 have hkind : ∀ y ∈ ps.zip us, scope.names.lookup y.1 = some .local ∨ (scope.names.lookup y.1 = some .cell ∧ ((cellsFrom (s.heap.objs.size + 1) scope.names []).lookup y.1).isSome = true) := fun ⟨n, v⟩ hy => by
  rcases S.par n (List.of_mem_zip hy).1 with q | q
  ·exact .inl q
  ·exact .inr ⟨q, PySem.W.cellsFrom_some _ _ _ (.inl q)⟩
 refine codeAny_call_function hr.depth (KX _ _ lk) rfl S.co S.gen rfl (PySem.W.codeRec_of KX hcd) (hb _ _ _ _ ?_)
 refine wpAny_newFunctionEnv_cells S.kind hkind fun env he s1 x => ?_
 subst he
 refine ⟨lim.keeps x.toInCall.keep, codeAny_func ?_⟩
 obtain ⟨t, ht, hq⟩ := hbody A outer s H vs Q E (hr.deeper _) hsp
 have I : Inv (gY CX P w K mg base N qual scope f cdv A outer s H E) [] (start N vs) H s1 := inv_start S hr.hd e0 hl r x
 refine wpAny_mono (ht [] s1 (start N vs) H _ I hq) (fun fl s' hs => ?_) fun e s' hs => hs
 have fin : ∀ {σ' : St} {H' : Hp} {v : V} {u : Value}, Inv (gY CX P w K mg base N qual scope f cdv A outer s H E) [] σ' H' s' → RelV v u → Q v H' → CE outer P w H s Q u s' :=
  fun {σ' H' v u} J rv q => ⟨v, H', J.os, J.bare, J.base, J.hok, rv, q⟩
 cases fl with
 | ret u =>
  obtain ⟨v, σ', H', J, rv, q⟩ := hs
  exact fin J rv q
 | next =>
  obtain ⟨σ', H', J, q⟩ := hs
  exact fin (v := V.non) (u := Value.none) J rfl q
 | brk =>
  obtain ⟨_, _, _, q⟩ := hs
  exact False.elim q
 | cont =>
  obtain ⟨_, _, _, q⟩ := hs
  exact False.elim q
section
variable {X : Cx} {x : Str} {p pos : Pos} {e : Expr} {es : List Expr} {t : TA} {id T : String} {r : List V → Hp → VK → Prop}
noncomputable def tCB (r : List V → Hp → VK → Prop) (t : TA) : TE := fun σ H Q => t σ H fun vs H1 => r vs H1 Q
theorem aN (hc : gU X (.builtin id) r) (hg : Gl X x) (hm : X.mg x = none) (hv : bootBuiltins x = some (.builtin id)) (ha : PA X (e :: es) t) (hn : x ≠ "__name__" := by decide) (hdb : (x == ("__debug__" : Str)) = false := by decide)
  (he : starEach (e :: es) X.env = (false, eval e X.env) :: starEach es X.env := by rfl) (hpl : (backTo pos (starEach es X.env)).any (·.1) = false := by rfl) : PE X (.Call (.Name x p) (e :: es) [] pos) (tCB r t) := by
 intro pins s σ H Q I h
 refine wpAny_Call_Name_kw (ld_blt I hg hm hv ?_ hn hdb)
 exact PyProof.Rows.callWith_builtin1 (bZ (ha pos pins s σ H _ I h) fun us s1 ⟨vs, H1, I1, r1, q1⟩ => hc pins s1 σ H1 vs us Q I1 r1 q1) he hpl
theorem cQ (hc : gU X (.type T) r) (hg : Gl X x) (hm : X.mg x = none) (hv : bootBuiltins x = some (.type T)) (ha : PA X (e :: es) t) (hn : x ≠ "__name__" := by decide) (hdb : (x == ("__debug__" : Str)) = false := by decide)
  (he : starEach (e :: es) X.env = (false, eval e X.env) :: starEach es X.env := by rfl) (hpl : (backTo pos (starEach es X.env)).any (·.1) = false := by rfl) : PE X (.Call (.Name x p) (e :: es) [] pos) (tCB r t) := by
 intro pins s σ H Q I h
 refine wpAny_Call_Name_kw (ld_blt I hg hm hv ?_ hn hdb)
 exact PyProof.Rows.callWith_type1 (bZ (ha pos pins s σ H _ I h) fun us s1 ⟨vs, H1, I1, r1, q1⟩ => hc pins s1 σ H1 vs us Q I1 r1 q1) he hpl
end
end L2
namespace HT
open PySem PyProof.Rows
section
open PySem.SeqAt
open PySem.AutoSeq1 (wpAny_loadPart')
open PySem.MeetsSeq PySem.MeetsSeq2 PySem.MeetsSeq3
end
section
variable {prog : Program} {w : World} {A : Around} {E : Value → Shared → Prop} {s : Shared}
theorem cat_tup {t b : Addr} {vs ws : List Value} {Q : Value → Shared → Prop} (ht : IsTup s.heap t vs.toArray) (hb : IsTup s.heap b ws.toArray) (hv : vs ≠ [])
  (h1 : ws = [] → Q (.ref t) s) (h2 : ws ≠ [] → Q (.ref s.heap.objs.size) { s with heap := s.heap.push { cls := .type "tuple", data := .seq (vs ++ ws).toArray } })
  (hsz : vs.length + ws.length ≤ sizeLine) : wpAny (model prog w) A (binaryOp .Add (.ref t) (.ref b)) Q E s := by
 obtain ⟨⟨cls, dd, data, sl⟩, ho, hc, n, hd⟩ := id ht
 obtain ⟨⟨cls2, dd2, data2, sl2⟩, ho2, hc2, n2, hd2⟩ := id hb
 simp only at hc hd hc2 hd2
 subst hc hd hc2 hd2
 have e : vs.toArray ++ ws.toArray = (vs ++ ws).toArray := by simp
 by_cases hw : ws = []
 ·exact concat_meets ⟨_, ho, rfl⟩ ⟨_, ho2, rfl⟩ noFill_tuple_add seq_tuple_add PySem.F.slot_tuple_add PySem.F.entry_tuple_add (PySem.F.args_tuple_add_2 _ _)
   (tuple_addW1 t b vs.toArray ws.toArray n n2 dd dd2 sl sl2 (by simpa using hv) (by simp [hw])) ⟨ho, ho2, h1 hw⟩
 ·refine concat_meets ⟨_, ho, rfl⟩ ⟨_, ho2, rfl⟩ noFill_tuple_add seq_tuple_add PySem.F.slot_tuple_add PySem.F.entry_tuple_add (PySem.F.args_tuple_add_2 _ _)
   (tuple_addW2 t b vs.toArray ws.toArray n n2 dd dd2 sl sl2 (by simpa using hv) (by simpa using hw) (by rw [List.size_toArray, List.size_toArray]; exact hsz)) ⟨ho, ho2, ?_⟩
  rw [e]
  exact h2 hw
noncomputable def sIx (n d : Nat) : Option Int → Nat
 | none => d
 | some v => if v < 0 then (v + (n : Int)).toNat else min v.toNat n
theorem sIx_none (n d : Nat) : sIx n d none = d := rfl
theorem sIx_nat (n d k : Nat) : sIx n d (some (k : Int)) = min k n := by
 show (if (k : Int) < 0 then ((k : Int) + (n : Int)).toNat else min (k : Int).toNat n) = min k n
 rw [if_neg (by omega), Int.toNat_natCast]
theorem sIx_le (n d : Nat) (hd : d ≤ n) (o : Option Int) : sIx n d o ≤ n := by
 cases o with
 | none => exact hd
 | some v =>
  show (if v < 0 then (v + (n : Int)).toNat else min v.toNat n) ≤ n
  by_cases hv : v < 0
  ·rw [if_pos hv]; omega
  ·rw [if_neg hv]; exact Nat.min_le_right _ _
theorem clip_eq (v : Int) (n d : Nat) : (if v < 0 then max (v + (n : Int)) 0 else min v (n : Int)) = ((sIx n d (some v) : Nat) : Int) := by
 show (if v < 0 then max (v + (n : Int)) 0 else min v (n : Int)) = (((if v < 0 then (v + (n : Int)).toNat else min v.toNat n) : Nat) : Int)
 by_cases hv : v < 0
 ·simp only [if_pos hv]; omega
 ·simp only [if_neg hv]; omega
theorem adjust_gen (lo hi : Option Int) (n : Nat) : Builtin.Slice.sliceAdjust lo hi 1 (n : Int) = (((sIx n 0 lo : Nat) : Int), ((sIx n n hi : Nat) : Int)) := by
 have h1 : ¬ ((1 : Int) < 0) := by omega
 unfold Builtin.Slice.sliceAdjust
 simp only [h1, if_false]
 refine Prod.ext ?_ ?_
 ·cases lo with
  | none => rfl
  | some v => exact clip_eq v n 0
 ·cases hi with
  | none => rfl
  | some v => exact clip_eq v n n
theorem places_gen (i j : Nat) : Builtin.Slice.slicePlaces (i : Int) (j : Int) 1 = j - i := by
 unfold Builtin.Slice.slicePlaces
 have h1 : (1 : Int) > 0 := by omega
 simp only [h1, if_true, Int.ediv_one]
 split <;> omega
theorem slicePart_ {v : Value} {o : Option Int} {Q : Option Int → Shared → Prop} (p : IsPart v o) (h : Q o s) : wpAny (model prog w) A (Builtin.Slice.slicePartIndex v) Q E s := by
 cases p with
 | none => exact slicePart_none h
 | int i t => exact slicePart_int h
theorem sliceApplied_gen {sl : Addr} {vl vu : Value} {lo hi : Option Int} {n : Nat} {Q : Int × Int × Nat → Shared → Prop} (hs : s.heap.IsSliceOf sl vl vu .none) (pl : IsPart vl lo) (pu : IsPart vu hi)
    (h : Q (((sIx n 0 lo : Nat) : Int), 1, sIx n n hi - sIx n 0 lo) s) : wpAny (model prog w) A (Builtin.Slice.sliceApplied (.ref sl) (pure (n : Int))) Q E s := by
  obtain ⟨os, hos, hcs, hds⟩ := id hs
  unfold Builtin.Slice.sliceApplied Builtin.Slice.sliceFields
  refine wpAny_bind (wpAny_bind (wpAny_field hos hds (x := vl) rfl (wpAny_bind (wpAny_field hos hds (x := vu) rfl (wpAny_bind (wpAny_field hos hds (x := .none) rfl (wpAny_pure ?_)))))))
  refine wpAny_bind (slicePart_none ?_)
  show wpAny _ _ (if ((1 : Int) == 0) = true then _ else _) _ _ s
  rw [if_neg (by decide)]
  refine wpAny_bind (slicePart_ pl (wpAny_bind (slicePart_ pu (wpAny_bind (wpAny_pure ?_)))))
  show wpAny _ _ (match Builtin.Slice.sliceAdjust lo hi 1 (n : Int) with | (lo, hi) => pure (lo, (1 : Int), Builtin.Slice.slicePlaces lo hi 1)) _ _ s
  rw [adjust_gen lo hi n]
  show wpAny _ _ (pure (((sIx n 0 lo : Nat) : Int), (1 : Int), Builtin.Slice.slicePlaces ((sIx n 0 lo : Nat) : Int) ((sIx n n hi : Nat) : Int) 1)) _ _ s
  rw [places_gen]
  exact wpAny_pure h
theorem pick_gen (xs : Array Value) (i k : Nat) : ((List.range k).filterMap fun (m : Nat) => xs[((i : Int) + (m : Int) * 1).toNat]?).toArray = ((xs.toList.drop i).take k).toArray := by
 have e : (fun (m : Nat) => xs[((i : Int) + (m : Int) * 1).toNat]?) = fun m => xs[i + m]? := by
  funext m
  have : ((i : Int) + (m : Int) * 1).toNat = i + m := by omega
  rw [this]
 rw [e]
 have := pick_run xs i k
 rw [List.filterMap_map] at this
 have e2 : ((fun x => xs[x]?) ∘ fun x => i + x) = fun m => xs[i + m]? := rfl
 rw [e2] at this
 rw [this]
theorem getItem_tuple_cut {t sl : Addr} {items : Array Value} {vl vu : Value} {lo hi : Option Int} {Q : Value → Shared → Prop} (ht : IsTup s.heap t items) (hs : s.heap.IsSliceOf sl vl vu .none) (pl : IsPart vl lo) (pu : IsPart vu hi)
  (hw : ¬ (sIx items.size 0 lo = 0 ∧ sIx items.size items.size hi = items.size))
  (h : Q (.ref s.heap.objs.size) { s with heap := s.heap.push { cls := .type "tuple", data := .seq ((items.toList.drop (sIx items.size 0 lo)).take (sIx items.size items.size hi - sIx items.size 0 lo)).toArray } })
  (hsz : items.size ≤ sizeLine) : wpAny (model prog w) A (getItem (.ref t) (.ref sl)) Q E s := by
 have htake : sizeOk (.seq ((items.toList.drop (sIx items.size 0 lo)).take (sIx items.size items.size hi - sIx items.size 0 lo)).toArray) := by
  show ((items.toList.drop (sIx items.size 0 lo)).take (sIx items.size items.size hi - sIx items.size 0 lo)).toArray.size ≤ sizeLine
  rw [List.size_toArray, List.length_take, List.length_drop, Array.length_toList]
  omega
 have hj : sIx items.size items.size hi ≤ items.size := sIx_le _ _ (Nat.le_refl _) hi
 obtain ⟨os, hos, hcs, hds⟩ := id hs
 have hTs : s.TypeIs (.ref sl) "slice" := ⟨os, hos, hcs⟩
 unfold getItem
 try with_reducible refine wpAny_holding ?_
 first | refine wpAny_bind (wpAny_pure ?_) | skip
 refine wpAny_bind (wpAny_sequenceKey ht.typeIs (by decide) ?_)
 refine wpAny_bind (wpAny_callSpecial?_slot (name := Str.ofString "__getitem__") ht.typeIs PyProof.Rows.slot_tuple_getitem
  (wpAny_call_entry PyProof.Rows.slot_tuple_getitem ht.typeIs entry_tuple_getitem ?_ (args_tuple_getitem _ _)))
 show wpAny _ _ (Builtin.Tuple.tupleItemsOf (.ref t) >>= _) _ _ s
 refine wpAny_bind (tupleItemsOf_ ht ?_)
 refine wpAny_bind (wpAny_typeOf hTs ?_)
 rw [if_pos (by decide)]
 refine wpAny_bind (sliceApplied_gen hs pl pu ?_)
 have hno : ¬ ((((sIx items.size 0 lo : Nat) : Int) == 0 && (1 : Int) == 1 && (sIx items.size items.size hi - sIx items.size 0 lo) == items.size) = true) := by
  intro q
  rw [Bool.and_eq_true, Bool.and_eq_true] at q
  have q1 : ((sIx items.size 0 lo : Nat) : Int) = 0 := eq_of_beq q.1.1
  have q2 : sIx items.size items.size hi - sIx items.size 0 lo = items.size := eq_of_beq q.2
  exact hw ⟨by omega, by omega⟩
 show wpAny _ _ (if (((sIx items.size 0 lo : Nat) : Int) == 0 && (1 : Int) == 1 && (sIx items.size items.size hi - sIx items.size 0 lo) == items.size) = true then _ else _) _ _ s
 rw [if_neg hno, pick_gen]
 first
  | exact wpAny_bind (m := Builtin.Tuple.tupleExact _) (wpAny_newObj_type (wpAny_pure ⟨_, rfl, wpAny_pure h⟩) htake)
  | exact wpAny_bind (m := Builtin.Tuple.tupleExact _) (wpAny_newObj_type (wpAny_bind (wpAny_pure (wpAny_pure ⟨_, rfl, wpAny_pure h⟩))) htake)
  | exact wpAny_bind (wpAny_bind (m := Builtin.Tuple.tupleExact _) (wpAny_newObj_type (wpAny_pure (wpAny_pure ⟨_, rfl, wpAny_pure h⟩)) htake))
  | exact wpAny_bind (wpAny_bind (m := Builtin.Tuple.tupleExact _) (wpAny_newObj_type (wpAny_pure ⟨_, rfl, wpAny_pure h⟩) htake))
end
end HT
namespace L2
open PySem PySem.Spec PyProof.Rows
noncomputable abbrev TO := St → Hp → (Option Int → Hp → Prop) → Prop
noncomputable def PO (X : Cx) (e : Option Expr) (t : TO) : Prop :=
 ∀ (pins : List (Addr × Obj)) (s : Shared) (σ : St) (H : Hp) (Q : Option Int → Hp → Prop), Inv X pins σ H s → t σ H Q →
  wpAny (model X.prog X.w) X.A (evalPart e X.env) (fun u s' => ∃ o H', Inv X pins σ H' s' ∧ IsPart u o ∧ Q o H') X.xe s
noncomputable def tNoPart : TO := fun _ H Q => Q none H
noncomputable def tPart (t : TE) : TO := fun σ H Q => t σ H fun x H1 => ∃ i, x = .int i ∧ Q (some i) H1
section
variable {X : Cx} {e : Expr} {te : TE} {lo hi : Option Expr} {tl th : TO} {pos p2 : Pos}
theorem dW : PO X none tNoPart := by
 intro pins s σ H Q I h
 rw [evalPart_none]
 exact wpAny_pure ⟨none, H, I, .none, h⟩
theorem dR (h : PE X e te) : PO X (some e) (tPart te) := by
 intro pins s σ H Q I hw
 rw [evalPart_some]
 refine bZ (h pins s σ H _ I hw) fun u s1 ⟨x, H1, I1, r1, q1⟩ => ?_
 obtain ⟨i, rfl, q⟩ := q1
 obtain ⟨t, rfl⟩ := r1
 exact ⟨some i, H1, I1, .int i t, q⟩
noncomputable def SlR (X : Cx) (r : V → Option Int → Option Int → Hp → VK → Prop) : Prop :=
 ∀ (pins : List (Addr × Obj)) (s : Shared) (σ : St) (H : Hp) (x : V) (v vl vu : Value) (lo hi : Option Int) (sl : Addr) (Q : VK), Inv X pins σ H s → RelV x v → s.heap.IsSliceOf sl vl vu .none → IsPart vl lo → IsPart vu hi → r x lo hi H Q →
  ∃ T id, typeLookup (.type T) "__getitem__" = pure (some (.builtin id)) ∧ s.TypeIs v T ∧ wpAny (model X.prog X.w) X.A (getItem v (.ref sl)) (EP X pins σ Q) X.xe s
noncomputable def tSl (r : V → Option Int → Option Int → Hp → VK → Prop) (te : TE) (tl th : TO) : TE := fun σ H Q => te σ H fun x H1 => tl σ H1 fun l H2 => th σ H2 fun u H3 => r x l u H3 Q
theorem dq {r : V → Option Int → Option Int → Hp → VK → Prop} (hr : SlR X r) (he : PE X e te) (hl : PO X lo tl) (hu : PO X hi th) : PE X (.Subscript e (.Slice lo hi none p2) pos) (tSl r te tl th) := by
 intro pins s σ H Q I h
 refine Subscript_ (bZ (he pins s σ H _ I h) fun v s1 ⟨x, H1, I1, r1, q1⟩ => ?_)
 refine wpAny_Slice (bZ (hl pins s1 σ H1 _ I1 q1) fun vl s2 ⟨l, H2, I2, pl, q2⟩ => bZ (hu pins s2 σ H2 _ I2 q2) fun vu s3 ⟨u, H3, I3, pu, q3⟩ => ?_)
 rw [evalPart_none]
 refine wpAny_pure ?_
 have I4 : Inv X pins σ H3 { s3 with heap := s3.heap.push { cls := .type "slice", data := .fields #[vl, vu, .none] } } := I3.kept (t' := s3.toks) fun b ob q => Heap.get?_push_of_some _ q
 obtain ⟨T, id, hT, ht, hg⟩ := hr pins { s3 with heap := s3.heap.push { cls := .type "slice", data := .fields #[vl, vu, .none] } } σ H3 x v vl vu l u s3.heap.objs.size Q I4 r1 (Heap.IsSliceOf.new ..) pl pu q3
 show wpAny (model X.prog X.w) X.A (subscriptTail e (.Slice lo hi none p2) v (.ref s3.heap.objs.size)) (EP X pins σ Q) X.xe { s3 with heap := s3.heap.push { cls := .type "slice", data := .fields #[vl, vu, .none] } }
 exact tail_any (ops := [.ref s3.heap.objs.size, v]) ht hT hg (by with_unfolding_all rfl)
noncomputable def aX (xs : List V) (lo hi : Option Int) : List V := (xs.drop (HT.sIx xs.length 0 lo)).take (HT.sIx xs.length xs.length hi - HT.sIx xs.length 0 lo)
theorem dZ (xs : List V) (lo hi : Option Int) : (aX xs lo hi).length ≤ xs.length := by
 unfold aX
 rw [List.length_take, List.length_drop]
 omega
noncomputable def rSlT (K : PySem.W.Frag) : V → Option Int → Option Int → Hp → VK → Prop := fun x lo hi H Q => ∃ a xs, x = .ref a ∧ dC K H a xs ∧
 ¬ (HT.sIx xs.length 0 lo = 0 ∧ HT.sIx xs.length xs.length hi = xs.length) ∧ ∀ p, H p = none → Q (.ref p) (upd H p (.tup (aX xs lo hi)))
theorem sl_tup : SlR X (rSlT X.K) := by
 intro pins s σ H x v vl vu lo hi sl Q I rx hs pl pu h
 obtain ⟨a, xs, rfl, hx, hw, q⟩ := h
 cases rx
 obtain ⟨its, r, ht, hz⟩ := I.tuple hx
 have hlen : its.toArray.size = xs.length := by rw [List.size_toArray]; exact r.length.symm
 refine ⟨"tuple", _, PyProof.Rows.slot_tuple_getitem.lookup, ht.typeIs, ?_⟩
 refine HT.getItem_tuple_cut ht hs pl pu (by rw [hlen]; exact hw) ?_ (by rw [hlen]; exact hz)
 rw [hlen]
 refine ⟨.ref s.heap.objs.size, _, I.laid (t' := s.toks) (o := .tup (aX xs lo hi)) (fun b ob q => Heap.get?_push_of_some _ q) (Nat.le_refl _) ?_, rfl, q _ (I.hok.fresh (Nat.le_refl _))⟩
 exact ⟨Nat.le_trans (dZ xs lo hi) hz, _, (r.drop (HT.sIx xs.length 0 lo)).take (HT.sIx xs.length xs.length hi - HT.sIx xs.length 0 lo), IsTup.new _ _⟩
noncomputable def rCatT (K : PySem.W.Frag) : R2 := fun x y H Q => ∃ a b xs ys, x = .ref a ∧ y = .ref b ∧ dC K H a xs ∧ dC K H b ys ∧ xs ≠ [] ∧ xs.length + ys.length ≤ sizeLine ∧
 (ys = [] → Q (.ref a) H) ∧ (ys ≠ [] → ∀ p, H p = none → Q (.ref p) (upd H p (.tup (xs ++ ys))))
theorem Vals.nil_iff {xs : List V} {us : List Value} (r : Vals xs us) : us = [] ↔ xs = [] := by
 cases r with
 | nil => simp
 | cons _ _ => simp
theorem op_catT : OpR X (binaryOp .Add) (rCatT X.K) := by
 intro pins s σ H x y v u Q I rx ry h
 obtain ⟨a, b, xs, ys, rfl, rfl, ha, hb, hx, hz, q1, q2⟩ := h
 cases rx
 cases ry
 obtain ⟨its, r1, p1, _⟩ := I.tuple ha
 obtain ⟨its2, r2, p2, _⟩ := I.tuple hb
 refine HT.cat_tup p1 p2 (fun z => hx (r1.nil_iff.mp z)) (fun z => ⟨.ref a, H, I, rfl, q1 (r2.nil_iff.mp z)⟩) (fun z => ?_) (by rw [← r1.length, ← r2.length]; exact hz)
 refine ⟨.ref s.heap.objs.size, _, I.laid (t' := s.toks) (o := .tup (xs ++ ys)) (fun b ob q => Heap.get?_push_of_some _ q) (Nat.le_refl _) ?_, rfl, q2 (fun w => z (r2.nil_iff.mpr w)) _ (I.hok.fresh (Nat.le_refl _))⟩
 exact ⟨by rw [List.length_append]; exact hz, _, r1.append r2, IsTup.new _ _⟩
end
noncomputable def ixN (n : Nat) (i : Int) : Option Nat := if 0 ≤ i then (if i < n then some i.toNat else none) else if -(n : Int) ≤ i then some (i + n).toNat else none
noncomputable def atI {α : Type} (xs : List α) (i : Int) : Option α := (ixN xs.length i).bind fun j => xs[j]?
theorem ixN_seq {n : Nat} {i : Int} {j : Nat} (h : ixN n i = some j) : seqIndex? i n = some j ∧ j < n ∧ -(n : Int) ≤ i ∧ i < n := by
 unfold ixN at h
 by_cases h0 : 0 ≤ i
 ·rw [if_pos h0] at h
  by_cases h1 : i < n
  ·rw [if_pos h1] at h
   have e : i.toNat = j := Option.some.inj h
   exact ⟨by rw [seqIndex_of h0 h1, e], by omega, by omega, h1⟩
  ·rw [if_neg h1] at h; cases h
 ·rw [if_neg h0] at h
  by_cases h1 : -(n : Int) ≤ i
  ·rw [if_pos h1] at h
   have e : (i + n).toNat = j := Option.some.inj h
   exact ⟨by rw [seqIndex_neg (by omega) h1, e], by omega, h1, by omega⟩
  ·rw [if_neg h1] at h; cases h
theorem atI_get {α : Type} {xs : List α} {i : Int} {v : α} (h : atI xs i = some v) : ∃ j, seqIndex? i xs.length = some j ∧ xs[j]? = some v ∧ j < xs.length ∧ -(xs.length : Int) ≤ i ∧ i < xs.length := by
 unfold atI at h
 cases e : ixN xs.length i with
 | none => rw [e] at h; cases h
 | some j =>
  rw [e] at h
  obtain ⟨h1, h2, h3, h4⟩ := ixN_seq e
  exact ⟨j, h1, h, h2, h3, h4⟩
theorem aW {α : Type} {xs : List α} {j : Nat} {v : α} (h : xs[j]? = some v) : atI xs (j : Int) = some v := by
 have hj : j < xs.length := (List.getElem?_eq_some_iff.mp h).1
 have e : ixN xs.length (j : Int) = some j := by
  unfold ixN
  rw [if_pos (by omega), if_pos (by omega)]; simp
 unfold atI; rw [e]; exact h
noncomputable def PlainIx (b : Expr) : Prop := ∀ o i, subscripted b false o i = operate [o, i] (getItem o i)
noncomputable def IxR (X : Cx) (r : R2) : Prop :=
 ∀ (value slice : Expr) (pins : List (Addr × Obj)) (s : Shared) (σ : St) (H : Hp) (x y : V) (v u : Value) (Q : VK), Inv X pins σ H s → RelV x v → RelV y u → r x y H Q →
  subscripted slice false v u = operate [v, u] (getItem v u) → wpAny (model X.prog X.w) X.A (subscriptTail value slice v u) (EP X pins σ Q) X.xe s
noncomputable def MtR (X : Cx) (id : String) (r : V → List V → Hp → VK → Prop) : Prop :=
 ∀ (pins : List (Addr × Obj)) (s : Shared) (σ : St) (H : Hp) (x : V) (xs : List V) (v : Value) (us : List Value) (Q : VK), Inv X pins σ H s → RelV x v → Vals xs us → r x xs H Q →
  wpAny (model X.prog X.w) X.A (call (.builtin id) (v :: us)) (EP X pins σ Q) X.xe s
section
variable {X : Cx} {a b : Expr} {ta tb : TE} {pos : Pos}
theorem bM {r : R2} (hr : IxR X r) (ha : PE X a ta) (hb : PE X b tb) (hs : PlainIx b) : PE X (.Subscript a b pos) (tOp r ta tb) := by
 intro pins s σ H Q I h
 exact Subscript_ (binT ha hb I h fun v u s2 x y H2 I2 rx ry q => hr a b pins s2 σ H2 x y v u Q I2 rx ry q (hs _ _))
noncomputable def rIxL (K : PySem.W.Frag) : R2 := fun x y H Q => ∃ p xs i v, x = .ref p ∧ y = .int i ∧ aU K H p xs ∧ atI xs i = some v ∧ Q v H
noncomputable def rIxT (K : PySem.W.Frag) : R2 := fun x y H Q => ∃ p xs i v, x = .ref p ∧ y = .int i ∧ dC K H p xs ∧ atI xs i = some v ∧ Q v H
theorem ix_list : IxR X (rIxL X.K) := by
 intro value slice pins s σ H x y v u Q I rx ry h hs
 obtain ⟨p, xs, i, z, rfl, rfl, hq, he, q⟩ := h
 cases rx
 obtain ⟨t, rfl⟩ := ry
 obtain ⟨its, r, pl, hz⟩ := I.list hq
 obtain ⟨j, h1, h2, h3, h4, h5⟩ := atI_get he
 obtain ⟨w, ew, rw'⟩ := r.get h2
 have hl := r.length
 have hn := line63
 have fin : EP X pins σ Q w s := ⟨z, H, I, rw', q⟩
 by_cases h0 : 0 ≤ i
 ·have hj : i.toNat = j := by
   rw [seqIndex_of h0 h5] at h1
   exact Option.some.inj h1
  exact item_listR pl.isList h0 (by omega) (by rw [hj]; simpa using ew) fin hs
 ·have hj : (i + (its.toArray.size : Int)).toNat = j := by
   rw [seqIndex_neg (by omega) h4] at h1
   rw [List.size_toArray, ← hl]
   exact Option.some.inj h1
  exact subscriptTail_builtinR (x := w) pl.isList.typeIs slot_list_getitem.lookup
   (wpAny_getItem_list_neg (Q := fun r s' => r = w ∧ EP X pins σ Q r s') pl.isList (by omega) (by rw [List.size_toArray] <;> omega) (by omega) (by rw [hj]; simpa using ew) ⟨rfl, fin⟩) hs
theorem ix_tup : IxR X (rIxT X.K) := by
 intro value slice pins s σ H x y v u Q I rx ry h hs
 obtain ⟨p, xs, i, z, rfl, rfl, hq, he, q⟩ := h
 cases rx
 obtain ⟨t, rfl⟩ := ry
 obtain ⟨its, r, pl, hz⟩ := I.tuple hq
 obtain ⟨j, h1, h2, h3, h4, h5⟩ := atI_get he
 obtain ⟨w, ew, rw'⟩ := r.get h2
 have hl := r.length
 have hn := line63
 have fin : EP X pins σ Q w s := ⟨z, H, I, rw', q⟩
 exact subscriptTail_builtinR (x := w) pl.typeIs slot_tuple_getitem.lookup
  (getItem_tuple (j := j) (Q := fun r s' => r = w ∧ EP X pins σ Q r s') pl (by omega) (by omega) (by rw [List.size_toArray, ← hl]; exact h1) (by simpa using ew) ⟨rfl, fin⟩) hs
theorem mapSeq_set (its : List Value) (n j : Nat) (u : Value) : Obj.mapSeq (·.setIfInBounds j u) { cls := .type "list", data := .seq its.toArray n } = { cls := .type "list", data := .seq (its.set j u).toArray n } := by
 simp [Obj.mapSeq]
theorem Inv.lst {pins : List (Addr × Obj)} {σ : St} {H : Hp} {s : Shared} {p : Addr} {xs : List V} (I : Inv X pins σ H s) (h : H p = some (.lst xs)) :
  ∃ (its : List Value) (n : Nat), Vals xs its ∧ s.heap.get? p = some { cls := .type "list", data := .seq its.toArray n } ∧ xs.length ≤ sizeLine := by
 obtain ⟨z, its, n, r, e⟩ := I.hok p _ h
 exact ⟨its, n, r, e, z⟩
theorem Inv.lstUpd {pins : List (Addr × Obj)} {σ : St} {H : Hp} {s : Shared} {p : Addr} {xs ys : List V} {its its' : List Value} {n n' : Nat} {f : Obj → Obj} (I : Inv X pins σ H s) (h : H p = some (.lst xs))
  (ho : s.heap.get? p = some { cls := .type "list", data := .seq its.toArray n }) (hf : f { cls := .type "list", data := .seq its.toArray n } = { cls := .type "list", data := .seq its'.toArray n' }) (r : Vals ys its') (hz : ys.length ≤ sizeLine) (t : Nat) :
  Inv X pins σ (upd H p (.lst ys)) { s with heap := s.heap.update p f, toks := t } := by
 have e : (s.heap.update p f).get? p = some { cls := .type "list", data := .seq its'.toArray n' } := by
  rw [Heap.get?_update_self f ho (by rw [hf] <;> rfl), hf]
 refine I.write (x := p) (e := p) (by rw [h]; trivial) (.inl rfl) (fun b u hb q => (Heap.get?_update_other _ _ (Ne.symm hb)).trans q) ⟨_, e⟩ ?_
 exact ⟨hz, its', n', r, e⟩
noncomputable def rSetL : V → V → V → Hp → (Hp → Prop) → Prop := fun o i v H Q => ∃ p xs k j, o = .ref p ∧ i = .int k ∧ H p = some (.lst xs) ∧ ixN xs.length k = some j ∧ Q (upd H p (.lst (xs.set j v)))
theorem set_list : PSet X rSetL := by
 intro pins s σ H o i v ov iv u Q I ro ri rv h
 obtain ⟨p, xs, k, j, rfl, rfl, hp, hj, q⟩ := h
 cases ro
 obtain ⟨t, rfl⟩ := ri
 obtain ⟨its, n, r, ho, hz⟩ := I.lst hp
 obtain ⟨h1, h2, h3, h4⟩ := ixN_seq hj
 have hl := r.length
 have hn := line63
 have I' : Inv X pins σ (upd H p (.lst (xs.set j v))) { s with heap := s.heap.update p (Obj.mapSeq (·.setIfInBounds j u)) } :=
  I.lstUpd hp ho (mapSeq_set its n j u) (r.set rv j) (by rw [List.length_set]; exact hz) s.toks
 by_cases h0 : 0 ≤ k
 ·have hk : k.toNat = j := by
   rw [seqIndex_of h0 h4] at h1
   exact Option.some.inj h1
  exact PySem.W.ki_setAt ho h0 (by omega) (by rw [List.size_toArray, ← hl]; exact h4) (by rw [hk]; exact ⟨_, I', q⟩)
 ·have hk : (k + (its.toArray.size : Int)).toNat = j := by
   rw [seqIndex_neg (by omega) h3] at h1
   rw [List.size_toArray, ← hl]
   exact Option.some.inj h1
  exact PySem.W.ki_setBack ho (by omega) (by rw [List.size_toArray, ← hl]; exact h3) (by omega) (by rw [hk]; exact ⟨_, I', q⟩)
theorem slice_bounds (lo hi : Option Int) (n : Nat) : (sliceBounds lo hi none n).1 = ((HT.sIx n 0 lo : Nat) : Int) ∧ (sliceBounds lo hi none n).2.1 = ((HT.sIx n n hi : Nat) : Int) ∧ (sliceBounds lo hi none n).2.2 = 1 := by
 refine ⟨?_, ?_, rfl⟩
 ·cases lo with
  | none => simp [sliceBounds, HT.sIx]
  | some i =>
   simp only [sliceBounds, HT.sIx, Option.getD_none, show (1 : Int) > 0 by decide, if_true]
   by_cases h : i < 0
   ·simp only [h, if_true] <;> omega
   ·simp only [h, if_false] <;> omega
 ·cases hi with
  | none => simp [sliceBounds, HT.sIx]
  | some i =>
   simp only [sliceBounds, HT.sIx, Option.getD_none, show (1 : Int) > 0 by decide, if_true]
   by_cases h : i < 0
   ·simp only [h, if_true] <;> omega
   ·simp only [h, if_false] <;> omega
theorem slicePick_cut (its : List Value) (lo hi : Option Int) : slicePick its.toArray lo hi none = ((its.drop (HT.sIx its.length 0 lo)).take (HT.sIx its.length its.length hi - HT.sIx its.length 0 lo)).toArray := by
 obtain ⟨h1, h2, h3⟩ := slice_bounds lo hi its.toArray.size
 unfold slicePick
 rw [h1, h2, h3]
 simp only [sliceRange_one, pick_run, List.size_toArray] <;> rfl
noncomputable def rSlL (K : PySem.W.Frag) : V → Option Int → Option Int → Hp → VK → Prop := fun x lo hi H Q => ∃ a xs, x = .ref a ∧ aU K H a xs ∧ ∀ p, H p = none → Q (.ref p) (upd H p (.lst (aX xs lo hi)))
theorem sl_list : SlR X (rSlL X.K) := by
 intro pins s σ H x v vl vu lo hi sl Q I rx hs pl pu h
 obtain ⟨a, xs, rfl, hx, q⟩ := h
 cases rx
 obtain ⟨its, r, ht, hz⟩ := I.list hx
 have hlen := r.length
 refine ⟨"list", _, slot_list_getitem.lookup, ht.isList.typeIs, ?_⟩
 refine wpAny_getItem_list_slice ht.isList hs pl pu .none (by simp) ?_ (by rw [List.size_toArray] <;> omega)
 rw [slicePick_cut, ← hlen]
 refine ⟨.ref s.heap.objs.size, _, I.laid (t' := s.toks) (o := .lst (aX xs lo hi)) (fun b ob q => Heap.get?_push_of_some _ q) (Nat.le_refl _) ?_, rfl, q _ (I.hok.fresh (Nat.le_refl _))⟩
 exact ⟨Nat.le_trans (dZ xs lo hi) hz, _, 0, (r.drop (HT.sIx xs.length 0 lo)).take (HT.sIx xs.length xs.length hi - HT.sIx xs.length 0 lo), Heap.get?_push_size _ rfl⟩
noncomputable def gM : V → Bool
 | .non => true
 | .bl _ => true
 | .int _ => true
 | .str _ => true
 | _ => false
noncomputable def eqV : V → V → Bool
 | .non, .non => true
 | .bl a, .bl b => a == b
 | .bl a, .int b => (if a then 1 else 0) == b
 | .int a, .bl b => a == (if b then 1 else 0)
 | .int a, .int b => a == b
 | .str a, .str b => a == b
 | _, _ => false
theorem eqAt_V {A : Around} {s : Shared} {y x : V} {u v : Value} (ry : RelV y u) (rx : RelV x v) (fy : gM y = true) (fx : gM x = true) : SeqAt.EqAt A s u v (eqV y x) := by
 cases y with
 | non =>
  cases ry
  cases x with
  | non => cases rx; exact SeqAt.EqAt.same _
  | bl b => cases rx; exact SeqAt.EqAt.none_bool b
  | int b => obtain ⟨t, rfl⟩ := rx; exact SeqAt.EqAt.none_int b t
  | str b => obtain ⟨t, rfl⟩ := rx; exact SeqAt.EqAt.none_str b t
  | _ => exact absurd (show false = true from fx) Bool.false_ne_true
 | bl a =>
  cases ry
  cases x with
  | non => cases rx; exact SeqAt.EqAt.bool_none a
  | bl b => cases rx; exact SeqAt.EqAt.bool_bool a b
  | int b => obtain ⟨t, rfl⟩ := rx; exact SeqAt.EqAt.bool_int a b t
  | str b => obtain ⟨t, rfl⟩ := rx; exact SeqAt.EqAt.bool_str a b t
  | _ => exact absurd (show false = true from fx) Bool.false_ne_true
 | int a =>
  obtain ⟨t', rfl⟩ := ry
  cases x with
  | non => cases rx; exact SeqAt.EqAt.int_none a t'
  | bl b => cases rx; exact SeqAt.EqAt.int_bool a t' b
  | int b => obtain ⟨t, rfl⟩ := rx; exact SeqAt.EqAt.int_int a t' b t
  | str b => obtain ⟨t, rfl⟩ := rx; exact SeqAt.EqAt.int_str a t' b t
  | _ => exact absurd (show false = true from fx) Bool.false_ne_true
 | str a =>
  obtain ⟨t', rfl⟩ := ry
  cases x with
  | non => cases rx; exact SeqAt.EqAt.str_none a t'
  | bl b => cases rx; exact SeqAt.EqAt.str_bool a t' b
  | int b => obtain ⟨t, rfl⟩ := rx; exact SeqAt.EqAt.str_int a t' b t
  | str b => obtain ⟨t, rfl⟩ := rx; exact SeqAt.EqAt.str_str a t' b t
  | _ => exact absurd (show false = true from fx) Bool.false_ne_true
 | _ => exact absurd (show false = true from fy) Bool.false_ne_true
theorem call_len_seq : gU X (.builtin "len") (fun xs H Q => ∃ p ys, xs = [.ref p] ∧ (aU X.K H p ys ∨ dC X.K H p ys) ∧ Q (.int ys.length) H) := by
 intro pins s σ H xs us Q I r h
 obtain ⟨p, ys, rfl, hq, q⟩ := h
 obtain ⟨u, rfl, rx⟩ := vals1 r
 cases rx
 have hn := line63
 rcases hq with hq | hq
 ·obtain ⟨its, r', pl, hz⟩ := I.list hq
  have hlen := r'.length
  exact Calls.call_len_list pl.isList (by simp only [List.size_toArray] <;> omega) ⟨.int ys.length, H, I.tok _, ⟨s.toks + 1, by rw [List.size_toArray, hlen]⟩, q⟩
 ·obtain ⟨its, r', pl, hz⟩ := I.tuple hq
  have hlen := r'.length
  exact len_tuple pl (by simp only [List.size_toArray] <;> omega) ⟨.int ys.length, H, I.tok _, ⟨s.toks + 1, by rw [List.size_toArray, hlen]⟩, q⟩
theorem call_list_of : gU X (.type "list") (fun xs H Q => ∃ p ys, xs = [.ref p] ∧ (aU X.K H p ys ∨ dC X.K H p ys) ∧ ∀ l, H l = none → Q (.ref l) (upd H l (.lst ys))) := by
 intro pins s σ H xs us Q I r h
 obtain ⟨p, ys, rfl, hq, q⟩ := h
 obtain ⟨u, rfl, rx⟩ := vals1 r
 cases rx
 have fin : ∀ (its : List Value), Vals ys its → ys.length ≤ sizeLine → ∀ (h' : Heap) (c' : Nat), (∀ b o', s.heap.get? b = some o' → h'.get? b = some o') →
   h'.get? s.heap.objs.size = some { cls := .type "list", dict := none, data := .seq its.toArray c', slots := #[] } → EP X pins σ Q (.ref s.heap.objs.size) { s with heap := h' } := fun its r' hz h' c' kp e =>
  ⟨.ref s.heap.objs.size, _, I.laid (t' := s.toks) kp (Nat.le_refl _) (show dU X.prog X.w _ h' _ (.lst ys) from ⟨hz, its, c', r', e⟩), rfl, q _ (I.hok.fresh (Nat.le_refl _))⟩
 rcases hq with hq | hq
 ·obtain ⟨its, r', pl, hz⟩ := I.list hq
  have hlen := r'.length
  obtain ⟨o, ho, hc, n, hd⟩ := pl.isList
  exact call_list_seq p (.inl rfl) ho hc hd (fun h' c' kp e => fin its r' hz h' c' kp e) (by simp only [List.size_toArray] <;> omega)
 ·obtain ⟨its, r', pl, hz⟩ := I.tuple hq
  have hlen := r'.length
  obtain ⟨o, ho, hc, n, hd⟩ := pl
  exact call_list_seq p (.inr rfl) ho hc hd (fun h' c' kp e => fin its r' hz h' c' kp e) (by simp only [List.size_toArray] <;> omega)
theorem fH : gU X (.type "tuple") (fun xs H Q => ∃ p ys, xs = [.ref p] ∧ ((aU X.K H p ys ∧ ∀ l, H l = none → Q (.ref l) (upd H l (.tup ys))) ∨ (dC X.K H p ys ∧ Q (.ref p) H))) := by
 intro pins s σ H xs us Q I r h
 obtain ⟨p, ys, rfl, h⟩ := h
 obtain ⟨u, rfl, rx⟩ := vals1 r
 cases rx
 rcases h with ⟨hq, q⟩ | ⟨hq, q⟩
 ·obtain ⟨its, r', pl, hz⟩ := I.list hq
  have hlen := r'.length
  refine call_tuple_list pl.isList (fun h' kp => ?_) (by simp only [List.size_toArray] <;> omega)
  have I1 : Inv X pins σ H { s with heap := h' } := I.kept (t' := s.toks) kp
  have I2 : Inv X pins σ (upd H h'.objs.size (.tup ys)) { s with heap := h'.push { cls := .type "tuple", data := .seq its.toArray } } :=
   I1.laid (t' := s.toks) (fun b o e => Heap.get?_push_of_some _ e) (Nat.le_refl _) (show dU X.prog X.w _ _ _ (.tup ys) from ⟨hz, its, r', IsTup.new _ _⟩)
  exact ⟨.ref h'.objs.size, _, I2, rfl, q _ (I1.hok.fresh (Nat.le_refl _))⟩
 ·obtain ⟨its, r', pl, hz⟩ := I.tuple hq
  exact call_tuple_same pl ⟨.ref p, H, I, rfl, q⟩
noncomputable def tyV (K : PySem.W.Frag) (T : String) (x : V) (H : Hp) : Prop := match x with
 | .str _ => T = "str"
 | .int _ => T = "int"
 | .ref p => (T = "list" ∧ ∃ xs, aU K H p xs) ∨ (T = "tuple" ∧ ∃ o, K.lookup p = some o ∧ o.cls = .type "tuple" ∧ o.dict = none) ∨
   (T = "dict" ∧ ((∃ kvs, H p = some (.dK kvs)) ∨ ∃ kvs, H p = some (.dT kvs))) ∨ (T = "set" ∧ ∃ S n, H p = some (.set S n))
 | _ => False
theorem tyV_is {pins : List (Addr × Obj)} {σ : St} {H : Hp} {s : Shared} {T : String} {x : V} {v : Value} (I : Inv X pins σ H s) (r : RelV x v) (ty : tyV X.K T x H) :
  s.TypeIs v T ∧ ∀ a, v = .ref a → ∃ ob, s.heap.get? a = some ob ∧ ob.dict = none := by
 cases x with
 | str z =>
  obtain ⟨t, rfl⟩ := r
  cases (show T = "str" from ty)
  exact ⟨typeIs_str s z t, fun _ e => nomatch e⟩
 | int i =>
  obtain ⟨t, rfl⟩ := r
  cases (show T = "int" from ty)
  exact ⟨typeIs_int s i t, fun _ e => nomatch e⟩
 | ref p =>
  cases r
  rcases ty with ⟨rfl, xs, hq⟩ | ⟨rfl, o, hk, hc, hd⟩ | ⟨rfl, hk⟩ | ⟨rfl, S, n, hk⟩
  ·obtain ⟨its, _, pl, _⟩ := I.list hq
   refine ⟨pl.isList.typeIs, fun a e => ?_⟩
   cases e
   obtain ⟨o, n, e, c, hd, _⟩ := pl
   exact ⟨o, e, hd⟩
  ·refine ⟨⟨o, I.kIn p o hk, hc⟩, fun a e => ?_⟩
   cases e
   exact ⟨o, I.kIn _ o hk, hd⟩
  ·have z : ∃ o, s.heap.get? p = some o ∧ o.ExactDict := by
    rcases hk with ⟨kvs, hk⟩ | ⟨kvs, hk⟩
    ·obtain ⟨_, _, _, _, o, _, _, e, ex, _⟩ := I.hok p _ hk
     exact ⟨o, e, ex⟩
    ·obtain ⟨_, _, _, _, o, _, _, e, ex, _⟩ := I.hok p _ hk
     exact ⟨o, e, ex⟩
   obtain ⟨o, e, ex⟩ := z
   refine ⟨⟨o, e, ex.1⟩, fun a e2 => ?_⟩
   cases e2
   exact ⟨o, e, ex.2.1⟩
  ·obtain ⟨o, _, _, _, e, ex, _⟩ := I.hok p _ hk
   refine ⟨⟨o, e, ex.1⟩, fun a e2 => ?_⟩
   cases e2
   exact ⟨o, e, ex.2.1⟩
 | _ => exact False.elim ty
noncomputable def tBM0 (K : PySem.W.Frag) (T : String) (r : V → List V → Hp → VK → Prop) (to : TE) : TE := fun σ H Q => to σ H fun x H1 => tyV K T x H1 ∧ r x [] H1 Q
noncomputable def tBM (K : PySem.W.Frag) (T : String) (r : V → List V → Hp → VK → Prop) (to : TE) (t : TA) : TE := fun σ H Q => to σ H fun x H1 => tyV K T x H1 ∧ t σ H1 fun xs H2 => r x xs H2 Q
variable {o e : Expr} {es : List Expr} {to : TE} {t : TA} {name : Str} {apos cpos : Pos} {T id : String} {r : V → List V → Hp → VK → Prop}
theorem pe_bm0 (pa : PlainAttrs T) (slot : Slot T name id) (hty : typeOf (.builtin id) = pure (.type "method_descriptor")) (hm : MtR X id r) (ho : PE X o to)
  (hbase : attributeBase o name X.env (eval o X.env) = eval o X.env := by rfl) (hline : (apos.endLine == cpos.line) = true := by rfl) : PE X (.Call (.Attribute o name apos) [] [] cpos) (tBM0 X.K T r to) := by
 intro pins s σ H Q I h
 refine wpAny_Call_method0_late hbase hline (bZ (ho pins s σ H _ I h) fun v s1 ⟨x, H1, I1, r1, ty, q1⟩ => ?_)
 obtain ⟨h1, h2⟩ := tyV_is I1 r1 ty
 exact ⟨T, id, pa, slot, hty, h1, h2, Calls.callWith_builtin rfl (PySem.evalArgs_none (hm pins s1 σ H1 x [] v [] Q I1 r1 .nil q1))⟩
theorem pe_bm (pa : PlainAttrs T) (slot : Slot T name id) (hty : typeOf (.builtin id) = pure (.type "method_descriptor")) (hm : MtR X id r) (ho : PE X o to) (ha : PA X (e :: es) t)
    (hbase : attributeBase o name X.env (eval o X.env) = eval o X.env := by rfl)
    (hfew : ((backTo cpos (starEach (e :: es) X.env)).all (fun x => !x.1) && (backToKw cpos (keywordEach [] X.env)).all (fun x => x.1.isSome)
      && decide ((e :: es).length + ([] : List Keyword).length + (if ([] : List Keyword).isEmpty then 0 else 1) < 30)) = true := by rfl)
    (hline : (apos.endLine == cpos.line) = true := by rfl) (hs : starEach (e :: es) X.env = (false, eval e X.env) :: starEach es X.env := by rfl) (hplain : (backTo cpos (starEach es X.env)).any (·.1) = false := by rfl) :
    PE X (.Call (.Attribute o name apos) (e :: es) [] cpos) (tBM X.K T r to t) := by
  intro pins s σ H Q I h
  refine wpAny_Call_method_late hbase hfew hline rfl (bZ (ho pins s σ H _ I h) fun v s1 ⟨x, H1, I1, r1, ty, q1⟩ => ?_)
  obtain ⟨h1, h2⟩ := tyV_is I1 r1 ty
  refine ⟨T, id, pa, slot, hty, h1, h2, ?_⟩
  have hA := ha cpos pins s1 σ H1 _ I1 q1
  rw [hs] at hA ⊢
  refine Calls.callWith_builtin (by show (false || (backTo cpos (starEach es X.env)).any (·.1)) = false; rw [hplain] <;> rfl) (Calls.evalArgs_plain ?_)
  exact bZ hA fun us s2 ⟨vs, H2, I2, r2, q2⟩ => hm pins s2 σ H2 x vs v us Q I2 r1 r2 q2
end
noncomputable def MtM (X : Cx) (id : String) (r : V → List V → Hp → VK → Prop) : Prop :=
 ∀ (pins : List (Addr × Obj)) (s : Shared) (σ : St) (H : Hp) (x : V) (xs : List V) (v : Value) (us : List Value) (Q : VK), Inv X pins σ H s → RelV x v → Vals xs us → r x xs H Q →
  wpAny (model X.prog X.w) X.A (call (.builtin id) (v :: us)) (EP X pins σ Q) X.xe s
theorem Vals.one : ∀ {x : V} {us : List Value}, Vals [x] us → ∃ u, us = [u] ∧ RelV x u
 | _, _, .cons r .nil => ⟨_, rfl, r⟩
theorem Vals.zero : ∀ {us : List Value}, Vals [] us → us = []
 | _, .nil => rfl
theorem Vals.reverse {xs : List V} {us : List Value} (h : Vals xs us) : Vals xs.reverse us.reverse := by
 induction h with
 | nil => exact .nil
 | cons r t ih => rw [List.reverse_cons, List.reverse_cons]; exact Vals.append ih (.cons r .nil)
theorem Vals.rep {xs : List V} {us : List Value} (h : Vals xs us) : ∀ k : Nat, Vals (List.replicate k xs).flatten (List.replicate k us).flatten
 | 0 => .nil
 | k + 1 => by
  rw [List.replicate_succ, List.replicate_succ, List.flatten_cons, List.flatten_cons]
  exact Vals.append h (Vals.rep h k)
theorem foldl_rep (its : List Value) : ∀ (k : Nat) (acc : List Value),
  List.foldl (fun x1 x2 => x1 ++ x2) acc.toArray (List.replicate k its.toArray) = (acc ++ (List.replicate k its).flatten).toArray
 | 0, acc => by simp
 | k + 1, acc => by
  have e : acc.toArray ++ its.toArray = (acc ++ its).toArray := by simp
  have e2 : (acc ++ its) ++ (List.replicate k its).flatten = acc ++ (List.replicate (k + 1) its).flatten := by
   rw [List.replicate_succ, List.flatten_cons, List.append_assoc]
  rw [← e2, ← foldl_rep its k (acc ++ its), ← e, List.replicate_succ, List.foldl_cons]
section
variable {X : Cx} {pins : List (Addr × Obj)} {σ : St} {H : Hp} {s : Shared} {l b : Addr} {xs ys zs : List V}
theorem Inv.lset {its its' : List Value} {n : Nat} {f : Array Value → Array Value} {t' : Nat} (I : Inv X pins σ H s) (hH : H l = some (.lst xs))
  (e : s.heap.get? l = some { cls := .type "list", data := .seq its.toArray n }) (hf : f its.toArray = its'.toArray) (hv : Vals ys its') (hz : ys.length ≤ sizeLine) :
  Inv X pins σ (upd H l (.lst ys)) { s with heap := s.heap.update l (Obj.mapSeq f), toks := t' } := by
 have q := PySem.IsL.update e f
 rw [hf] at q
 refine I.write (x := l) (e := l) (by rw [hH]; exact trivial) (.inl rfl) (fun b' u hb hu => (Heap.get?_update_other s.heap (Obj.mapSeq f) (Ne.symm hb)).trans hu) ⟨_, q⟩ ?_
 exact ⟨hz, its', _, hv, q⟩
theorem Inv.lnew {its : List Value} {t' : Nat} (I : Inv X pins σ H s) (hv : Vals ys its) (hz : ys.length ≤ sizeLine) :
  Inv X pins σ (upd H s.heap.objs.size (.lst ys)) { s with heap := s.heap.push { cls := .type "list", data := .seq its.toArray }, toks := t' } :=
 I.laid (fun _ _ q => Heap.get?_push_of_some _ q) (Nat.le_refl _) ⟨hz, its, 0, hv, Heap.get?_push_size _ rfl⟩
theorem Inv.fresh (I : Inv X pins σ H s) : H s.heap.objs.size = none := I.hok.fresh (Nat.le_refl _)
theorem Inv.lstM (I : Inv X pins σ H s) (hH : H l = some (.lst xs)) : xs.length ≤ sizeLine ∧ ∃ (its : List Value) (n : Nat), Vals xs its ∧ xs.length = its.length ∧ s.heap.get? l = some { cls := .type "list", data := .seq its.toArray n } := by
 obtain ⟨z, its, n, r, e⟩ := I.hok l _ hH
 exact ⟨z, its, n, r, r.length, e⟩
theorem notLongL {n : Nat} (h : n ≤ sizeLine) : Builtin.List.listTooLong n = false := by
 unfold Builtin.List.listTooLong
 exact decide_eq_false (by omega)
end
section
variable {X : Cx}
noncomputable def rAppend : V → List V → Hp → VK → Prop := fun x vs H Q => ∃ l xs y, x = .ref l ∧ vs = [y] ∧ H l = some (.lst xs) ∧ xs.length < sizeLine ∧ Q .non (upd H l (.lst (xs ++ [y])))
theorem cH : MtM X "list.append" rAppend := by
 intro pins s σ H x vs v us Q I rx rv h
 obtain ⟨l, xs, y, rfl, rfl, hH, hz, q⟩ := h
 cases rx
 obtain ⟨u, rfl, ru⟩ := rv.one
 obtain ⟨z, its, n, r, hl, e⟩ := I.lstM hH
 refine call_meets F.slot_list_append ⟨_, e, rfl⟩ F.entry_list_append (F.args_list_append_2 _ _) (PySem.list_append l its.toArray n u (by rw [List.size_toArray]; omega)) ⟨e, ?_⟩
 refine ⟨.non, _, I.lset (its' := its ++ [u]) hH e (by simp) (r.append (.cons ru .nil)) ?_, rfl, q⟩
 rw [List.length_append, List.length_singleton]
 omega
noncomputable def rExtend : V → List V → Hp → VK → Prop := fun x vs H Q => ∃ l b xs zs, x = .ref l ∧ vs = [.ref b] ∧ H l = some (.lst xs) ∧ H b = some (.lst zs) ∧ xs.length + zs.length ≤ sizeLine ∧ Q .non (upd H l (.lst (xs ++ zs)))
theorem mt_extend : MtM X "list.extend" rExtend := by
 intro pins s σ H x vs v us Q I rx rv h
 obtain ⟨l, b, xs, zs, rfl, rfl, hH, hB, hz, q⟩ := h
 cases rx
 obtain ⟨u, rfl, ru⟩ := rv.one
 cases ru
 obtain ⟨z, its, n, r, hl, e⟩ := I.lstM hH
 obtain ⟨z2, its2, n2, r2, hl2, e2⟩ := I.lstM hB
 have hsz : its.toArray.size + its2.toArray.size ≤ sizeLine := by rw [List.size_toArray, List.size_toArray]; omega
 have hlong : ¬ (!its.toArray.isEmpty && Builtin.List.listTooLong (its.toArray.size + its2.toArray.size)) = true := by
  rw [notLongL hsz, Bool.and_false]
  exact Bool.false_ne_true
 refine call_meets F.slot_list_extend ⟨_, e, rfl⟩ F.entry_list_extend (F.args_list_extend_2 _ _)
  (AutoSeq1.list_extend_list_list_0 l its.toArray n b its2.toArray n2 hlong (by rw [List.size_toArray]; omega) (by omega)) ⟨e, e2, ?_⟩
 refine ⟨.non, _, I.lset (its' := its ++ its2) hH e (by simp) (r.append r2) ?_, rfl, q⟩
 rw [List.length_append]
 omega
noncomputable def rReverse : V → List V → Hp → VK → Prop := fun x vs H Q => ∃ l xs, x = .ref l ∧ vs = [] ∧ H l = some (.lst xs) ∧ Q .non (upd H l (.lst xs.reverse))
theorem mt_reverse : MtM X "list.reverse" rReverse := by
 intro pins s σ H x vs v us Q I rx rv h
 obtain ⟨l, xs, rfl, rfl, hH, q⟩ := h
 cases rx
 have hus := rv.zero
 subst hus
 obtain ⟨z, its, n, r, hl, e⟩ := I.lstM hH
 refine call_meets F.slot_list_reverse ⟨_, e, rfl⟩ F.entry_list_reverse (F.args_list_reverse_1 _) (AutoSeq1.list_reverse_list_0 l its.toArray n (by rw [List.size_toArray]; omega)) ⟨e, ?_⟩
 refine ⟨.non, _, I.lset (its' := its.reverse) hH e (by simp) r.reverse ?_, rfl, q⟩
 rw [List.length_reverse]
 omega
noncomputable def rCat : R2 := fun x y H Q => ∃ l b xs zs, x = .ref l ∧ y = .ref b ∧ H l = some (.lst xs) ∧ H b = some (.lst zs) ∧ xs.length + zs.length ≤ sizeLine ∧ ∀ p, H p = none → Q (.ref p) (upd H p (.lst (xs ++ zs)))
theorem gm : OpR X (binaryOp .Add) rCat := by
 intro pins s σ H x y v u Q I rx ry h
 obtain ⟨l, b, xs, zs, rfl, rfl, hH, hB, hz, q⟩ := h
 cases rx
 cases ry
 obtain ⟨z, its, n, r, hl, e⟩ := I.lstM hH
 obtain ⟨z2, its2, n2, r2, hl2, e2⟩ := I.lstM hB
 refine PySem.P.add_list e e2 ?_ (by rw [List.size_toArray, List.size_toArray]; omega)
 have ea : its.toArray ++ its2.toArray = (its ++ its2).toArray := by simp
 rw [ea]
 exact ⟨.ref _, _, I.lnew (t' := s.toks) (r.append r2) (by rw [List.length_append]; omega), rfl, q _ I.fresh⟩
noncomputable def rRep : R2 := fun x y H Q => ∃ l k xs, x = .ref l ∧ y = .int k ∧ H l = some (.lst xs) ∧ -(2 ^ 63) ≤ k ∧ k < 2 ^ 63 ∧ xs.length * k.toNat ≤ sizeLine ∧
 ∀ p, H p = none → Q (.ref p) (upd H p (.lst (List.replicate k.toNat xs).flatten))
theorem len_rep {α : Type} (xs : List α) (k : Nat) : (List.replicate k xs).flatten.length = k * xs.length := by
 induction k with
 | zero => simp
 | succ k ih => rw [List.replicate_succ, List.flatten_cons, List.length_append, ih, Nat.succ_mul, Nat.add_comm]
theorem op_rep : OpR X (binaryOp .Mult) rRep := by
 intro pins s σ H x y v u Q I rx ry h
 obtain ⟨l, k, xs, rfl, rfl, hH, h1, h2, hz, q⟩ := h
 cases rx
 obtain ⟨t, rfl⟩ := ry
 obtain ⟨z, its, n, r, hl, e⟩ := I.lstM hH
 have hlen : its.toArray.size * k.toNat ≤ sizeLine := by rw [List.size_toArray, ← hl]; exact hz
 have hcap : ¬ its.toArray.size * k.toNat > (2 ^ 63 - 1) / 8 := by
  have : (sizeLine : Nat) ≤ (2 ^ 63 - 1) / 8 := by decide
  omega
 have hfit : ¬ (!Builtin.List.listFitsIndex k) = true := by
  rw [fitsIndex_both h1 h2]
  exact Bool.false_ne_true
 have hlong : ¬ Builtin.List.listTooLong (its.toArray.size * k.toNat) = true := by
  rw [notLongL hlen]
  exact Bool.false_ne_true
 have hnew : List.foldl (fun x1 x2 => x1 ++ x2) #[] (List.replicate (if its.toArray.isEmpty = true then 0 else k.toNat) its.toArray) = (List.replicate k.toNat its).flatten.toArray := by
  have f0 : ∀ m : Nat, List.foldl (fun x1 x2 => x1 ++ x2) #[] (List.replicate m its.toArray) = (List.replicate m its).flatten.toArray := fun m => by
   have := foldl_rep its m []
   rw [List.nil_append] at this
   exact this
  rw [f0]
  cases its with
  | nil => simp
  | cons a r' => rw [if_neg (by simp)]
 refine wpAny_binaryOp_repeat_ref (T := "list") (U := "int") (by decide) ⟨_, e, rfl⟩ (fun s' => typeIs_int s' k t) noFill_list_mul F.fills_int_mul F.slot_int_rmul repeat_list F.slot_int_index.lookup
  (call_meets F.slot_int_rmul (typeIs_int s k t) F.entry_int_rmul (F.args_int_rmul_2 _ _) (int___rmul___int_list k t l its.toArray n)
   ⟨e, rfl, ⟨_, e, rfl⟩, call_meets F.slot_list_mul ⟨_, e, rfl⟩ F.entry_list_mul (F.args_list_mul_2 _ _) (AutoListH.list___mul___list_int_3 l its.toArray n k t hfit hcap hlong) ⟨e, ?_⟩⟩)
 rw [hnew]
 exact ⟨.ref _, _, I.lnew (t' := s.toks) (r.rep k.toNat) (by rw [len_rep, Nat.mul_comm]; exact hz), rfl, q _ I.fresh⟩
end
end L2
namespace Att
open PySem PySem.W PySem.Calls PyProof.Rows
theorem ints_of_wellAll {P : Params} {h : Heap} : ∀ (ns : List Int) (vs : List Value), WellAll P h vs (ns.map WData.int) → IntsAre vs ns := by
 intro ns
 induction ns with
 | nil =>
  intro vs w
  rw [List.map_nil] at w
  cases w
  exact .nil
 | cons n ns ih =>
  intro vs w
  rw [List.map_cons] at w
  cases w with
  | cons a b =>
   cases a
   exact .cons _ _ (ih _ b)
theorem script_of {l : OpenLaw} {n : Nat} (hn : l.most = some n) {P : Params} {h : Heap} {args : List WData} {vals : List Value}
    (hpre : l.row.toRowW.claim.pre args = true) (hwl : WellAll P h vals args) :
    ∃ a vs ns, vals = [Value.ref a] ∧ args = [WData.list (ns.map WData.int)] ∧ h.get? a = some { cls := .type "list", data := .seq vs.toArray } ∧ IntsAre vs ns ∧ ns.length ≤ n := by
  have hsh : WShape.hasAll [] args [.list .int] = true := (pre_splitW hpre).1
  have hc : l.pre.holds [] { args := args } = true := (pre_splitW hpre).2
  obtain ⟨d, r, rfl, h1, h2⟩ := hasAllW_cons hsh
  obtain rfl := hasAllW_nil h2
  obtain ⟨xs, rfl, h3⟩ := hasW_list h1
  obtain ⟨ns, rfl⟩ := items_int h3
  have hlen : ns.length ≤ n := by
    unfold OpenLaw.pre at hc
    have h4 : (WTm.not (.lt (.lit (.int (n : Int))) (.len (.arg 0)))).holds [] { args := [.list (ns.map .int)] } = true := by
      have h4 := (holds_andW hc).1
      rw [hn] at h4
      exact h4
    have h5 := condW_of h4 (w_not (w_lt w_lit (w_len_list (w_arg rfl))))
    rw [List.length_map] at h5
    refine Nat.le_of_not_lt fun q => ?_
    have q' : (n : Int) < ((ns.length : Nat) : Int) := by omega
    first
      | (rw [decide_eq_true q'] at h5; exact absurd h5 (by decide))
      | (simp at h5; omega)
  cases hwl with
  | cons w1 w2 =>
    cases w2
    cases w1 with
    | list ho hall => exact ⟨_, _, ns, rfl, rfl, ho, ints_of_wellAll ns _ hall, hlen⟩
theorem post_true (l : OpenLaw) (args : List WData) : l.row.toRowW.claim.post args (.bool true) args = true :=
 postW_of (r := l.row.toRowW) (X := (true == true))
  (show WShape.has [] (.bool true) .bool = true by first | rfl | decide | simp [WShape.has, WShape.arms, WShape.armsAll])
  (show (WTm.eq .res (.lit (.bool true))).value [] { args := args, res := some (.bool true), after := args } = some (.bool (true == true)) from w_eq_bool (w_res rfl) w_lit) rfl
end Att
namespace L2
open PySem PySem.Spec PyProof.Rows
theorem vals_ints : ∀ {vs : List Value} {ns : List Int}, IntsAre vs ns → Vals (ns.map V.int) vs
 | _, _, .nil => .nil
 | _, _, .cons n t h => .cons ⟨t, rfl⟩ (vals_ints h)
noncomputable def Only (H : Hp) : Prop := ∀ b, H b = none ∨ ∃ o xs, H b = some (.frz o (.lst xs))
theorem law_call {P : Program} {w : World} {K : PySem.W.Frag} {mg mb : Str → Option Value} {CX : CXT} {k : Nat} {fa a : Addr} {fd : FuncData} {x : Str} {sp : Sp} {s₁ : Shared} {vs : List Value} {ns : List Int}
  (KX : K.In s₁.heap) (hns : s₁.heap.Ns mainGlobals mg) (hb : s₁.heap.Ns builtinsNs mb) (hbb : ∀ x : Str, x ≠ "__name__" → mb x = bootBuiltins x) (hlim : s₁.heap.NoLimit) (hg : s₁.gens = #[])
  (ha : s₁.heap.get? a = some { cls := .type "list", data := .seq vs.toArray }) (hi : IntsAre vs ns) (hl : ns.length ≤ sizeLine) (hr : fB k callerA)
  (F : ∀ base : Heap, K.In base → base.Ns mainGlobals mg → bB P w K mg base CX k fa fd [x] sp) (hbind : ∀ (s : Shared) (u : Value), BindsTo s fd ⟨[u], []⟩ [(x, u)])
  (hsp : ∀ H : Hp, Only H → aU K H a (ns.map V.int) → sp [.ref a] H (fun v _ => v = .bl true) fun _ _ _ => False)
  (hCX : ∀ H e s', CX [] H s₁ (fun _ _ _ => False) e s' → False) :
  codeAny (model P w) callerA (.call (.ref fa) ⟨[.ref a], []⟩) (fun r s' => r = .ok (.ret (.bool true)) ∧ OldK s₁.heap s'.heap ∧ s'.os = s₁.os ∧ AllBare s'.gens) s₁ := by
 have rv := vals_ints hi
 have lenV := hi.length
 have core : ∀ H : Hp, Only H → aU K H a (ns.map V.int) → HOk P w H s₁.heap → (∀ b, H b ≠ none → b = a) → (H a ≠ none → K.lookup a = none) →
   codeAny (model P w) callerA (.call (.ref fa) ⟨[.ref a], []⟩) (fun r s' => r = .ok (.ret (.bool true)) ∧ OldK s₁.heap s'.heap ∧ s'.os = s₁.os ∧ AllBare s'.gens) s₁ := by
  intro H hO hS hok hA hK
  have base_of : ∀ {b : Addr} {o : Obj}, s₁.heap.get? b = some o → H b = none → (hidT s₁.heap H).get? b = some o := fun e n => hidT_get e n
  have noA : ∀ {b : Addr} {o : Obj} {es : Array DictEntry} {ep : Nat}, s₁.heap.get? b = some o → o.data = .dict es ep → H b = none := fun {b o es ep} e d => by
   cases q : H b with
   | none => rfl
   | some u =>
    have e' : b = a := hA b (by rw [q]; simp)
    subst e'
    rw [ha] at e; cases e
    have d' : Data.seq vs.toArray _ = Data.dict es ep := d
    cases d'
  have nsK : ∀ {b : Addr} {m : Str → Option Value}, s₁.heap.Ns b m → (hidT s₁.heap H).Ns b m := fun {b m} ⟨o, es, ep, e, d, r⟩ => ⟨o, es, ep, base_of e (noA e d), d, r⟩
  have hKb : K.In (hidT s₁.heap H) := fun b o e => base_of (KX b o e) (by
   cases q : H b with
   | none => rfl
   | some u =>
    have e' : b = a := hA b (by rw [q]; simp)
    subst e'
    rw [hK (by rw [q]; simp)] at e; cases e)
  have hM : Mod K mg (hidT s₁.heap H) := ⟨hKb, nsK hns, ⟨mb, nsK hb, hbb⟩, let ⟨mc, h1, h2⟩ := hlim; ⟨mc, nsK h1, h2⟩⟩
  have e0 : Env0 P w K mg (hidT s₁.heap H) callerA [] s₁ H := ⟨rfl, hM, fun b o e => of_hidT e, Nat.le_of_eq (hidT_size _ _), trivial, fun b hb => absurd (show b ∈ ([] : List Addr) from hb) (by simp), hok, .of_eq hg⟩
  refine codeAny_mono ((F _ hKb (nsK hns)).run callerA [] s₁ H ⟨[.ref a], []⟩ [.ref a] [.ref a] _ _ hr e0 (hbind s₁ (.ref a)) (.cons rfl .nil) (hsp H hO hS)) fun r s' h => ?_
  cases r with
  | error e => exact (hCX H e s' h).elim
  | ok fl =>
   cases fl with
   | next => exact False.elim h
   | brk => exact False.elim h
   | cont => exact False.elim h
   | ret u =>
    obtain ⟨v, H', os, bare, un, hok', r', q⟩ := h
    have q' : v = .bl true := q
    subst q'
    obtain rfl : u = Value.bool true := r'
    refine ⟨rfl, OldK.of_keep fun b o e => ?_, os, bare⟩
    cases q : H b with
    | none => exact un.keep b o e q (by intro z; exact absurd (show b ∈ ([] : List Addr) from z) (by simp)) (by simp)
    | some u =>
     rcases hO b with z | ⟨ob, xs, z⟩
     ·rw [q] at z; cases z
     ·have z2 := un.frzs b ob _ z
      obtain ⟨e1, _⟩ := hok b _ z
      obtain ⟨e2, _⟩ := hok' b _ z2
      rw [e] at e1; cases e1
      exact e2
 cases hk : K.lookup a with
 | some o =>
  have e := KX a o hk
  rw [ha] at e
  cases e
  refine core (fun _ => none) (fun _ => .inl rfl) (.inr ⟨_, vs.toArray, _, hk, rfl, rfl, rfl, by rw [List.size_toArray, lenV]; exact hl, by simpa using rv⟩) (fun b u z => by have z' : (none : Option HO) = some u := z; cases z') (fun b z => absurd rfl z) fun z => absurd rfl z
 | none =>
  refine core (fun b => if b = a then some (.frz { cls := .type "list", data := .seq vs.toArray } (.lst (ns.map V.int))) else none) (fun b => ?_) (.inl (.inr ⟨{ cls := .type "list", data := .seq vs.toArray }, if_pos rfl⟩)) (fun b u z => ?_) (fun b z => ?_) fun _ => hk
  ·by_cases hb : b = a
   ·exact .inr ⟨_, _, if_pos hb⟩
   ·exact .inl (if_neg hb)
  ·by_cases hb : b = a
   ·have z' := (if_pos hb).symm.trans z
    cases z'
    subst hb
    exact ⟨ha, by rw [List.length_map]; exact hl, vs, _, rv, ha⟩
   ·have z' := (if_neg hb).symm.trans z
    cases z'
  ·by_cases hb : b = a
   ·exact hb
   ·exact absurd (if_neg hb) z
noncomputable def inClass (s : Stmt) (j : Nat) : Stmt := match s with
 | .ClassDef _ _ _ body _ _ _ _ _ _ _ => body.getD j (.Pass ⟨0, 0, 0, 0⟩)
 | _ => .Pass ⟨0, 0, 0, 0⟩
noncomputable def aL (s : Stmt) : Arguments := match s with
 | .FunctionDef _ a _ _ _ _ _ _ _ _ => a
 | _ => { posonlyargs := [], args := [], vararg := none, kwonlyargs := [], kw_defaults := [], kwarg := none, defaults := [] }
noncomputable def aF (s : Stmt) : List Stmt := match s with
 | .FunctionDef _ _ b _ _ _ _ _ _ _ => b
 | _ => []
noncomputable def ao (s : Stmt) : Scope := match s with
 | .FunctionDef _ _ _ _ _ _ sc _ _ _ => sc
 | _ => { kind := .function, names := [], isGenerator := false, isCoroutine := false }
noncomputable abbrev gh : CXT := fun _ _ _ _ _ _ => False
noncomputable abbrev E0 : XK := fun _ _ _ => False
theorem pass0 {X : Cx} : Passes gh X E0 := fun _ _ _ _ _ _ _ h => h.elim
section
variable {X : Cx}
theorem pv (i : Nat) {x : Str} {pos : Pos} (hN : X.N[i]? = some x := by rfl) (hv : Vis X.env.scope x := by first | exact Or.inl rfl | exact Or.inr (Or.inl rfl) | exact Or.inr (Or.inr rfl)) (hd : (x == ("__debug__" : Str)) = false := by decide)
  (hcd : (x == ("__classdict__" : Str)) = false := by decide) : PE X (.Name x pos) (tVar i) := pe_var hN hv hd hcd
end
theorem iteF {A B : Prop} (h : B) : if false = true then A else B := by
 rw [if_neg Bool.false_ne_true]
 exact h
theorem iteT {A B : Prop} (h : A) : if true = true then A else B := by
 rw [if_pos rfl]
 exact h
theorem ite2 {c A B : Prop} [Decidable c] (h1 : c → A) (h2 : ¬ c → B) : if c then A else B := by
 by_cases h : c
 ·rw [if_pos h]
  exact h1 h
 ·rw [if_neg h]
  exact h2 h
noncomputable def aB (H H' : Hp) : Prop := ∀ b o, H b = some o → H' b = some o
theorem aB.refl (H : Hp) : aB H H := fun _ _ h => h
theorem aB.trans {H H1 H2 : Hp} (a : aB H H1) (b : aB H1 H2) : aB H H2 := fun c o h => b c o (a c o h)
theorem aB.free {H H' : Hp} (e : aB H H') {l : Addr} (h : H' l = Option.none) : H l = Option.none := by
 cases q : H l with
 | none => rfl
 | some o =>
  rw [e l o q] at h
  cases h
theorem aB.seq {K : PySem.W.Frag} {H H' : Hp} {a : Addr} {xs : List V} (e : aB H H') (h : aU K H a xs) : aU K H' a xs := by
 rcases h with (h | ⟨o, h⟩) | h
 ·exact .inl (.inl (e _ _ h))
 ·exact .inl (.inr ⟨o, e _ _ h⟩)
 ·exact .inr h
end L2
namespace C5
open PySem
section
variable {M : Model} {A : Around} {E : Value → Shared → Prop} {s : Shared}
noncomputable def clGo (env : Env) : List (Str × NameKind) → List (Str × Addr) → List (Str × Addr)
  | [], cs => cs
  | (n, k) :: r, cs => clGo env r (if k == .free then (n, (env.cells.lookup n).getD 0) :: cs else cs)
theorem clGo_cons (env : Env) (n : Str) (k : NameKind) (r : List (Str × NameKind)) (cs : List (Str × Addr)) : clGo env ((n, k) :: r) cs = clGo env r (if k == .free then (n, (env.cells.lookup n).getD 0) :: cs else cs) := rfl
noncomputable def iy (sc : Scope) (env : Env) : List (Str × Addr) := clGo env sc.names []
theorem clGo_run {env : Env} (f : Str × NameKind → List (Str × Addr) → Sem (ForInStep (List (Str × Addr))))
    (hf : ∀ n k cs, f (n, k) cs = if k == .free then (do let a ← cellOf env n; pure (.yield ((n, a) :: cs))) else pure (.yield cs)) :
    ∀ (l : List (Str × NameKind)) (cs : List (Str × Addr)), (∀ y ∈ l, y.2 = .free → ∃ c, env.cells.lookup y.1 = some c) → forIn l cs f = pure (clGo env l cs)
  | [], cs, _ => by rw [List.forIn_nil]; rfl
  | (n, k) :: r, cs, h => by
    rw [List.forIn_cons, hf]
    have hr := fun cs' => clGo_run f hf r cs' fun y hy => h y (List.mem_cons_of_mem _ hy)
    cases hk : k == NameKind.free with
    | false =>
      simp only [Bool.false_eq_true, if_false, pure_bind]
      rw [hr, clGo_cons, hk]; rfl
    | true =>
      obtain ⟨c, hc⟩ := h (n, k) List.mem_cons_self (by simpa using hk)
      have hc' : cellOf env n = pure c := by
        unfold cellOf
        rw [show env.cells.lookup n = some c from hc]
      simp only [if_true, hc', pure_bind]
      rw [hr, clGo_cons, hk, show env.cells.lookup n = some c from hc]; rfl
theorem clos_of {sc : Scope} {env : Env} (h : ∀ y ∈ sc.names, y.2 = .free → ∃ c, env.cells.lookup y.1 = some c) : closureFor sc env = pure (iy sc env) := by
 unfold closureFor iy
 dsimp only
 rw [clGo_run (env := env) _ (fun n k cs => by cases hk : k == NameKind.free <;> simp [hk]) sc.names [] h]
 exact pure_bind _ _
theorem clGo_mem {env : Env} : ∀ (l : List (Str × NameKind)) (cs : List (Str × Addr)) (x : Str) (c : Addr), (x, c) ∈ clGo env l cs → (x, c) ∈ cs ∨ ((x, NameKind.free) ∈ l ∧ c = (env.cells.lookup x).getD 0)
  | [], cs, x, c, h => .inl h
  | (n, k) :: r, cs, x, c, h => by
    unfold clGo at h
    rcases clGo_mem r _ x c h with h | ⟨h, e⟩
    · cases hk : k == NameKind.free with
      | false => rw [hk, if_neg Bool.false_ne_true] at h; exact .inl h
      | true =>
        rw [hk, if_pos rfl] at h
        have hk' : k = .free := by simpa using hk
        rcases List.mem_cons.mp h with e | h
        · cases e; subst hk'; exact .inr ⟨List.mem_cons_self, rfl⟩
        · exact .inl h
    · exact .inr ⟨List.mem_cons_of_mem _ h, e⟩
theorem clGo_keep {env : Env} : ∀ (l : List (Str × NameKind)) (cs : List (Str × Addr)) (p : Str × Addr), p ∈ cs → p ∈ clGo env l cs
  | [], _, _, h => h
  | (n, k) :: r, cs, p, h => by
    unfold clGo
    refine clGo_keep r _ p ?_
    split
    · exact List.mem_cons_of_mem _ h
    · exact h
theorem clGo_has {env : Env} : ∀ (l : List (Str × NameKind)) (cs : List (Str × Addr)) (x : Str), (x, NameKind.free) ∈ l → (x, (env.cells.lookup x).getD 0) ∈ clGo env l cs
  | (n, k) :: r, cs, x, h => by
    unfold clGo
    rcases List.mem_cons.mp h with e | h
    · cases e
      refine clGo_keep r _ _ ?_
      simp
    · exact clGo_has r _ x h
theorem lookup_of_mem {α : Type} : ∀ {l : List (Str × α)} {x : Str} {c : α}, (x, c) ∈ l → (∀ c', (x, c') ∈ l → c' = c) → l.lookup x = some c
  | (k, v) :: r, x, c, h, u => by
    rw [List.lookup_cons]
    cases hb : x == k with
    | true =>
      have e := beq_iff_eq.mp hb
      subst e
      rw [u v List.mem_cons_self]
    | false =>
      rcases List.mem_cons.mp h with e | h
      · cases e; simp at hb
      · exact lookup_of_mem h fun c' h' => u c' (List.mem_cons_of_mem _ h')
theorem clOf_sub {sc : Scope} {env : Env} (h : ∀ y ∈ sc.names, y.2 = .free → ∃ c, env.cells.lookup y.1 = some c) {x : Str} {c : Addr} (e : (iy sc env).lookup x = some c) :
  env.cells.lookup x = some c ∧ (x, NameKind.free) ∈ sc.names := by
 rcases clGo_mem sc.names [] x c (mem_of_lookup e) with z | ⟨z, q⟩
 ·exact absurd z (by simp)
 ·obtain ⟨c', hc⟩ := h _ z rfl
  have hc : env.cells.lookup x = some c' := hc
  rw [hc] at q
  exact ⟨by rw [hc, q]; rfl, z⟩
theorem clOf_has {sc : Scope} {env : Env} {x : Str} (e : (x, NameKind.free) ∈ sc.names) : (iy sc env).lookup x = some ((env.cells.lookup x).getD 0) :=
 lookup_of_mem (clGo_has sc.names [] x e) fun c' h' => by
  rcases clGo_mem sc.names [] x c' h' with z | ⟨_, q⟩
  ·exact absurd z (by simp)
  ·exact q
theorem dJ : ∀ (names : List (Str × NameKind)) (n : Nat) (acc : List (Str × Addr)), cellsFrom n names acc = cellsFrom n names [] ++ acc
  | [], _, _ => rfl
  | (x, k) :: r, n, acc => by
    unfold cellsFrom
    split
    · rw [dJ r (n + 1) ((x, n) :: acc), dJ r (n + 1) [(x, n)]]; simp
    · exact dJ r n acc
theorem iU : ∀ (names : List (Str × NameKind)) (n : Nat) (x : Str) (c : Addr), (x, c) ∈ cellsFrom n names [] → (x, NameKind.cell) ∈ names
  | [], _, _, _, h => by simp [cellsFrom] at h
  | (y, k) :: r, n, x, c, h => by
    unfold cellsFrom at h
    split at h
    · rename_i hk
      have hk' : k = .cell := by simpa using hk
      rw [dJ] at h
      rcases List.mem_append.mp h with h | h
      · exact List.mem_cons_of_mem _ (iU r _ x c h)
      · have e : (x, c) = (y, n) := by simpa using h
        cases e; subst hk'; exact List.mem_cons_self
    · exact List.mem_cons_of_mem _ (iU r _ x c h)
noncomputable def iQ (sc : Scope) (cl : List (Str × Addr)) (C : Addr) (env : Env) : Env :=
 { scope := relabel sc env, locals := C, globals := env.globals, cells := cellsFrom (C + 1) sc.names cl, qual := env.qual, func := none, code := env.code, frame := env.frame, builtins := env.builtins }
theorem newBlock {sc : Scope} {cl : List (Str × Addr)} {env : Env} {Q : Env → Shared → Prop}
  (h : Q (newEnv sc s.heap.objs.size env.globals (cellsFrom (s.heap.objs.size + 1) sc.names cl) env.qual none .none (some env) builtinsNs) { s with heap := pushCells (s.heap.push { cls := .type "dict", data := .dict #[] }) sc.names }) :
  wpAny M A (newFunctionEnv sc env.globals cl [] env.qual none .none (some env)) Q E s := by
 simp only [newFunctionEnv, Option.isSome_some, if_true]
 refine wpAny_bind (wpAny_alloc ?_)
 refine wpAny_bind (wpAny_layCells _ (fun name kind cells => by cases hkc : kind == NameKind.cell <;> simp [hkc]) _ _ _ _ ?_)
 rw [show ({ s with heap := s.heap.push { cls := .type "dict", data := .dict #[] } } : Shared).heap.objs.size = s.heap.objs.size + 1 from Heap.size_push ..]
 rw [List.forIn_nil]
 exact wpAny_bind (wpAny_pure (wpAny_pure h))
theorem relabel_cell {sc : Scope} {env : Env} : ∀ {l : List (Str × NameKind)} {x : Str},
    (l.map fun (n, k) => if (k == NameKind.free && env.scope.kind == .function && env.kindOf n == some .cell) then (n, NameKind.cell) else (n, k)).lookup x = some .cell → l.lookup x = some .cell ∨ l.lookup x = some .free
  | [], x, h => by simp at h
  | (n, k) :: r, x, h => by
    rw [List.map_cons] at h
    rw [List.lookup_cons]
    cases hx : x == n with
    | true =>
      dsimp only at h
      split at h
      · rename_i hc
        rw [Bool.and_eq_true, Bool.and_eq_true] at hc
        have : k = .free := by simpa using hc.1.1
        rw [this]; exact .inr rfl
      · simp only [List.lookup_cons, hx] at h
        exact .inl h
    | false =>
      refine relabel_cell (sc := sc) (env := env) (l := r) ?_
      dsimp only at h
      split at h <;> simpa only [List.lookup_cons, hx] using h
theorem relabel_free {env : Env} : ∀ {l : List (Str × NameKind)} {x : Str},
    (l.map fun (n, k) => if (k == NameKind.free && env.scope.kind == .function && env.kindOf n == some .cell) then (n, NameKind.cell) else (n, k)).lookup x = some .free → l.lookup x = some .free
  | [], x, h => by simp at h
  | (n, k) :: r, x, h => by
    rw [List.map_cons] at h
    rw [List.lookup_cons]
    cases hx : x == n with
    | true =>
      dsimp only at h
      split at h
      · simp only [List.lookup_cons, hx] at h
        cases h
      · simp only [List.lookup_cons, hx] at h
        exact h
    | false =>
      refine relabel_free (env := env) (l := r) ?_
      dsimp only at h
      split at h <;> simpa only [List.lookup_cons, hx] using h
theorem relabel_of_free {env : Env} : ∀ {l : List (Str × NameKind)} {x : Str}, l.lookup x = some .free →
    (l.map fun (n, k) => if (k == NameKind.free && env.scope.kind == .function && env.kindOf n == some .cell) then (n, NameKind.cell) else (n, k)).lookup x = some .cell ∨
    (l.map fun (n, k) => if (k == NameKind.free && env.scope.kind == .function && env.kindOf n == some .cell) then (n, NameKind.cell) else (n, k)).lookup x = some .free
  | [], x, h => by simp at h
  | (n, k) :: r, x, h => by
    rw [List.map_cons]
    rw [List.lookup_cons] at h
    cases hx : x == n with
    | true =>
      rw [hx] at h
      cases h
      dsimp only
      split
      · exact .inl (by simp only [List.lookup_cons, hx])
      · exact .inr (by simp only [List.lookup_cons, hx])
    | false =>
      rw [hx] at h
      have := relabel_of_free (env := env) (l := r) h
      dsimp only
      split <;> simpa only [List.lookup_cons, hx] using this
end
section
variable {prog : Program} {w : World} {A : Around} {R : Result → Shared → Prop} {s : Shared}
theorem compLoop_go {elt target iter : Expr} {ifs : List Expr} {scope : Scope} {pos : Pos} {it acc : Value} {env : Env} (I : Nat → Shared → Prop)
  (turn : ∀ n s, I n s → wpAny (model prog w) A (pyNext it) (fun r s₁ => match r with
   | none => R (.ok .next) s₁
   | some v => wpAny (model prog w) A (letOwnedTupleGo target it v) (fun _ s₁' => wpAny (model prog w) A (assign target env v) (fun _ s₂ =>
     wpAny (model prog w) A (forIn ifs true fun c r => if r = true then do let ok ← isTrue c env (eval c env); pure (ForInStep.yield ok) else pure (ForInStep.yield r)) (fun ok s₃ =>
      if ok = true then wpAny (model prog w) A (eval elt env) (fun x s₄ =>
       wpAny (model prog w) A (call (.builtin "list.append") [acc, x]) (fun _ s₅ => ∃ m, m < n ∧ I m s₅) (fun _ _ => False) s₄) (fun _ _ => False) s₃
      else ∃ m, m < n ∧ I m s₃) (fun _ _ => False) s₂) (fun _ _ => False) s₁') (fun _ _ => False) s₁) (fun _ _ => False) s)
  (n : Nat) (h : I n s) :
  codeAny (model prog w) A (.compLoop (.ListComp elt [⟨target, iter, ifs, 0⟩] scope pos) 0 it acc env) R s := by
 refine codeAny_loop rfl I (fun n s hI => ?_) n h
 show wpAny _ A ((compTurn (.ListComp elt [⟨target, iter, ifs, 0⟩] scope pos) 0 it acc env).onRaise (fun x => do noteFrame x env; theTreesLotGoes x)) _ _ s
 refine wpAny_noted ?_
 rw [compTurn_list]
 refine wpAny_bind (wpAny_standAt (wpAny_bind (wpAny_mono (turn n s hI) (fun r s₁ h₁ => ?_) fun _ _ h' => h'.elim)))
 cases r with
 | none => exact wpAny_pure h₁
 | some v =>
  refine wpAny_bind (wpAny_mono h₁ (fun _ s₁' h₁' => ?_) fun _ _ h' => h'.elim)
  refine wpAny_bind (wpAny_mono h₁' (fun _ s₂ h₂ => wpAny_bind (wpAny_mono h₂ (fun ok s₃ h₃ => ?_) fun _ _ h' => h'.elim)) fun _ _ h' => h'.elim)
  cases ok with
  | false => exact wpAny_pure ⟨rfl, h₃⟩
  | true =>
   exact wpAny_bind (wpAny_bind (wpAny_mono h₃ (fun x s₄ h₄ => wpAny_bind (wpAny_mono h₄ (fun _ s₅ h₅ => wpAny_pure (wpAny_pure ⟨rfl, h₅⟩)) fun _ _ h' => h'.elim)) fun _ _ h' => h'.elim))
end
end C5
namespace L2
open PySem PySem.Spec PyProof.Rows C5
noncomputable def entry (src : List (Option Nat)) (σ : St) : St := src.map fun o => o.bind fun i => (σ[i]?).join
structure gA (so sc : Scope) (No N : List Str) (src : List (Option Nat)) : Prop where
  kind : sc.kind = .function
  free : sc.names.all (fun y => !(y.2 == .free) || (so.names.lookup y.1 == some .cell || so.names.lookup y.1 == some .free)) = true
  uniq : sc.names.all (fun y => sc.names.lookup y.1 == some y.2) = true
  len : src.length = N.length
  src : (src.zip N).all (fun p => match p.1 with | none => true | some i => No[i]? == some p.2 && sc.names.lookup p.2 == some .free) = true
  nd : N.Nodup
noncomputable def gf (X : Cx) (sc : Scope) (N : List Str) (fp : List Addr) (C : Addr) (s : Shared) (H : Hp) : Cx :=
 { X with N := N, s₀ := s, H₀ := H, env := iQ sc (iy sc X.env) C X.env, outer := X.stack, stack := X.stack, ex := fp, fn := fun x => sc.names.lookup x == some .cell, pn := [], xe := fun _ _ => False }
section
variable {X : Cx} {pins : List (Addr × Obj)} {σ : St} {H : Hp} {s : Shared} {sc : Scope} {N : List Str} {src : List (Option Nat)}
theorem gA.has {so : Scope} {No : List Str} (B : gA so sc No N src) (hso : X.env.scope = so) (ok : X.Ok) : ∀ y ∈ sc.names, y.2 = .free → ∃ c, X.env.cells.lookup y.1 = some c := by
 intro y hy hk
 have h := List.all_eq_true.mp B.free y hy
 rw [hk] at h
 simp only [beq_self_eq_true, Bool.not_true, Bool.false_or, Bool.or_eq_true, beq_iff_eq] at h
 rw [← hso] at h
 rcases h with h | h
 ·exact ok.has y.1 (.inl h)
 ·exact ok.has y.1 (.inr h)
theorem gA.look {so : Scope} {No : List Str} (B : gA so sc No N src) {x : Str} {k : NameKind} (h : (x, k) ∈ sc.names) : sc.names.lookup x = some k := by
 have := List.all_eq_true.mp B.uniq (x, k) h
 simpa using this
theorem lookup_app {α : Type} : ∀ {l r : List (Str × α)} {x : Str} {c : α}, (l ++ r).lookup x = some c → l.lookup x = some c ∨ r.lookup x = some c
  | [], _, _, _, h => .inr h
  | (k, v) :: l, r, x, c, h => by
    rw [List.cons_append, List.lookup_cons] at h
    rw [List.lookup_cons]
    cases hb : x == k with
    | true => rw [hb] at h; exact .inl h
    | false => rw [hb] at h; exact lookup_app h
theorem lookup_app_r {α : Type} : ∀ {l r : List (Str × α)} {x : Str}, (∀ c, (x, c) ∉ l) → (l ++ r).lookup x = r.lookup x
  | [], _, _, _ => rfl
  | (k, v) :: l, r, x, h => by
    rw [List.cons_append, List.lookup_cons]
    have hb : (x == k) = false := beq_eq_false_iff_ne.mpr fun e => h v (by rw [e]; exact List.mem_cons_self)
    rw [hb]
    exact lookup_app_r fun c hc => h c (List.mem_cons_of_mem _ hc)
theorem Inv.block {fp : List Addr} {h1 : Heap} {C : Nat} {t : Nat} (I : Inv X pins σ H s) (B : gA X.env.scope sc X.N N src) (hf : ∀ b ∈ fp, FpOk X pins H b) (hlt : ∀ b ∈ fp, b < s.heap.objs.size)
  (hC : C = s.heap.objs.size + 1) (e1 : h1 = pushCells ((s.heap.push { cls := .type "list", data := .seq #[] }).push { cls := .type "dict", data := .dict #[] }) sc.names) :
  Inv (gf X sc N fp C s H) [] (entry src σ) (upd H s.heap.objs.size (.lst [])) { s with heap := h1, toks := t } := by
 have has := B.has rfl I.ok
 have szL : (s.heap.push { cls := .type "list", data := .seq #[] } : Heap).objs.size = C := by rw [Heap.size_push, hC]
 have szD : ((s.heap.push { cls := .type "list", data := .seq #[] }).push { cls := .type "dict", data := .dict #[] } : Heap).objs.size = C + 1 := by rw [Heap.size_push, szL]
 have own := cellsFrom_ok sc.names ((s.heap.push { cls := .type "list", data := .seq #[] }).push { cls := .type "dict", data := .dict #[] }) (C + 1) [] ⟨fun _ _ hm => (nomatch hm), List.Pairwise.nil⟩ (by rw [szD]; exact Nat.le_refl _)
 rw [szD, ← e1] at own
 have keep0 : ∀ b o, ((s.heap.push { cls := .type "list", data := .seq #[] }).push { cls := .type "dict", data := .dict #[] } : Heap).get? b = some o → h1.get? b = some o := fun b o e => by rw [e1]; exact pushCells_keeps _ _ b o e
 have keep : ∀ b o, s.heap.get? b = some o → h1.get? b = some o := fun b o e => keep0 b o (Heap.get?_push_of_some _ (Heap.get?_push_of_some _ e))
 have atD : h1.get? s.heap.objs.size = some { cls := .type "list", data := .seq #[] } := keep0 _ _ (Heap.get?_push_of_some _ (Heap.get?_push_size _ rfl))
 have nsC : h1.Ns C (fun _ => none) := by
  have q := Heap.Ns.new (s.heap.push { cls := .type "list", data := .seq #[] }) (.type "dict")
  rw [szL] at q
  exact q.keeps keep0
 have fresh : ∀ b, s.heap.objs.size ≤ b → H b = none := fun b hb => I.hok.fresh hb
 have cells : ∀ x c, (cellsFrom (C + 1) sc.names (iy sc X.env)).lookup x = some c →
   ((x, c) ∈ cellsFrom (C + 1) sc.names [] ∧ h1.IsCell c none ∧ C + 1 ≤ c) ∨ (X.env.cells.lookup x = some c ∧ (x, NameKind.free) ∈ sc.names) := fun x c e => by
  rw [dJ] at e
  rcases lookup_app e with e | e
  ·have hm := mem_of_lookup e
   obtain ⟨q1, q2⟩ := own.empty x c hm
   exact .inl ⟨hm, q1, q2⟩
  ·exact .inr (clOf_sub has e)
 have cellLt : ∀ x c, X.env.cells.lookup x = some c → @LT.lt Nat instLTNat c s.heap.objs.size := fun x c e => by
  obtain ⟨v, z⟩ := I.cell x c e
  exact z.lt
 have freeIn : ∀ x, (x, NameKind.free) ∈ sc.names → (cellsFrom (C + 1) sc.names (iy sc X.env)).lookup x = X.env.cells.lookup x := fun x hx => by
  rw [dJ, lookup_app_r (fun c hc => ?_), clOf_has hx]
  ·obtain ⟨c, hc⟩ := has _ hx rfl
   have hc : X.env.cells.lookup x = some c := hc
   rw [hc]; rfl
  ·have k1 := B.look (iU sc.names _ x c hc)
   have k2 := B.look hx
   rw [k1] at k2; cases k2
 have ex : (gf X sc N fp C s H).ex = fp := rfl
 refine ⟨⟨I.ok.mod, B.kind, I.ok.glob, I.ok.blt, ?_, ?_, ?_, ?_, I.ok.hd, I.ok.frames, .inl rfl, ?_, I.bs, Nat.le_trans I.ok.bsz I.sz, ?_, ?_, I.stack, I.stkFree⟩, rfl, I.bare, Un.laid keep (Nat.le_refl _) (fresh _ (Nat.le_refl _)), ?_, ?_, ?_, ?_, ?_, ?_, ?_⟩
 ·-- above
  show s.heap.objs.size ≤ C
  omega
 ·-- inj
  intro x y c h1' h2'
  rcases cells x c h1' with ⟨m1, _, g1⟩ | ⟨e1', _⟩
  ·rcases cells y c h2' with ⟨m2, _, _⟩ | ⟨e2', _⟩
   ·exact name_of_addr own.apart m1 m2
   ·have := cellLt y c e2'; omega
  ·rcases cells y c h2' with ⟨_, _, g2⟩ | ⟨e2', _⟩
   ·have := cellLt x c e1'; omega
   ·exact I.ok.inj x y c e1' e2'
 ·-- has
  intro x hx
  show ∃ c, (cellsFrom (C + 1) sc.names (iy sc X.env)).lookup x = some c
  have hx' : sc.names.lookup x = some .cell ∨ sc.names.lookup x = some .free := by
   rcases hx with hx | hx
   ·exact relabel_cell (sc := sc) (env := X.env) hx
   ·exact .inr (relabel_free (env := X.env) hx)
  rcases hx' with hx' | hx'
  ·exact Option.isSome_iff_exists.mp (PySem.W.cellsFrom_some sc.names (C + 1) (iy sc X.env) (.inl hx'))
  ·rw [freeIn x (PySem.mem_of_lookup hx')]
   exact has _ (PySem.mem_of_lookup hx') rfl
 ·-- cab
  intro x c hfn hc
  have hfn' : sc.names.lookup x = some .cell := by simpa [gf] using hfn
  show s.heap.objs.size ≤ c
  rcases cells x c hc with ⟨_, _, g⟩ | ⟨_, hfr⟩
  ·omega
  ·have := B.look hfr
   rw [hfn'] at this; cases this
 ·-- exf
  intro b hb
  rw [ex] at hb
  have hb' : @LT.lt Nat instLTNat b s.heap.objs.size := hlt b hb
  obtain ⟨f0, f1, f2, f3, f4, f5⟩ := hf b hb
  refine ⟨Nat.ne_of_lt (show @LT.lt Nat instLTNat b C by omega), fun x c hc => ?_⟩
  rcases cells x c hc with ⟨_, _, g⟩ | ⟨e, _⟩
  ·exact Nat.ne_of_gt (show @LT.lt Nat instLTNat b c by omega)
  ·exact f4 x c e
 ·-- noex
  intro b o e hb
  rw [ex] at hb
  obtain ⟨f0, f1, f2, f3, f4, f5⟩ := hf b hb
  rcases f3 with f3 | f3
  ·exact I.ok.noex b o e f3
  ·exact absurd (Nat.lt_of_lt_of_le (Heap.lt_size e) (Nat.le_trans I.ok.bsz f3)) (Nat.lt_irrefl _)
 ·-- exfs
  intro b hb hb2
  rw [ex] at hb
  obtain ⟨f0, f1, f2, f3, f4, f5⟩ := hf b hb
  rcases List.mem_cons.mp (I.stkSub b hb2) with z | z
  ·exact f1 z
  ·exact f2 z
 ·-- loc
  refine ⟨fun _ => none, nsC, fun j x v hj hv _ => ?_⟩
  have hj : N[j]? = some x := hj
  unfold entry at hv
  rw [List.getElem?_map] at hv
  cases hs : src[j]? with
  | none => rw [hs] at hv; cases hv
  | some o =>
   rw [hs] at hv
   cases o with
   | none => cases hv
   | some i =>
    have hv : ((σ[i]?).join) = some v := by simpa using hv
    have hm : (some i, x) ∈ src.zip N := by
     rw [List.mem_iff_getElem?]
     exact ⟨j, by rw [List.getElem?_zip_eq_some]; exact ⟨hs, hj⟩⟩
    have q := List.all_eq_true.mp B.src _ hm
    simp only [Bool.and_eq_true, beq_iff_eq] at q
    obtain ⟨q1, q2⟩ := q
    have hfr := PySem.mem_of_lookup q2
    have hσ : σ[i]? = some (some v) := by
     cases e : σ[i]? with
     | none => rw [e] at hv; cases hv
     | some u => rw [e] at hv; cases u with
      | none => cases hv
      | some w' => cases hv; rfl
    obtain ⟨m, hn, hl⟩ := I.loc
    have hso := List.all_eq_true.mp B.free _ hfr
    simp only [beq_self_eq_true, Bool.not_true, Bool.false_or, Bool.or_eq_true, beq_iff_eq] at hso
    have hvis : Vis X.env.scope x := by
     rcases hso with z | z
     ·exact .inr (.inl z)
     ·exact .inr (.inr z)
    obtain ⟨u, ru, lk⟩ := hl i x v q1 hσ hvis
    refine ⟨u, ru, .inr ⟨?_, ?_⟩⟩
    ·exact relabel_of_free (env := X.env) q2
    ·rcases lk with ⟨kk, _⟩ | ⟨_, c, hc, hcell⟩
     ·have kk : X.env.scope.names.lookup x = some .local := kk
      rcases hso with z | z
      ·rw [kk] at z; cases z
      ·rw [kk] at z; cases z
     ·refine ⟨c, ?_, hcell.keeps keep⟩
      show (cellsFrom (C + 1) sc.names (iy sc X.env)).lookup x = some c
      rw [freeIn x hfr]; exact hc
 ·-- cell
  intro x c hc
  rcases cells x c hc with ⟨_, g, _⟩ | ⟨e, _⟩
  ·exact ⟨none, g⟩
  ·obtain ⟨v, z⟩ := I.cell x c e
   exact ⟨v, z.keeps keep⟩
 ·-- free
  show upd H s.heap.objs.size (.lst []) C = none
  rw [aJ (Nat.ne_of_gt (show @LT.lt Nat instLTNat s.heap.objs.size C by omega))]
  exact fresh _ (show @LE.le Nat instLENat s.heap.objs.size C by omega)
 ·-- freeC
  intro x c hc
  rcases cells x c hc with ⟨_, _, g⟩ | ⟨e, _⟩
  ·rw [aJ (Nat.ne_of_gt (show @LT.lt Nat instLTNat s.heap.objs.size c by omega))]; exact fresh _ (show @LE.le Nat instLENat s.heap.objs.size c by omega)
  ·rw [aJ (Nat.ne_of_lt (cellLt x c e))]; exact I.freeC x c e
 ·-- pin
  intro p hp
  exact absurd (show p ∈ ([] : List (Addr × Obj)) from hp) (by simp)
 ·-- hok
  refine I.hok.laid keep (Nat.le_refl _) ?_
  exact ⟨Nat.zero_le _, [], 0, .nil, atD⟩
 ·-- len
  unfold entry
  rw [List.length_map]
  exact B.len
noncomputable def PTs (X : Cx) (ifs : List Expr) (t : TT) : Prop :=
 ∀ (pins : List (Addr × Obj)) (s : Shared) (σ : St) (H : Hp) (Q : Bool → Hp → Prop), Inv X pins σ H s → t σ H Q →
  wpAny (model X.prog X.w) X.A (forIn ifs true fun c r => if r = true then do let ok ← isTrue c X.env (eval c X.env); pure (ForInStep.yield ok) else pure (ForInStep.yield r)) (TP X pins σ Q) X.xe s
noncomputable def tTrue : TT := fun _ H Q => Q true H
theorem bh : PTs X [] tTrue := fun _ _ _ H _ I h => wpAny_tests_nil ⟨H, I, h⟩
theorem pts_one {c : Expr} {t : TT} (h : PT X c t) : PTs X [c] t := fun pins s σ H Q I hw => wpAny_tests_one (h pins s σ H Q I hw)
noncomputable def tComp (src : List (Option Nat)) (wi : TI) (g : TG) (tt : TT) (te : TE) : TE := fun σ H Q => wi σ H fun J H1 => ∀ D, H1 D = none →
 ∃ W : Nat → Nat → St → Hp → Prop, (∃ m, W 0 m (entry src σ) (upd H1 D (.lst []))) ∧ ∀ i m σ' H', W i m σ' H' →
  (J.stop i H' ∧ Q (.ref D) H') ∨ (J.go i H' ∧ ∃ N : St → Hp → Prop, (∀ σ2 H2, N σ2 H2 → ∃ m', m' < m ∧ W (i + 1) m' σ2 H2) ∧ ∀ x H2, J.yld i H' x H2 → g x σ' H2 fun σ3 H3 => tt σ3 H3 fun b H4 =>
   if b = true then te σ3 H4 fun v H5 => ∃ xs, H5 D = some (.lst xs) ∧ xs.length < sizeLine ∧ N σ3 (upd H5 D (.lst (xs ++ [v]))) else N σ3 H4)
theorem bG {elt tgt iter : Expr} {ifs : List Expr} {wi : TI} {g : TG} {tt : TT} {te : TE} {pos : Pos} (hc : X.calm = true) (B : gA X.env.scope sc X.N N src) (hi : PI X tgt iter wi)
  (hg : ∀ (s : Shared) (H : Hp) (C : Addr) (fp : List Addr), PG (gf X sc N fp C s H) tgt g) (ht : ∀ (s : Shared) (H : Hp) (C : Addr) (fp : List Addr), PTs (gf X sc N fp C s H) ifs tt)
  (he : ∀ (s : Shared) (H : Hp) (C : Addr) (fp : List Addr), PE (gf X sc N fp C s H) elt te) (hs : ∀ x, foldedSetIterable iter X.env x = pure x := by intro _; rfl) :
  PE X (.ListComp elt [⟨tgt, iter, ifs, 0⟩] sc pos) (tComp src wi g tt te) := by
 intro pins s σ H Q I h
 rw [eval_ListComp]
 have has := B.has rfl I.ok
 refine wpAny_comprehension_free (use := none) rfl hs (clos_of has) B.kind (fun y hy hk => by have := B.look (x := y.1) (k := y.2) hy; rw [hk] at this; exact this)
  (bZ (hi pins s σ H _ I h) fun v s1 h1 => bZ h1 fun itv s2 h2 => ?_)
 obtain ⟨it, fp, tn, J, H2, e, I2, T, st2, f2, q⟩ := h2
 subst e
 refine wpAny_newObj_type (newBlock ?_)
 obtain ⟨W, ⟨m0, w0⟩, turn⟩ := q s2.heap.objs.size (I2.hok.fresh (Nat.le_refl _))
 have hlt : ∀ b ∈ fp, b < s2.heap.objs.size := fun b hb => by
  obtain ⟨o, ho, _⟩ := T.obj 0 _ st2 b hb
  exact Heap.lt_size ho
 have szL : (s2.heap.push { cls := .type "list", dict := none, data := .seq ([] : List Value).toArray } : Heap).objs.size = s2.heap.objs.size + 1 := Heap.size_push ..
 generalize hh1 : pushCells ((s2.heap.push { cls := .type "list", dict := none, data := .seq ([] : List Value).toArray } : Heap).push { cls := .type "dict", data := .dict #[] }) sc.names = hB
 have IB := I2.block (C := (s2.heap.push { cls := .type "list", dict := none, data := .seq ([] : List Value).toArray } : Heap).objs.size) (t := s2.toks) B f2 hlt szL hh1.symm
 generalize (s2.heap.push { cls := .type "list", dict := none, data := .seq ([] : List Value).toArray } : Heap).objs.size = C at IB szL ⊢
 have keepB : ∀ b o, s2.heap.get? b = some o → hB.get? b = some o := fun b o e => by
  rw [← hh1]
  exact pushCells_keeps _ _ b o (Heap.get?_push_of_some _ (Heap.get?_push_of_some _ e))
 have stB : tn 0 hB := T.keep 0 _ _ st2 fun b _ o e => keepB b o e
 have frB : ∀ b ∈ fp, upd H2 s2.heap.objs.size (.lst []) b = none := fun b hb => by
  rw [aJ (Nat.ne_of_lt (hlt b hb))]
  exact (f2 b hb).1
 have stat : ∀ {H' : Hp}, (∀ b ∈ fp, H' b = none) → ∀ b ∈ fp, FpOk (gf X sc N fp C s2 H2) [] H' b := fun {H'} hn b hb => by
  obtain ⟨z1, z2⟩ := IB.ok.exf b hb
  exact ⟨hn b hb, z1, IB.ok.exfs b hb, .inl hb, z2, fun p hp => absurd (show p ∈ ([] : List (Addr × Obj)) from hp) (by simp)⟩
 show codeAny (model X.prog X.w) X.A (.compStart (.ListComp elt [⟨tgt, iter, ifs, 0⟩] sc pos) 0 (.ref it) (.ref s2.heap.objs.size) (iQ sc (iy sc X.env) C X.env)) (compPost (model X.prog X.w) X.A X.xe none (EP X pins σ Q) (.ref s2.heap.objs.size) C) { s2 with heap := hB }
 have loop : codeAny (model X.prog X.w) X.A (.compLoop (.ListComp elt [⟨tgt, iter, ifs, 0⟩] sc pos) 0 (.ref it) (.ref s2.heap.objs.size) (iQ sc (iy sc X.env) C X.env))
   (compPost (model X.prog X.w) X.A X.xe none (EP X pins σ Q) (.ref s2.heap.objs.size) C) { s2 with heap := hB } := by
  refine compLoop_go (fun n s' => ∃ i σ' H', Inv (gf X sc N fp C s2 H2) [] σ' H' s' ∧ tn i s'.heap ∧ (∀ b ∈ fp, H' b = none) ∧ W i n σ' H') ?_ m0 ⟨0, _, _, IB, stB, frB, w0⟩
  rintro n s3 ⟨i, σ3, H3, I3, st3, fr3, w3⟩
  rcases turn i n σ3 H3 w3 with ⟨stop, qn⟩ | ⟨go, N', hN, step⟩
  ·refine bZ (T.done (gf X sc N fp C s2 H2) rfl rfl rfl hc i [] s3 σ3 H3 _ I3 (stat fr3) st3 stop) fun r s4 ⟨hr, I4⟩ => ?_
   subst hr
   obtain ⟨m, hn, _⟩ := I4.loc
   refine ⟨m, hn, fun h' hs' => ?_⟩
   refine ⟨.ref s2.heap.objs.size, H3, ?_, rfl, qn⟩
   have ltC : ∀ b o, s2.heap.get? b = some o → b ≠ C := fun b o e => Nat.ne_of_lt (show @LT.lt Nat instLTNat b C by have : @LT.lt Nat instLTNat b s2.heap.objs.size := Heap.lt_size e; omega)
   have base := I4.base
   have freeC : H3 C = none := I4.free
   refine I2.call' (s' := { s4 with heap := h' }) (ch := fp) I4.os ⟨fun b o e n hb hx => ?_, fun b o e n hb hx => ?_, base.free, fun b o e hx => ?_, base.tups, base.frzs, base.tbls⟩ (fun b ob e => ?_) I4.bare (fun b hb => ?_)
   ·exact (hs'.2 b (ltC b o e)).trans (base.keep b o e n hb hx)
   ·obtain ⟨sl, e1⟩ := base.slot b o e n hb hx
    exact ⟨sl, (hs'.2 b (ltC b o e)).trans e1⟩
   ·obtain ⟨o', e1⟩ := base.there b o e hx
    exact ⟨o', (hs'.2 b (ltC b o e)).trans e1⟩
   ·refine (I4.hok b ob e).stay (fun c w' hc' q' => (hs'.2 c ?_).trans q') (fun _ q' => q') fun _ _ q' => q'
    intro z
    rcases hc' with z' | z'
    ·rw [← z', z, freeC] at e; cases e
    ·rw [z, freeC] at z'; cases z'
   ·obtain ⟨f0, f1, f2', f3, f4, f5⟩ := f2 b hb
    exact ⟨f3, f1, f4, f5⟩
  ·refine bZ (T.item (gf X sc N fp C s2 H2) rfl rfl rfl hc i [] s3 σ3 H3 _ I3 (stat fr3) st3 go) fun r s4 ⟨u, hr, h4⟩ => ?_
   subst hr
   refine bZ h4 fun _ s5 ⟨x, H5, I5, r5, y5, st5, fr5⟩ => ?_
   have I5' := I5.pinned (stat fr5) (T.obj _ _ st5)
   have again : ∀ {s7 : Shared} {σ7 : St} {H7 : Hp}, Inv (gf X sc N fp C s2 H2) ([] ++ pinsAt fp s5.heap) σ7 H7 s7 → N' σ7 H7 → ∃ m, m < n ∧ ∃ i σ' H', Inv (gf X sc N fp C s2 H2) [] σ' H' s7 ∧ tn i s7.heap ∧ (∀ b ∈ fp, H' b = none) ∧ W i m σ' H' := fun {s7 σ7 H7} I7 n7 => by
    obtain ⟨m', hm, w7⟩ := hN σ7 H7 n7
    refine ⟨m', hm, i + 1, σ7, H7, I7.unpinned, T.keep _ _ _ st5 fun b hb o e => (I7.pin (b, o) (List.mem_append_right _ (List.mem_append_right _ (dz hb e)))).1, fun b hb => ?_, w7⟩
    obtain ⟨o, e, d⟩ := T.obj _ _ st5 b hb
    exact (I7.pin (b, o) (List.mem_append_right _ (List.mem_append_right _ (dz hb e)))).2.1
   refine bZ (hg s2 H2 C fp _ s5 σ3 H5 x u _ I5' r5 (step x H5 y5)) fun _ s6 ⟨σ6, H6, I6, q6⟩ => ?_
   refine bZ (ht s2 H2 C fp _ s6 σ6 H6 _ I6 q6) fun b s7 ⟨H7, I7, q7⟩ => ?_
   cases b with
   | false =>
    rw [if_neg Bool.false_ne_true] at q7 ⊢
    exact again I7 q7
   | true =>
    rw [if_pos rfl] at q7 ⊢
    refine bZ (he s2 H2 C fp _ s7 σ6 H7 _ I7 q7) fun u8 s8 ⟨v8, H8, I8, r8, xs, hD, hz, n8⟩ => ?_
    exact bZ (cH (X := gf X sc N fp C s2 H2) _ s8 σ6 H8 (.ref s2.heap.objs.size) [v8] (.ref s2.heap.objs.size) [u8] (fun _ H => N' σ6 H) I8 rfl (.cons r8 .nil) ⟨_, xs, v8, rfl, rfl, hD, hz, n8⟩) fun _ s9 ⟨_, H9, I9, _, n9⟩ => again I9 n9
 exact codeAny_compStart_list loop (T.self _ 0 _ _ _ stB loop)
theorem comp_range {lo : Int} {n k : Nat} {tt : TT} {te : TE} {D : Addr} {σ0 : St} {H : Hp} {Fn : Hp → Prop} (hn : n ≤ sizeLine) (Pv : Nat → List V → Hp → Prop) (h0 : Pv 0 [] (upd H D (.lst [])))
  (hs : ∀ i ys H' (N : St → Hp → Prop), i < n → ys.length ≤ i → ys.length < sizeLine → H' D = some (.lst ys) → Pv i ys H' →
   (∀ H2 zs, H2 D = some (.lst zs) → zs.length ≤ i + 1 → Pv (i + 1) zs H2 → N (σ0.set k (some (.int (lo + i)))) H2) →
   tt (σ0.set k (some (.int (lo + i)))) H' fun b H4 => if b = true then te (σ0.set k (some (.int (lo + i)))) H4 fun v H5 => ∃ xs, H5 D = some (.lst xs) ∧ xs.length < sizeLine ∧ N (σ0.set k (some (.int (lo + i)))) (upd H5 D (.lst (xs ++ [v])))
    else N (σ0.set k (some (.int (lo + i)))) H4)
  (hd : ∀ ys H', H' D = some (.lst ys) → ys.length ≤ n → Pv n ys H' → Fn H') :
  ∃ W : Nat → Nat → St → Hp → Prop, (∃ m, W 0 m σ0 (upd H D (.lst []))) ∧ ∀ i m σ' H', W i m σ' H' →
   ((Itr lo n).stop i H' ∧ Fn H') ∨ ((Itr lo n).go i H' ∧ ∃ N : St → Hp → Prop, (∀ σ2 H2, N σ2 H2 → ∃ m', m' < m ∧ W (i + 1) m' σ2 H2) ∧ ∀ x H2, (Itr lo n).yld i H' x H2 → dG k x σ' H2 fun σ3 H3 => tt σ3 H3 fun b H4 =>
    if b = true then te σ3 H4 fun v H5 => ∃ xs, H5 D = some (.lst xs) ∧ xs.length < sizeLine ∧ N σ3 (upd H5 D (.lst (xs ++ [v]))) else N σ3 H4) := by
 refine ⟨fun i m σ' H' => m = n - i ∧ i ≤ n ∧ (∀ y, σ'.set k y = σ0.set k y) ∧ ∃ ys, H' D = some (.lst ys) ∧ ys.length ≤ i ∧ Pv i ys H', ⟨n, rfl, Nat.zero_le _, fun _ => rfl, [], ak, Nat.le_refl _, h0⟩, ?_⟩
 rintro i m σ' H' ⟨rfl, hi, hσ, ys, hD, hl, p⟩
 by_cases hlt : i < n
 ·refine .inr ⟨hlt, fun σ2 H2 => (∀ y, σ2.set k y = σ0.set k y) ∧ ∃ zs, H2 D = some (.lst zs) ∧ zs.length ≤ i + 1 ∧ Pv (i + 1) zs H2, ?_, ?_⟩
  ·rintro σ2 H2 ⟨q1, zs, q2, q3, q4⟩
   exact ⟨n - (i + 1), by omega, rfl, hlt, q1, zs, q2, q3, q4⟩
  ·rintro x H2 ⟨rfl, rfl⟩
   show tt (σ'.set k (some (.int (lo + i)))) H2 _
   rw [hσ]
   exact hs i ys H2 (fun σ2 H2 => (∀ y, σ2.set k y = σ0.set k y) ∧ ∃ zs, H2 D = some (.lst zs) ∧ zs.length ≤ i + 1 ∧ Pv (i + 1) zs H2) hlt hl (by omega) hD p fun H3 zs z1 z2 z3 => ⟨fun y => by rw [List.set_set], zs, z1, z2, z3⟩
 ·have e : i = n := by omega
  subst e
  exact .inl ⟨Nat.le_refl _, hd ys H' hD hl p⟩
end
section
variable {X : Cx}
noncomputable def rAll (K : PySem.W.Frag) : List V → Hp → VK → Prop := fun xs H Q => ∃ (p : Addr) (bs : List Bool), xs = [.ref p] ∧ aU K H p (bs.map V.bl) ∧ Q (.bl (bs.all id)) H
theorem all_range (bs : List Bool) : ((List.range bs.length).all fun i => bs.getD i false) = bs.all id := by
 induction bs with
 | nil => rfl
 | cons b r ih =>
  rw [List.length_cons, List.range_succ_eq_map, List.all_cons, List.all_map, List.all_cons, ← ih]
  rfl
theorem call_all (hc : X.calm = true) : gU X (.builtin "all") (rAll X.K) := by
 intro pins s σ H xs us Q I rs h
 obtain ⟨p, bs, rfl, hq, q⟩ := h
 obtain ⟨u, rfl, r1⟩ := vals1 rs
 cases r1
 obtain ⟨its, r, pl, hz⟩ := I.list hq
 have hlen : its.length = bs.length := by have := r.length; rw [List.length_map] at this; exact this.symm
 refine call_function_tree F.kind_all F.plain_all F.entry_all (F.args_all1 _) ?_
 show wpAny _ X.A.in1 (pyIter (.ref p) >>= _) _ _ s
 refine wpAny_bind (wpAny_pyIter_list pl.isList ?_)
 have hne : p ≠ s.heap.objs.size := by
  obtain ⟨o, ho, _⟩ := pl.isList
  exact Nat.ne_of_lt (Heap.lt_size ho)
 refine wpAny_pure ⟨plainId_quiet F.plain_all_loop _, ?_⟩
 refine codeAny_all_loop (Walks.list (A := X.A.in1) (I.ok.hd hc) s.heap.objs.size p hne its.toArray) (fun i => bs.getD i false) (fun i v s' Q' E' hP hQ' => ?_) its.toArray.size 0 _ rfl (Nat.zero_le _)
  ⟨⟨_, Heap.get?_push_size _ rfl, rfl, rfl⟩, (show s.heap.IsList p its.toArray from pl.isList).at fun o e => Heap.get?_push_of_some _ e⟩ fun h' tk hk => ?_
 ·have hP' : its[i]? = some v := by simpa using hP
  have hi : i < bs.length := by rw [← hlen]; exact (List.getElem?_eq_some_iff.mp hP').1
  obtain ⟨u, hu, ru⟩ := r.get (i := i) (x := V.bl (bs[i])) (by simp [hi])
  rw [hP'] at hu; cases hu
  obtain rfl : v = Value.bool bs[i] := ru
  have e : bs.getD i false = bs[i] := by simp [List.getD, hi]
  dsimp only at hQ'
  rw [e] at hQ'
  exact wpAny_truthy_bool hQ'
 ·refine ⟨.bl (bs.all id), H, I.kept (t' := tk) fun b o e => hk b o (fun z => ?_) (Heap.get?_push_of_some _ e), ?_, q⟩
  ·have z' : b = s.heap.objs.size := by simpa using z
   exact absurd (Heap.lt_size e) (by rw [z']; exact Nat.lt_irrefl _)
  ·show Value.bool _ = Value.bool _
   rw [List.drop_zero, List.size_toArray, hlen, all_range]
end
end L2
namespace L2
open PySem PySem.Spec PyProof.Rows
structure bI (K : PySem.W.Frag) (x qual : Str) (st : Stmt) (dV : Value) (f : Addr) (fd : FuncData) : Prop where
 ex : ∃ (oc : Value) (od : Option Addr) (kV doc pm : Value) (an : Option Addr) (cdv ct : Value) (osl : Array (Option Value)),
  fd = PySem.W.fnOf x qual (aL st) (aF st) (ao st) dV kV doc pm an cdv ct ∧ K.lookup f = some ⟨oc, od, .func fd, osl⟩ ∧ PySem.W.codeIn K cdv qual = true
 kp : PySem.W.keepIn K (.ref f) = true
theorem aR {K : PySem.W.Frag} {x qual : Str} {st : Stmt} {dV : Value} {f : Addr} {oc : Value} {od an : Option Addr} {osl : Array (Option Value)} {kV doc pm cdv ct : Value}
  (l : K.lookup f = some ⟨oc, od, .func (PySem.W.fnOf x qual (aL st) (aF st) (ao st) dV kV doc pm an cdv ct), osl⟩)
  (c : PySem.W.codeIn K cdv qual = true) (k : PySem.W.keepIn K (.ref f) = true) : bI K x qual st dV f (PySem.W.fnOf x qual (aL st) (aF st) (ao st) dV kV doc pm an cdv ct) := ⟨⟨oc, od, kV, doc, pm, an, cdv, ct, osl, rfl, l, c⟩, k⟩
structure iR (P : Program) (w : World) (K : PySem.W.Frag) (mg : Str → Option Value) (base : Heap) (k : Nat) (x : Str) (ps : List Str) (ds : List V) (sp : Sp) : Prop where
 ex : ∃ (f : Addr) (fd : FuncData) (dvs : List Value), bB P w K mg base gh k f fd ps sp ∧ mg x = some (.ref f) ∧ PySem.W.keepIn K (.ref f) = true ∧ Binds K fd ps dvs ∧ Vals ds dvs
section
variable {P : Program} {w : World} {K : PySem.W.Frag} {mg : Str → Option Value} {base : Heap}
theorem bI.ok {x qual : Str} {st : Stmt} {dV : Value} {f : Addr} {fd : FuncData} {N ps : List Str} {k : Nat} {sp : Sp} (F : bI K x qual st dV f fd) (S : aO N ps (ao st)) (len : ∀ vs H Q E, sp vs H Q E → vs.length = ps.length)
  (hbody : ∀ (cdv : Value) (A : Around) (outer : List Env) (s : Shared) (H : Hp) (vs : List V) (Q : VK) (E : XK), fB k (A.deeper (envOfC qual (ao st) s.heap.objs.size f cdv)) → sp vs H Q E →
   ∃ t, PSs (gY gh P w K mg base N qual (ao st) f cdv A outer s H E).nox (aF st) t ∧ t { nx := fun _ H' => Q .non H', rt := Q } (start N vs) H) : bB P w K mg base gh (k + 1) f fd ps sp := by
 obtain ⟨oc, od, kV, doc, pm, an, cdv, ct, osl, rfl, lk, hcd⟩ := F.ex
 refine fn_of lk hcd S len fun A outer s H vs Q E hr hsp => ?_
 obtain ⟨t, h, q⟩ := hbody cdv A outer s H vs Q E hr hsp
 exact ⟨t, h.nox, q⟩
theorem bI.def {x qual : Str} {st : Stmt} {f : Addr} {fd : FuncData} {ps : List Str} {k : Nat} {sp : Sp} (F : bI K x qual st .none f fd) (G : bB P w K mg base gh k f fd ps sp) (hm : mg x = some (.ref f))
  (h : ∀ (kV doc pm : Value) (an : Option Addr) (cdv ct : Value) (us : List Value), us.length = ps.length → bindArgs (PySem.W.fnOf x qual (aL st) (aF st) (ao st) .none kV doc pm an cdv ct) ⟨us, []⟩ = pure (ps.zip us)) : iR P w K mg base k x ps [] sp := by
 obtain ⟨oc, od, kV, doc, pm, an, cdv, ct, osl, rfl, lk, hcd⟩ := F.ex
 exact ⟨f, _, [], G, hm, F.kp, .all (h kV doc pm an cdv ct), .nil⟩
end
section
variable {X : Cx}
theorem aD {k : Nat} {x : Str} {ps : List Str} {ds : List V} {sp : Sp} {e : Expr} {es : List Expr} {t : TA} {p pos : Pos} (D : iR X.prog X.w X.K X.mg X.base k x ps ds sp) (hr : fB k X.A) (hg : Gl X x)
  (ha : PA X (e :: es) t) (hdb : (x == ("__debug__" : Str)) = false := by decide) (he : starEach (e :: es) X.env = (false, eval e X.env) :: starEach es X.env := by rfl) (hpl : (backTo pos (starEach es X.env)).any (·.1) = false := by rfl) :
  PE X (.Call (.Name x p) (e :: es) [] pos) (tCall sp ds E0 t) := by
 obtain ⟨f, fd, dvs, F, hm, hk, hb, hd⟩ := D.ex
 exact pe_call F hr hg hm hk hb hd pass0 ha hdb he hpl
end
end L2
namespace Att
open PySem PySem.W PySem.Calls PyProof.Rows
theorem weight_mem : ∀ {ns : List Int} {x : Int}, x ∈ ns → Builtin.Int.intBits x ≤ WData.weightAll (ns.map WData.int)
 | n :: r, x, h => by
  rw [List.map_cons]
  unfold WData.weightAll
  rcases List.mem_cons.mp h with e | h
  ·subst e
   have : WData.weight (.int x) = Builtin.Int.intBits x := by unfold WData.weight Builtin.Int.intBits; rfl
   omega
  ·have := weight_mem h
   omega
theorem bits_of_lay {ns : List Int} (h : WData.layableAll [WData.list (ns.map WData.int)] = true) : ∀ x ∈ ns, Builtin.Int.intBits x ≤ 2 ^ 20 := fun x hx => by
 have h1 : WData.layable (WData.list (ns.map WData.int)) = true := by simpa [WData.layableAll] using h
 unfold WData.layable at h1
 rw [Bool.and_eq_true] at h1
 have h2 : WData.weight (WData.list (ns.map WData.int)) ≤ 2 ^ 20 := of_decide_eq_true h1.2
 have h3 : WData.weight (WData.list (ns.map WData.int)) = WData.weightAll (ns.map WData.int) := by unfold WData.weight; rfl
 have h4 := weight_mem hx
 omega
theorem attach_callB {l : OpenLaw} {n : Nat} {q : Program} {loose : List Str} {XP : (Str → Option Value) → Heap → Prop} {YP : World → Heap → Prop} {d : DefRec}
  (hn : l.most = some n) (hdf : d.params.defaults = [])
  (call : ∀ (w : World) (s₀ s₁ : Shared) (mg mb : Str → Option Value) (fa : Addr) (o : Obj) (pm cd doc : Value) (a : Addr) (vs : List Value) (ns : List Int),
   Ground q loose [] XP w s₀ mg mb s₁.heap → YP w s₁.heap →
   s₁.heap.get? fa = some o → o.data = .func (docDef d.name d.params d.body d.scope pm cd doc) → s₁.heap.CodeRec cd d.name → mg d.name = some (.ref fa) →
   s₁.heap.get? a = some { cls := .type "list", data := .seq vs.toArray } → IntsAre vs ns → ns.length ≤ n → (∀ x ∈ ns, Builtin.Int.intBits x ≤ 2 ^ 20) → s₁.gens = #[] →
   codeAny (model l.prog w) callerA (.call (.ref fa) ⟨[.ref a], []⟩) (fun r s' => r = .ok (.ret (.bool true)) ∧ OldK s₁.heap s'.heap ∧ s'.os = s₁.os ∧ AllBare s'.gens) s₁) :
  WalkO q loose XP YP l.row.toRowW d [] (fun f vs => PySem.call f vs) := by
 intro w s₀ s₁ mg mb G Y fa o pm cd doc dV kV ho hd hcd hD hmg hg args vals as hpre hlay hrd hwl hlo
 obtain rfl : dV = .none := Dflts.none hD hdf
 obtain rfl : kV = .none := Dflts.noKw hD
 obtain ⟨a, vs, ns, rfl, rfl, hobj, hints, hlen⟩ := script_of hn hpre hwl
 refine enter_call (codeAny_mono (call w s₀ s₁ mg mb fa o pm cd doc a vs ns G Y ho (fd_plain hd) hcd hmg hobj hints hlen (bits_of_lay hlay) hg) fun r s' hq => ?_)
 obtain ⟨rfl, h2, h3, h4⟩ := hq
 exact ⟨.inl ⟨.bool true, .bool true, [], rfl, fun _ => rfl, .bool true, post_true l _, fun _ => ⟨List.Pairwise.nil, fun _ hm => (nomatch hm)⟩⟩, h2, h3, h4⟩
end Att
namespace L2
open PySem PySem.Spec PyProof.Rows
theorem walk_ofB {l : PySem.W.OpenLaw} {n k : Nat} {q : Program} {loose : List Str} {XP : (Str → Option Value) → Heap → Prop} {YP : World → Heap → Prop} {d : DefRec} {K : Params → PySem.W.Frag} {CX : CXT} {sp : PySem.W.Frag → Sp} {x : Str}
  (hn : l.most = some n) (hn2 : n ≤ sizeLine) (hdf : d.params.defaults = []) (hr : fB k callerA)
  (hY : ∀ (w : World) (h : Heap), YP w h → (K w.params).In h)
  (F : ∀ (w : World) (mg : Str → Option Value) (fa : Addr) (h : Heap), (K w.params).In h → h.Ns mainGlobals mg → mg d.name = some (.ref fa) →
   ∃ fd : FuncData, (∀ (s : Shared) (u : Value), BindsTo s fd ⟨[u], []⟩ [(x, u)]) ∧
    ∀ base : Heap, (K w.params).In base → base.Ns mainGlobals mg → bB l.prog w (K w.params) mg base CX k fa fd [x] (sp (K w.params)))
  (hsp : ∀ (K : PySem.W.Frag) (H : Hp) (a : Addr) (ns : List Int), ns.length ≤ n → (∀ x ∈ ns, Builtin.Int.intBits x ≤ 2 ^ 20) → Only H → aU K H a (ns.map V.int) → sp K [.ref a] H (fun v _ => v = .bl true) fun _ _ _ => False)
  (hCX : ∀ (H : Hp) (s : Shared) (e : Value) (s' : Shared), CX [] H s (fun _ _ _ => False) e s' → False) :
  PySem.W.WalkO q loose XP YP l.row.toRowW d [] (fun f vs => PySem.call f vs) := by
 refine Att.attach_callB hn hdf fun w s₀ s₁ mg mb fa o pm cd doc a vs ns G Y ho hd hcd hmg hobj hints hlen hbits hg => ?_
 have KX := hY w _ Y
 obtain ⟨fd, hb, hF⟩ := F w mg fa _ KX G.T.g hmg
 exact law_call KX G.T.g G.T.b G.T.builtins G.T.nolimit hg hobj hints (Nat.le_trans hlen hn2) hr hF hb (fun H hO hS => hsp (K w.params) H a ns hlen hbits hO hS) fun H e s' => hCX H s₁ e s'
end L2
namespace L2
open PySem
theorem len0 {us : List Value} (h : us.length = 0) : us = [] := List.eq_nil_of_length_eq_zero h
theorem lenS {us : List Value} {n : Nat} (h : us.length = n + 1) : ∃ a r, us = a :: r ∧ r.length = n := by
 cases us with
 | nil => exact absurd h (Nat.succ_ne_zero n).symm
 | cons a r => exact ⟨a, r, rfl, Nat.succ.inj h⟩
theorem gO {us : List Value} (h : us.length = 1) : ∃ a, us = [a] := by
 obtain ⟨a, r, rfl, h2⟩ := lenS h; cases len0 h2; exact ⟨a, rfl⟩
theorem len2 {us : List Value} (h : us.length = 2) : ∃ a b, us = [a, b] := by
 obtain ⟨a, r, rfl, h2⟩ := lenS h; obtain ⟨b, rfl⟩ := gO h2; exact ⟨a, b, rfl⟩
theorem len3 {us : List Value} (h : us.length = 3) : ∃ a b c, us = [a, b, c] := by
 obtain ⟨a, r, rfl, h2⟩ := lenS h; obtain ⟨b, c, rfl⟩ := len2 h2; exact ⟨a, b, c, rfl⟩
theorem len4 {us : List Value} (h : us.length = 4) : ∃ a b c d, us = [a, b, c, d] := by
 obtain ⟨a, r, rfl, h2⟩ := lenS h; obtain ⟨b, c, d, rfl⟩ := len3 h2; exact ⟨a, b, c, d, rfl⟩
end L2
namespace L2
open PySem PySem.Spec PyProof.Rows
open Sem (wp)
noncomputable def bu (h : Heap) (ea : Addr) : Prop := ∃ o vs, h.get? ea = some o ∧ o.data = .fields vs ∧ vs[2]? = some Value.none
theorem bu.keeps {h h' : Heap} {ea : Addr} (c : bu h ea) (k : ∀ o, h.get? ea = some o → h'.get? ea = some o) : bu h' ea := by
 obtain ⟨o, vs, e, d, n⟩ := c
 exact ⟨o, vs, k o e, d, n⟩
noncomputable def Keeps {α : Type} (P : Heap → Prop) : Sem α → Prop
 | .pure _ => True
 | .raise _ => True
 | .unsupported _ => True
 | .finish _ => True
 | .rule _ k => Keeps P (k ())
 | .at _ k => Keeps P (k ())
 | .load _ _ k => ∀ o, Keeps P (k o)
 | .update a _ f k => (∀ h, P h → P (h.update a f)) ∧ Keeps P (k ())
 | .alloc o k => (∀ h, P h → P (h.push o)) ∧ ∀ a, Keeps P (k a)
 | .loadIfAlive _ k => ∀ o, Keeps P (k o)
 | .point _ k => Keeps P (k ())
 | .register _ _ => True
 | .fresh k => ∀ n, Keeps P (k n)
 | .ask k => ∀ x, Keeps P (k x)
 | .choose _ _ k => ∀ n, Keeps P (k n)
 | .os _ _ k => ∀ x, Keeps P (k x)
 | .call .. => False
 | .handled _ k => ∀ x, Keeps P (k x)
 | .newGen _ k => ∀ n, Keeps P (k n)
 | .genState _ k => ∀ x, Keeps P (k x)
 | .resume .. => False
 | .yield .. => True
 | .stack k => ∀ l, Keeps P (k l)
 | .fork .. => True
 | .thread k => ∀ n, Keeps P (k n)
 | .await .. => True
section
variable {α β : Type} {P : Heap → Prop} {M : Model} {Γ : PySem.Ctx} {A : Around}
theorem Keeps.wp {t : Sem α} {Q : α → Pos → Shared → Prop} {E : Value → Pos → Shared → Prop} {p : Pos} {s : Shared} (hk : Keeps P t) (h : wp M Γ t Q E p s) (hp : P s.heap) :
  Sem.wp M Γ t (fun a p' s' => Q a p' s' ∧ P s'.heap) (fun e p' s' => E e p' s' ∧ P s'.heap) p s := by
 induction t generalizing p s with
 | pure a => exact ⟨h, hp⟩
 | raise e => exact ⟨h, hp⟩
 | unsupported w => exact h
 | finish e => exact h
 | rule tag k ih => exact ih () hk h hp
 | «at» q k ih => exact ih () hk h hp
 | load a part k ih => obtain ⟨o, ho, h⟩ := h; exact ⟨o, ho, ih o (hk o) h hp⟩
 | update a part f k ih => exact ⟨h.1, ih () hk.2 h.2 (hk.1 _ hp)⟩
 | alloc o k ih => exact ih _ (hk.2 _) h (hk.1 _ hp)
 | loadIfAlive a k ih => exact ih _ (hk _) h hp
 | point l k ih => exact ih () hk h hp
 | register a k ih => exact h
 | fresh k ih => exact ih _ (hk _) h hp
 | ask k ih => exact ih _ (hk _) h hp
 | choose src n k ih => exact ⟨h.1, ih _ (hk _) h.2 hp⟩
 | os q l k ih => exact ih _ (hk _) h hp
 | call c hd g l k ih => exact hk.elim
 | handled own k ih => exact ih _ (hk _) h hp
 | newGen c k ih => exact ih _ (hk _) h hp
 | genState g k ih => obtain ⟨st, e, h⟩ := h; exact ⟨st, e, ih _ (hk _) h hp⟩
 | resume g r l k ih => exact hk.elim
 | yield v g l k ih => exact h
 | stack k ih => exact ih _ (hk _) h hp
 | fork c k ih => exact h
 | thread k ih => exact ih _ (hk _) h hp
 | await a t b l k ih => exact h
theorem Keeps.any {t : Sem α} {Q : α → Shared → Prop} {E : Value → Shared → Prop} {s : Shared} (hk : Keeps P t) (hp : P s.heap) (h : wpAny M A t Q E s) : wpAny M A t (fun a s' => Q a s' ∧ P s'.heap) (fun e s' => E e s' ∧ P s'.heap) s :=
 fun Γ p hΓ => hk.wp (h Γ p hΓ) hp
theorem Keeps.bind {m : Sem α} {f : α → Sem β} (hm : Keeps P m) (hf : ∀ a, Keeps P (f a)) : Keeps P (m >>= f) := by
 show Keeps P (Sem.bind m f)
 induction m with
 | pure a => exact hf a
 | raise e => trivial
 | unsupported w => trivial
 | finish e => trivial
 | rule tag k ih => exact ih () hm
 | «at» q k ih => exact ih () hm
 | load a part k ih => exact fun o => ih o (hm o)
 | update a part g k ih => exact ⟨hm.1, ih () hm.2⟩
 | alloc o k ih => exact ⟨hm.1, fun a => ih a (hm.2 a)⟩
 | loadIfAlive a k ih => exact fun o => ih o (hm o)
 | point l k ih => exact ih () hm
 | register a k ih => trivial
 | fresh k ih => exact fun o => ih o (hm o)
 | ask k ih => exact fun o => ih o (hm o)
 | choose src n k ih => exact fun o => ih o (hm o)
 | os q l k ih => exact fun o => ih o (hm o)
 | call c hd g l k ih => exact hm.elim
 | handled own k ih => exact fun o => ih o (hm o)
 | newGen c k ih => exact fun o => ih o (hm o)
 | genState g k ih => exact fun o => ih o (hm o)
 | resume g r l k ih => exact hm.elim
 | yield v g l k ih => trivial
 | stack k ih => exact fun o => ih o (hm o)
 | fork c k ih => trivial
 | thread k ih => exact fun o => ih o (hm o)
 | await a t b l k ih => trivial
end
section
variable {ea : Addr}
theorem noctx_update {h : Heap} {a : Addr} {f : Obj → Obj} (c : bu h ea) (hf : ∀ o vs, o.data = .fields vs → ∃ ws, (f o).data = .fields ws ∧ ws[2]? = vs[2]?) : bu (h.update a f) ea := by
 obtain ⟨o, vs, e, d, n⟩ := c
 by_cases q : a = ea
 ·subst q
  obtain ⟨ws, d2, n2⟩ := hf o vs d
  exact ⟨f o, ws, Heap.get?_update_self _ e (Obj.isFreed_of_fields d2), d2, n2.trans n⟩
 ·exact ⟨o, vs, (Heap.get?_update_other _ _ q).trans e, d, n⟩
theorem noctx_push {h : Heap} {o : Obj} (c : bu h ea) : bu (h.push o) ea := c.keeps fun _ e => Heap.get?_push_of_some _ e
theorem noctx_field {h : Heap} {a : Addr} {i : Nat} {v : Value} (hi : i ≠ 2) (c : bu h ea) : bu (h.update a (Obj.mapFields (·.setIfInBounds i v))) ea :=
 noctx_update c fun o vs d => ⟨_, Obj.data_mapFields d _, by rw [Array.getElem?_setIfInBounds_ne hi]⟩
theorem keep_load {P : Heap → Prop} {a : Addr} : Keeps P (load a) := fun _ => trivial
theorem keep_stack {P : Heap → Prop} : Keeps P (stack : Sem (List (Code × Pos))) := fun _ => trivial
theorem gD {P : Heap → Prop} {α : Type} {c : Prop} [Decidable c] {x y : Sem α} (h1 : Keeps P x) (h2 : Keeps P y) : Keeps P (if c then x else y) := by
 by_cases h : c
 ·rw [if_pos h]; exact h1
 ·rw [if_neg h]; exact h2
theorem keep_field {v : Value} {i : Nat} : Keeps (bu · ea) (field v i) := by
  unfold field fieldsOf
  repeat' first
    | exact trivial
    | exact keep_load
    | (refine Keeps.bind ?_ fun _ => ?_)
    | split
theorem iW {v x : Value} {i : Nat} (hi : i ≠ 2) : Keeps (bu · ea) (setField v i x) := by
 unfold setField updateField
 cases v with
 | ref a =>
  refine keep_load.bind fun o => ?_
  cases o.data with
  | fields vs => exact gD ⟨fun h c => noctx_field hi c, trivial⟩ trivial
  | _ => trivial
 | _ => trivial
theorem fZ {e : Value} {f : Option Addr} : Keeps (bu · ea) (setFlight e f) := by
 unfold setFlight
 exact keep_field.bind fun tb => gD (iW (by decide)) trivial
theorem keep_entry {a b c d e : Value} {l : List Value} : Keeps (bu · ea) (EntryCells.newEntry a b c d e l) := by
  unfold EntryCells.newEntry newFields newObj
  dsimp only
  repeat' first
    | exact trivial
    | exact ⟨fun h c => noctx_push c, fun _ => trivial⟩
    | (refine Keeps.bind ?_ fun _ => ?_)
    | (refine gD ?_ ?_)
    | split
theorem keep_place {f : Addr} {b : Bool} : Keeps (bu · ea) (entryPlaceOf f b) := by
 unfold entryPlaceOf
 refine keep_stack.bind fun l => ?_
 split <;> trivial
theorem keep_ready : ∀ (l : List Env), Keeps (bu · ea) (readyFrames l)
  | [] => trivial
  | env :: outer => by
    unfold readyFrames
    cases env.frame with
    | none => trivial
    | some f =>
      refine keep_load.bind fun o => gD trivial ?_
      refine Keeps.bind ?_ fun im => Keeps.bind ?_ fun bk => Keeps.bind ⟨fun h c => noctx_update c fun o vs d => ⟨vs, d, rfl⟩, trivial⟩ fun _ => keep_ready outer
      · unfold behindIsImport
        repeat' first
          | exact trivial
          | exact keep_field
          | (refine Keeps.bind ?_ fun _ => ?_)
          | (refine gD ?_ ?_)
      · unfold keptBack underTheClaimsCaller
        repeat' first
          | exact trivial
          | exact keep_stack
          | (refine Keeps.bind ?_ fun _ => ?_)
          | (refine gD ?_ ?_)
          | split
theorem keep_frameOf {env : Env} : Keeps (bu · ea) (PySem.frameOf env) := by
  unfold PySem.frameOf frameEnvs frameObject
  repeat' first
    | exact trivial
    | exact keep_stack
    | exact keep_ready _
    | (refine Keeps.bind ?_ fun _ => ?_)
    | split
theorem keep_note {e : Value} {env : Env} : Keeps (bu · ea) (noteFrame e env) := by
 unfold noteFrame
 cases env.frame with
 | none => trivial
 | some f =>
  refine keep_field.bind fun hd => ?_
  have fin : Keeps (bu · ea) (do setField e 1 (← EntryCells.newEntry hd (← PySem.frameOf env) .none (rawInt f) .none (← entryPlaceOf f (hd != .none)))) :=
   keep_frameOf.bind fun fr => keep_place.bind fun pl => keep_entry.bind fun en => iW (by decide)
  exact gD (keep_field.bind fun x => gD trivial ((iW (by decide)).bind fun _ => fin)) fin
theorem keep_leaving {e : Value} {env : Env} : Keeps (bu · ea) (leaving env e) := keep_note.bind fun _ => fZ
end
section
variable {M : Model} {A : Around} {E : Value → Shared → Prop} {s : Shared} {base : Heap} {env : Env} {outer l : List Env} {L e : Addr} {cls a0 : Value} {Q : Unit → Shared → Prop}
theorem leaves_onC (hfr : A.frames = some (env :: outer)) (hf : env.frame = some L) (hfl : Heap.FlyingW base (env :: outer) e cls a0 s.heap) (nc : bu s.heap e)
  (hQ : ∀ h', Heap.FlyingW base outer e cls a0 h' → bu h' e → s.heap.UpToSlots h' → Q () { s with heap := h' }) : wpAny M A (leaving env (.ref e)) Q E s :=
 wpAny_mono (keep_leaving.any nc (wpAny_leaves_onW (Q := fun _ s' => ∃ h', s' = { s with heap := h' } ∧ Heap.FlyingW base outer e cls a0 h' ∧ s.heap.UpToSlots h') (E := fun _ _ => False) hfr hf hfl fun h' a b => ⟨h', rfl, a, b⟩))
  (fun _ s' ⟨⟨h', e', a, b⟩, n⟩ => by subst e'; exact hQ h' a n b) fun _ _ z => z.1.elim
theorem leaves_madeC {h : Heap} {args : List Value} (hfr : A.frames = some (env :: outer)) (hf : env.frame = some L) (hkb : base.StaysIn h) (hl : h.FunFrames base (env :: outer)) (hx : Heap.MadeExcOf h s.heap e cls args)
  (hQ : ∀ h' t, Heap.FlyingW base outer e cls (.ref t) h' → bu h' e → h'.TupAt t args → base.get? t = none → s.heap.UpToSlots h' → Q () { s with heap := h' }) : wpAny M A (leaving env (.ref e)) Q E s := by
 have nc : bu s.heap e := by
  obtain ⟨t, he, _⟩ := hx.there
  exact ⟨_, _, he, rfl, rfl⟩
 exact wpAny_mono (keep_leaving.any nc (wpAny_leaves_madeW (Q := fun _ s' => ∃ h' t, s' = { s with heap := h' } ∧ Heap.FlyingW base outer e cls (.ref t) h' ∧ h'.TupAt t args ∧ base.get? t = none ∧ s.heap.UpToSlots h') (E := fun _ _ => False) hfr hf hkb hl hx fun h' t a b c d => ⟨h', t, rfl, a, b, c, d⟩))
  (fun _ s' ⟨⟨h', t, e', a, b, c, d⟩, n⟩ => by subst e'; exact hQ h' t a n b c d) fun _ _ z => z.1.elim
theorem looks_onC (hfr : A.frames = some (env :: outer)) (hf : env.frame = some L) (hfl : Heap.FlyingW base (env :: outer) e cls a0 s.heap) (nc : bu s.heap e)
  (hQ : ∀ h', Heap.HeldW base (env :: outer) e cls a0 L h' → bu h' e → s.heap.UpToSlots h' → Q () { s with heap := h' }) : wpAny M A (noteFrame (.ref e) env) Q E s :=
 wpAny_mono (keep_note.any nc (wpAny_looks_onW (Q := fun _ s' => ∃ h', s' = { s with heap := h' } ∧ Heap.HeldW base (env :: outer) e cls a0 L h' ∧ s.heap.UpToSlots h') (E := fun _ _ => False) hfr hf hfl fun h' a b => ⟨h', rfl, a, b⟩))
  (fun _ s' ⟨⟨h', e', a, b⟩, n⟩ => by subst e'; exact hQ h' a n b) fun _ _ z => z.1.elim
theorem landsC (hh : Heap.HeldW base l e cls a0 L s.heap) (nc : bu s.heap e)
  (hQ : ∀ h', Heap.FlyingW base l e cls a0 h' → bu h' e → s.heap.UpToSlots h' → Q () { s with heap := h' }) : wpAny M A (setFlight (.ref e) none) Q E s :=
 wpAny_mono (fZ.any nc (wpAny_landsW (Q := fun _ s' => ∃ h', s' = { s with heap := h' } ∧ Heap.FlyingW base l e cls a0 h' ∧ s.heap.UpToSlots h') (E := fun _ _ => False) hh fun h' a b => ⟨h', rfl, a, b⟩))
  (fun _ s' ⟨⟨h', e', a, b⟩, n⟩ => by subst e'; exact hQ h' a n b) fun _ _ z => z.1.elim
theorem lands_againC (hh : Heap.FlyingW base l e cls a0 s.heap) (nc : bu s.heap e)
  (hQ : ∀ h', Heap.FlyingW base l e cls a0 h' → bu h' e → s.heap.UpToSlots h' → Q () { s with heap := h' }) : wpAny M A (setFlight (.ref e) none) Q E s :=
 wpAny_mono (fZ.any nc (lands_againW (Q := fun _ s' => ∃ h', s' = { s with heap := h' } ∧ Heap.FlyingW base l e cls a0 h' ∧ s.heap.UpToSlots h') (E := fun _ _ => False) hh fun h' a b => ⟨h', rfl, a, b⟩))
  (fun _ s' ⟨⟨h', e', a, b⟩, n⟩ => by subst e'; exact hQ h' a n b) fun _ _ z => z.1.elim
end
structure Flew (P : Program) (w : World) (outer : List Env) (H H' : Hp) (h B h' : Heap) (ea : Addr) : Prop where
 hok : HOk P w H' B
 keep : ∀ b o, h.get? b = some o → H b = none → b ∉ frs outer → B.get? b = some o
 slot : ∀ b o, h.get? b = some o → b ∈ frs outer → ∃ sl, h'.get? b = some { o with slots := sl }
 free : ∀ b o, h.get? b = some o → H b = none → H' b = none
 there : ∀ b o, h.get? b = some o → b ∉ frs outer → ∃ o', B.get? b = some o'
 tups : ∀ b xs, H b = some (.tup xs) → H' b = some (.tup xs)
 frzs : ∀ b o u, H b = some (.frz o u) → H' b = some (.frz o u)
 tbls : ∀ b ps, H b = some (.tbl ps) → ∃ more, H' b = some (.tbl (ps ++ more))
 exc : H' ea = none
noncomputable def CX1 (P : Program) (w : World) : CXT := fun outer H s E e s' =>
 ∃ (ea : Addr) (cls a0 : Value) (H' : Hp) (B : Heap), e = .ref ea ∧ Heap.FlyingW B outer ea cls a0 s'.heap ∧ bu s'.heap ea ∧ s'.os = s.os ∧ AllBare s'.gens ∧ Flew P w outer H H' s.heap B s'.heap ea ∧ E cls none H'
section
variable {P : Program} {w : World} {outer : List Env} {H H' : Hp} {h B h' h'' : Heap} {ea : Addr}
theorem Flew.up {cls a0 : Value} (f : Flew P w outer H H' h B h' ea) (fl : Heap.FlyingW B outer ea cls a0 h') (up : h'.UpToSlots h'') : Flew P w outer H H' h B h'' ea :=
 ⟨f.hok, f.keep, fun b o e hb => by
  obtain ⟨sl, e1⟩ := f.slot b o e hb
  obtain ⟨_, o1, e2, nf⟩ := fl.2.2.1.mem hb
  rw [e1] at e2
  cases e2
  obtain ⟨sl', e3⟩ := up b _ e1 nf
  exact ⟨sl', e3⟩, f.free, f.there, f.tups, f.frzs, f.tbls, f.exc⟩
theorem Flew.un (f : Flew P w outer H H' h B h' ea) (st : B.StaysIn h') : Un (frs outer) [] H H' h h' where
 keep := fun b o e n hb _ => st b o (f.keep b o e n hb)
 slot := fun b o e _ hb _ => f.slot b o e hb
 free := fun b o e n _ => f.free b o e n
 there := fun b o e _ => by
  by_cases hb : b ∈ frs outer
  ·obtain ⟨sl, e1⟩ := f.slot b o e hb
   exact ⟨_, e1⟩
  ·obtain ⟨o', e1⟩ := f.there b o e hb
   exact ⟨o', st b o' e1⟩
 tups := f.tups
 frzs := f.frzs
 tbls := f.tbls
theorem Flew.ok (f : Flew P w outer H H' h B h' ea) (st : B.StaysIn h') : HOk P w H' h' := f.hok.kept st
end
section
variable {P : Program} {w : World} {K : PySem.W.Frag} {mg : Str → Option Value} {base : Heap} {N : List Str} {qual : Str} {scope : Scope} {f : Addr} {cd : Value} {A : Around} {outer : List Env} {s₀ : Shared} {H₀ : Hp} {E : XK}
theorem passes1 : Passes (CX1 P w) (gY (CX1 P w) P w K mg base N qual scope f cd A outer s₀ H₀ E) E := by
 intro pins σ H s e s' I hc
 obtain ⟨ea, cls, a0, H', B, rfl, fl, nc, os, bare, fw, q⟩ := hc
 have fr : frs (envOfC qual scope s₀.heap.objs.size f cd :: outer) = s₀.heap.objs.size :: frs outer := rfl
 have neL : ∀ b o, s₀.heap.get? b = some o → b ∉ frs outer → b ∉ frs (envOfC qual scope s₀.heap.objs.size f cd :: outer) := fun b o e hb z => by
  rw [fr] at z
  rcases List.mem_cons.mp z with z | z
  ·have := Heap.lt_size e
   rw [z] at this
   exact absurd this (Nat.lt_irrefl _)
  ·exact hb z
 show wpAny (model P w) (A.deeper (envOfC qual scope s₀.heap.objs.size f cd)) (leaving (envOfC qual scope s₀.heap.objs.size f cd) (.ref ea)) (fun _ s'' => CX1 P w outer H₀ s₀ E (.ref ea) s'') (fun e' s'' => CX1 P w outer H₀ s₀ E e' s'') s'
 refine leaves_onC I.ok.frames rfl fl nc fun h'' fl'' nc'' up => ?_
 have fu := fw.up fl up
 have ub : Un (frs outer) [] H₀ H s₀.heap s.heap := I.base
 refine ⟨ea, cls, a0, H', B, rfl, fl'', nc'', os.trans I.os, bare, ⟨fw.hok, fun b o e n hb => ?_, fun b o e hb => ?_, fun b o e n => ?_, fun b o e hb => ?_, fun b xs e => fw.tups b xs (ub.tups b xs e), fun b o u e => fw.frzs b o u (ub.frzs b o u e), fun b ps e => ?_, fw.exc⟩, q⟩
 ·exact fw.keep b o (ub.keep b o e n hb (by simp)) (ub.free b o e n (by simp)) (neL b o e hb)
 ·obtain ⟨sl, e1⟩ := ub.slot b o e (I.ok.frf b hb) hb (by simp)
  obtain ⟨sl', e2⟩ := fu.slot b _ e1 (show b ∈ frs (envOfC qual scope s₀.heap.objs.size f cd :: outer) by rw [fr]; exact List.mem_cons_of_mem _ hb)
  exact ⟨sl', e2⟩
 ·obtain ⟨o', e1⟩ := ub.there b o e (by simp)
  exact fw.free b o' e1 (ub.free b o e n (by simp))
 ·obtain ⟨o', e1⟩ := ub.there b o e (by simp)
  exact fw.there b o' e1 (neL b o e hb)
 ·obtain ⟨m1, e1⟩ := ub.tbls b ps e
  obtain ⟨m2, e2⟩ := fw.tbls b _ e1
  exact ⟨m1 ++ m2, by rw [e2, Array.append_assoc]⟩
noncomputable def Raises (X : Cx) (E : XK) (cls : Value) : Prop := ∀ (pins : List (Addr × Obj)) (σ : St) (H : Hp) (s : Shared) (ea : Addr) (h' : Heap) (vs : List Value), Inv X pins σ H s → Heap.MadeExcOf s.heap h' ea cls vs → E cls none H → X.xe (.ref ea) { s with heap := h' }
theorem iG {cls : Value} : Raises (gY (CX1 P w) P w K mg base N qual scope f cd A outer s₀ H₀ E) E cls := by
 intro pins σ H s ea h' vs I hx q
 have fr : frs (envOfC qual scope s₀.heap.objs.size f cd :: outer) = s₀.heap.objs.size :: frs outer := rfl
 have neL : ∀ b o, s₀.heap.get? b = some o → b ∉ frs outer → b ∉ frs (envOfC qual scope s₀.heap.objs.size f cd :: outer) := fun b o e hb z => by
  rw [fr] at z
  rcases List.mem_cons.mp z with z | z
  ·have := Heap.lt_size e
   rw [z] at this
   exact absurd this (Nat.lt_irrefl _)
  ·exact hb z
 have stk : s.heap.FunFrames base (envOfC qual scope s₀.heap.objs.size f cd :: outer) := I.stack
 have hin : ∀ env ∈ (envOfC qual scope s₀.heap.objs.size f cd :: outer), ∀ b, env.frame = some b → b ∈ frs (envOfC qual scope s₀.heap.objs.size f cd :: outer) := fun env he b hb => List.mem_filterMap.mpr ⟨env, he, hb⟩
 have sf : ∀ b u, H b = some u → b ∉ frs (envOfC qual scope s₀.heap.objs.size f cd :: outer) := fun b u e z => by
  have n := I.stkFree b z
  rw [e] at n; cases n
 show wpAny (model P w) (A.deeper (envOfC qual scope s₀.heap.objs.size f cd)) (leaving (envOfC qual scope s₀.heap.objs.size f cd) (.ref ea)) (fun _ s'' => CX1 P w outer H₀ s₀ E (.ref ea) s'') (fun e' s'' => CX1 P w outer H₀ s₀ E e' s'') { s with heap := h' }
 refine leaves_madeC (base := PySem.W.hideAll s.heap (frs (envOfC qual scope s₀.heap.objs.size f cd :: outer))) (h := s.heap) I.ok.frames rfl (fun b o e => PySem.W.of_hideAll _ e) (PySem.W.funFrames_hide stk hin) hx fun h'' t fl nc tup hbt up => ?_
 have ub : Un (frs outer) [] H₀ H s₀.heap s.heap := I.base
 have toB : ∀ b o, s.heap.get? b = some o → b ∉ frs (envOfC qual scope s₀.heap.objs.size f cd :: outer) → (PySem.W.hideAll s.heap (frs (envOfC qual scope s₀.heap.objs.size f cd :: outer))).get? b = some o := fun b o e hb => PySem.W.hideAll_get _ e hb
 refine ⟨ea, cls, .ref t, H, _, rfl, fl, nc, I.os, I.bare, ⟨fun a o e => ?_, fun b o e n hb => ?_, fun b o e hb => ?_, fun b o e n => ?_, fun b o e hb => ?_, ub.tups, ub.frzs, ub.tbls, ?_⟩, q⟩
 ·refine (I.hok a o e).stay (fun b u hb g => toB b u g ?_) (fun _ g => g) fun _ _ g => g
  rcases hb with hb | hb
  ·rw [hb]; exact sf a o e
  ·exact sf b _ hb
 ·exact toB b o (ub.keep b o e n hb (by simp)) (neL b o e hb)
 ·obtain ⟨sl, e1⟩ := ub.slot b o e (I.ok.frf b hb) hb (by simp)
  obtain ⟨_, o1, e2, nf⟩ := I.funs.mem hb
  rw [e1] at e2
  cases e2
  obtain ⟨sl', e3⟩ := up b _ (hx.keeps b _ e1) nf
  exact ⟨sl', e3⟩
 ·exact ub.free b o e n (by simp)
 ·obtain ⟨o', e1⟩ := ub.there b o e (by simp)
  exact ⟨o', toB b o' e1 (neL b o e hb)⟩
 ·cases g : H ea with
  | none => rfl
  | some u =>
   have z : ∃ o, s.heap.get? ea = some o := by
    have := (I.hok ea u g)
    cases u with
    | lst xs => obtain ⟨_, _, _, _, e⟩ := this; exact ⟨_, e⟩
    | tup xs => obtain ⟨_, _, _, o, e, _⟩ := this; exact ⟨o, e⟩
    | dK kvs => obtain ⟨_, _, _, _, o, _, _, e, _⟩ := this; exact ⟨o, e⟩
    | dT kvs => obtain ⟨_, _, _, _, o, _, _, e, _⟩ := this; exact ⟨o, e⟩
    | set S n => obtain ⟨o, _, _, _, e, _⟩ := this; exact ⟨o, e⟩
    | ins C dx fs => obtain ⟨_, _, _, e, _⟩ := this; exact ⟨_, e⟩
    | own y => exact this
    | xd fs => obtain ⟨_, ⟨o, _, _, e, _⟩, _⟩ := this; exact ⟨o, e⟩
    | rng lo hi => obtain ⟨_, _, _, e⟩ := this; exact ⟨_, e⟩
    | frz ob u => obtain ⟨e, _⟩ := this; exact ⟨_, e⟩
    | tbl ps => exact ⟨_, this⟩
    | met f y => exact ⟨_, this⟩
    | ext φ => obtain ⟨_, e, _⟩ := this; exact e
   obtain ⟨o, e⟩ := z
   rw [hx.new] at e; cases e
end
theorem exc_obj {K : PySem.W.Frag} {h : Heap} {C : Addr} {bmB : List Value} {newId : String} (KX : K.In h) (q : PySem.W.excIn K C bmB newId = true) :
  ∃ bm nsA nm qn bs hd sn sub ab col dd k0 k1 k2 k3 k5 mN, h.get? C = some (excClassObj nm qn C nsA bs bm hd sn sub ab col dd k0 k1 k2 k3 k5 newId) ∧ h.Ns nsA mN ∧ mN "__init__" = none ∧ OwnTail h bmB bm := by
 unfold PySem.W.excIn at q
 split at q
 ·rename_i dd cd sl look
  split at q
  ·rename_i C2 bm k0 k1 k2 k3 n k5 hmro hsl
   simp only [Bool.and_eq_true, beq_iff_eq, Bool.not_eq_true'] at q
   obtain ⟨⟨⟨⟨⟨qC, qn'⟩, qdel⟩, qtail⟩, qok⟩, qinit⟩ := q
   cases qC
   cases qn'
   obtain ⟨nm, bs, mro, nsA, qn, hd, sn, sub, ab, col, del⟩ := cd
   have hmro' : mro = _ :: bm := hmro
   have qdel' : del = false := qdel
   cases hmro'
   cases qdel'
   have esl : sl = #[k0, k1, k2, k3, some (.builtin newId), k5] := by
    cases sl with
    | mk l => exact congrArg Array.mk hsl
   cases esl
   exact ⟨bm, nsA, nm, qn, bs, hd, sn, sub, ab, col, dd, k0, k1, k2, k3, k5, _, KX _ _ look, .of_isNs (PySem.W.isNs_of_in KX qok), PySem.W.nsMap_none_of_in KX qok qinit, PySem.W.tail_of_in KX qtail⟩
  ·exact absurd q Bool.false_ne_true
 ·exact absurd q Bool.false_ne_true
abbrev mroVE : List Value := [.type "ValueError", .type "Exception", .type "BaseException", .type "object"]
section
variable {X : Cx} {E : XK} {C : Addr} {x : Str}
noncomputable def tRaise (E : XK) (cls : Value) (t : TA) : TS := fun _ σ H => t σ H fun vs H1 => vs.length ≤ sizeLine ∧ E cls none H1
theorem gG {e : Expr} {es : List Expr} {t : TA} {np cpos pos : Pos} (hc : X.calm = true) (hR : Raises X E (.ref C)) (hg : Gl X x) (hm : X.mg x = some (.ref C)) (hE : PySem.W.excIn X.K C mroVE "ValueError.__new__" = true)
    (ha : PA X (e :: es) t) (hdb : (x == ("__debug__" : Str)) = false := by decide) (he : starEach (e :: es) X.env = (false, eval e X.env) :: starEach es X.env := by rfl) (hpl : (backTo cpos (starEach es X.env)).any (·.1) = false := by rfl) :
    PS X (.Raise (some (.Call (.Name x np) (e :: es) [] cpos)) none pos) (tRaise E (.ref C) t) := by
  intro pins s σ H D I hq
  obtain ⟨bm, nsA, nm, qn, bs, hd, sn, sub, ab, col, dd, k0, k1, k2, k3, k5, mN, hC, hN, hni, T⟩ := exc_obj (h := X.base) I.ok.mod.kin hE
  refine wpAny_Raise_call_subU (C := C) (nm := nm) (q := qn) (N := nsA) (bs := bs) (bm := bm) (hdct := hd) (sn := sn) (sub := sub) (ab := ab) (col := col) (dd := dd) (k0 := k0) (k1 := k1) (k2 := k2) (k3 := k3) (k5 := k5)
    PySem.F.excBase_ValueError (by decide) PySem.F.excBase_ValueError (mN := mN) (T.hasType (by decide)) (I.ok.hd hc) (by rw [he]; show (false || (backTo cpos (starEach es X.env)).any (·.1)) = false; rw [hpl]; rfl) hni (ld_glob I hg hm ⟨rfl, ?_⟩ hdb)
  have h1 := ha cpos pins s σ H _ I hq
  rw [he] at h1 ⊢
  refine Calls.evalArgs_plain (bZ h1 fun us s2 ⟨vs, H2, I2, r, hz, q⟩ => ⟨rfl, ?_, ?_⟩)
  · show us.length ≤ sizeLine
    rw [← r.length]; exact hz
  · exact ⟨I2.bk _ _ hC, hN.keeps I2.bk, T.keeps I2.bk, fun h' ea hx => hR pins σ H2 s2 ea h' us I2 hx q⟩
end
noncomputable def iY (ea C : Addr) : HO := .ext fun h => ∃ o vs, h.get? ea = some o ∧ o.cls = .ref C ∧ o.data = .fields vs ∧ vs[2]? = some Value.none
noncomputable def Cx.marked (X : Cx) (ea : Addr) : Cx := { X with A := X.A.mark (some (.ref ea)), calm := false, xe := fun _ _ => False }
section
variable {X : Cx} {pins : List (Addr × Obj)} {σ : St} {H : Hp} {s : Shared} {ea : Addr}
theorem Cx.Ok.marked (ok : X.Ok) (ea : Addr) : (X.marked ea).Ok :=
 ⟨ok.mod, ok.kind, ok.glob, ok.blt, ok.above, ok.inj, ok.has, ok.cab, (fun z => absurd (show false = true from z) (by decide)), ok.frames, ok.stk, ok.exf, ok.bs, ok.bsz, ok.noex, ok.exfs, ok.funs, ok.frf⟩
theorem Inv.marked (I : Inv X pins σ H s) (ea : Addr) : Inv (X.marked ea) pins σ H s := ⟨I.ok.marked ea, I.os, I.bare, I.base, I.loc, I.cell, I.free, I.freeC, I.pin, I.hok, I.len⟩
theorem Inv.unmarked (ok : X.Ok) (I : Inv (X.marked ea) pins σ H s) : Inv X pins σ H s := ⟨ok, I.os, I.bare, I.base, I.loc, I.cell, I.free, I.freeC, I.pin, I.hok, I.len⟩
theorem Inv.gone {i : Nat} {n : Str} {h' : Heap} {v : Option Value} {m : Str → Option Value} {t : Nat} (I : Inv X pins σ H s) (hN : X.N.Nodup) (hi : X.N[i]? = some n) (hk : X.env.scope.names.lookup n = some .local)
  (hl : ∀ (j : Nat) (x : Str) (v : V), X.N[j]? = some x → σ[j]? = some (some v) → Vis X.env.scope x → ∃ u, RelV v u ∧ Look X.env s.heap m x u)
  (hn' : h'.Ns X.env.locals (fun x => if x = n then v else m x)) (hs : Heap.SameBut X.env.locals s.heap h') : Inv X pins (σ.set i none) H { s with heap := h', toks := t } := by
 have ltL : ∀ b o, X.s₀.heap.get? b = some o → b ≠ X.env.locals := fun b o e => Nat.ne_of_lt (Nat.lt_of_lt_of_le (Heap.lt_size e) I.ok.above)
 refine ⟨I.ok, I.os, I.bare, ⟨fun b o e q hb hx => ?_, fun b o e q hb hx => ?_, I.base.free, fun b o e hx => ?_, I.base.tups, I.base.frzs, I.base.tbls⟩, ⟨_, hn', fun j y v' e1 e2 e3 => ?_⟩, fun y c e => ?_, I.free, I.freeC, fun p hp => ?_, fun b u e => ?_, by rw [List.length_set]; exact I.len⟩
 ·exact (hs.2 b (ltL b o e)).trans (I.base.keep b o e q hb hx)
 ·obtain ⟨sl, e1⟩ := I.base.slot b o e q hb hx
  exact ⟨sl, (hs.2 b (ltL b o e)).trans e1⟩
 ·obtain ⟨o', e1⟩ := I.base.there b o e hx
  exact ⟨o', (hs.2 b (ltL b o e)).trans e1⟩
 ·by_cases hj : j = i
  ·subst hj
   rw [List.getElem?_set] at e2
   simp at e2
  ·rw [List.getElem?_set_ne (Ne.symm hj)] at e2
   obtain ⟨u, r, q⟩ := hl j y v' e1 e2 e3
   refine ⟨u, r, ?_⟩
   rcases q with ⟨k, e⟩ | ⟨k, c, e, z⟩
   ·refine .inl ⟨k, ?_⟩
    have ne : y ≠ n := fun z => hj (nodup_ix hN e1 (z ▸ hi))
    simp [ne, e]
   ·exact .inr ⟨k, c, e, z.sameBut hs (I.cne y c e)⟩
 ·obtain ⟨w', z⟩ := I.cell y c e
  exact ⟨w', z.sameBut hs (I.cne y c e)⟩
 ·obtain ⟨e, q, ne, nf, d⟩ := I.pin p hp
  exact ⟨(hs.2 p.1 ne).trans e, q, ne, nf, d⟩
 ·refine (I.hok b u e).stay (fun c w' hc q => (hs.2 c ?_).trans q) (fun _ q => q) fun _ _ q => q
  intro z
  rcases hc with hc | hc
  ·rw [← hc, z, I.free] at e; cases e
  ·rw [z, I.free] at hc; cases hc
noncomputable def endsX (i : Nat) (D : Ends) : Ends := { nx := fun σ H => D.nx (σ.set i none) H, rt := D.rt, bk := fun σ H => D.bk (σ.set i none) H, ct := fun σ H => D.ct (σ.set i none) H }
end
noncomputable def EqL (K : PySem.W.Frag) (H : Hp) (rec : V → V → Bool → Prop) (p q : Addr) (b : Bool) : Prop :=
 ∃ xs ys, (aU K H p xs ∧ aU K H q ys ∧ xs.length ≠ ys.length ∧ b = false) ∨
  (((aU K H p xs ∧ aU K H q ys) ∨ (dC K H p xs ∧ dC K H q ys)) ∧ xs.length = ys.length ∧ ∃ e : Nat → Bool, (∀ i x y, xs[i]? = some x → ys[i]? = some y → rec x y (e i)) ∧ b = (List.range xs.length).all e)
noncomputable def EqD (K : PySem.W.Frag) (H : Hp) : Nat → V → V → Bool → Prop
 | 0, x, y, b => (∃ a, x = .ref a ∧ y = .ref a ∧ b = true) ∨ (gM x = true ∧ gM y = true ∧ b = eqV x y)
 | n + 1, x, y, b => EqD K H n x y b ∨ ∃ p q, x = .ref p ∧ y = .ref q ∧ p ≠ q ∧ EqL K H (EqD K H n) p q b
section
variable {X : Cx} {pins : List (Addr × Obj)} {σ : St} {H : Hp} {s : Shared}
theorem eqL_at {A : Around} {rec : V → V → Bool → Prop} {p q : Addr} {b : Bool} (I : Inv X pins σ H s) (hu : A.units < cLine) (hr : ∀ x y b u v, rec x y b → RelV x u → RelV y v → SeqAt.EqAt A.in1 s u v b) (h : EqL X.K H rec p q b) :
  SeqAt.RcAt A s (.ref p) (.ref q) b ∧ SeqAt.RcNeAt A s (.ref p) (.ref q) (!b) := by
 obtain ⟨xs, ys, ⟨h1, h2, hl, rfl⟩ | ⟨hk, hl, e, he, rfl⟩⟩ := h
 ·obtain ⟨its, r, pl, _⟩ := I.list h1
  obtain ⟨its2, r2, pl2, _⟩ := I.list h2
  have e1 := r.length
  have e2 := r2.length
  have hne : (its.toArray.size != its2.toArray.size) = true := by
   rw [bne_iff_ne]; simp only [List.size_toArray]; omega
  exact ⟨SeqAt.RcAt.lists_lengths pl.isList pl2.isList hne hu, SeqAt.RcNeAt.lists_lengths pl.isList pl2.isList hne hu⟩
 ·have items : ∀ (its its2 : List Value), Vals xs its → Vals ys its2 → ∀ j (h1 : j < its.toArray.size) (h2 : j < its2.toArray.size), SeqAt.EqAt A.in1 s its.toArray[j] its2.toArray[j] (e j) := by
   intro its its2 r r2 j h1 h2
   have l1 := r.length
   have l2 := r2.length
   simp only [List.size_toArray] at h1 h2
   have g1 : j < xs.length := by omega
   have g2 : j < ys.length := by omega
   obtain ⟨u, hu1, ru⟩ := r.get (i := j) (x := xs[j]) (by simp [g1])
   obtain ⟨v, hv1, rv⟩ := r2.get (i := j) (x := ys[j]) (by simp [g2])
   have eu : its.toArray[j] = u := by
    have : its[j]? = some its[j] := by simp [h1]
    rw [this] at hu1
    simpa using hu1
   have ev : its2.toArray[j] = v := by
    have : its2[j]? = some its2[j] := by simp [h2]
    rw [this] at hv1
    simpa using hv1
   rw [eu, ev]
   exact hr _ _ _ _ _ (he j _ _ (by simp [g1]) (by simp [g2])) ru rv
  rcases hk with ⟨h1, h2⟩ | ⟨h1, h2⟩
  ·obtain ⟨its, r, pl, _⟩ := I.list h1
   obtain ⟨its2, r2, pl2, _⟩ := I.list h2
   have l1 := r.length
   have l2 := r2.length
   have hsz : its.toArray.size = its2.toArray.size := by simp only [List.size_toArray]; omega
   have a1 := SeqAt.RcAt.lists pl.isList pl2.isList hsz hu (items its its2 r r2)
   have a2 := SeqAt.RcNeAt.lists pl.isList pl2.isList hsz hu (items its its2 r r2)
   have es : its.toArray.size = xs.length := by simp only [List.size_toArray]; omega
   rw [es] at a1 a2
   exact ⟨a1, a2⟩
  ·obtain ⟨its, r, pl, _⟩ := I.tuple h1
   obtain ⟨its2, r2, pl2, _⟩ := I.tuple h2
   have l1 := r.length
   have l2 := r2.length
   have t1 : s.heap.IsTuple p its.toArray := pl
   have t2 : s.heap.IsTuple q its2.toArray := pl2
   have a1 := SeqAt.RcAt.tuples t1 t2 hu (items its its2 r r2)
   have a2 := SeqAt.RcNeAt.tuples t1 t2 hu (items its its2 r r2)
   have es : min its.toArray.size its2.toArray.size = xs.length := by simp only [List.size_toArray]; omega
   have ez : (its.toArray.size == its2.toArray.size) = true := by rw [beq_iff_eq]; simp only [List.size_toArray]; omega
   rw [es, ez, Bool.and_true] at a1 a2
   exact ⟨a1, a2⟩
theorem eqD_at (I : Inv X pins σ H s) : ∀ (n : Nat) (A : Around), A.units + n < cLine → ∀ x y b u v, EqD X.K H n x y b → RelV x u → RelV y v → SeqAt.EqAt A s u v b
 | 0, A, hu, x, y, b, u, v, h, rx, ry => by
  rcases h with ⟨a, rfl, rfl, rfl⟩ | ⟨f1, f2, rfl⟩
  ·cases rx; cases ry; exact SeqAt.EqAt.same _
  ·exact eqAt_V rx ry f1 f2
 | n + 1, A, hu, x, y, b, u, v, h, rx, ry => by
  rcases h with h | ⟨p, q, rfl, rfl, ne, h⟩
  ·exact eqD_at I n A (by omega) x y b u v h rx ry
  ·cases rx; cases ry
   refine SeqAt.EqAt.of_refs ne (eqL_at (A := A) I (by omega) (fun x y b u v h rx ry => eqD_at I n A.in1 ?_ x y b u v h rx ry) h).1
   show A.units + 1 + n < cLine
   omega
noncomputable def rEqD (K : PySem.W.Frag) (neg : Bool) : R2 := fun x y H Q => ∃ n p q b, n ≤ 8 ∧ x = .ref p ∧ y = .ref q ∧ EqL K H (EqD K H n) p q b ∧ Q (.bl (if neg then !b else b)) H
theorem op_eqD (hu : X.A.units + 64 < cLine) : OpR X (compareOp .Eq) (rEqD X.K false) := by
 intro pins s σ H x y v u Q I rx ry h
 obtain ⟨n, p, q, b, hn, rfl, rfl, he, k⟩ := h
 cases rx; cases ry
 refine (eqL_at (A := X.A) I (by omega) (fun x y b u v h rx ry => eqD_at I n X.A.in1 ?_ x y b u v h rx ry) he).1 _ _ _ _ ⟨.bl b, H, I, rfl, k⟩
 show X.A.units + 1 + n < cLine
 omega
theorem op_neD (hu : X.A.units + 64 < cLine) : OpR X (compareOp .NotEq) (rEqD X.K true) := by
 intro pins s σ H x y v u Q I rx ry h
 obtain ⟨n, p, q, b, hn, rfl, rfl, he, k⟩ := h
 cases rx; cases ry
 refine (eqL_at (A := X.A) I (by omega) (fun x y b u v h rx ry => eqD_at I n X.A.in1 ?_ x y b u v h rx ry) he).2 _ _ _ _ ⟨.bl (!b), H, I, rfl, k⟩
 show X.A.units + 1 + n < cLine
 omega
end
section
variable {X : Cx} {tg : Expr}
noncomputable def gH (_ : Addr) : HO := .dK []
theorem Inv.big {pins : List (Addr × Obj)} {σ : St} {H : Hp} {s : Shared} (I : Inv X pins σ H s) : sysModules < s.heap.objs.size := by
 have h : mainGlobals < s.heap.objs.size := (I.mod.glob.keeps I.bk).lt
 exact Nat.lt_trans (by decide) h
noncomputable def tDict0 : TE := fun _ H Q => ∀ p, H p = none → Q (.ref p) (upd H p (gH p))
theorem pe_dict0 {pos : Pos} : PE X (.Dict [] [] pos) tDict0 := fun pins s σ H Q I h =>
 wpAny_Dict_empty ⟨.ref s.heap.objs.size, _, I.laid (a := s.heap.objs.size) (o := gH s.heap.objs.size) (t' := s.toks) (fun _ _ q => Heap.get?_push_of_some _ q) (Nat.le_refl _)
  ⟨Nat.zero_le _, beq_eq_false_iff_ne.mpr (Ne.symm (Nat.ne_of_lt I.big)), [], .nil, Heap.DictOf.new s.heap⟩, rfl, h _ (I.hok.fresh (Nat.le_refl _))⟩
end
noncomputable def iK (CX : CXT) (X : Cx) (R : St → XK) : Prop := ∀ (pins : List (Addr × Obj)) (σ : St) (H : Hp) (s : Shared) (e : Value) (s' : Shared), Inv X pins σ H s → CX X.stack H s (R σ) e s' → X.xe e s'
structure DefX (P : Program) (w : World) (K : PySem.W.Frag) (mg : Str → Option Value) (base : Heap) (k : Nat) (x : Str) (ps : List Str) (ds : List V) (sp : Sp) : Prop where
 ex : ∃ (f : Addr) (fd : FuncData) (dvs : List Value), bB P w K mg base (CX1 P w) k f fd ps sp ∧ mg x = some (.ref f) ∧ PySem.W.keepIn K (.ref f) = true ∧ Binds K fd ps dvs ∧ Vals ds dvs
noncomputable def tCallR (sp : Sp) (dvs : List V) (R : St → XK) (t : TA) : TE := fun σ H Q => t σ H fun vs H1 => sp (vs ++ dvs) H1 Q (R σ)
section
variable {X : Cx}
theorem fK {k : Nat} {x : Str} {ps : List Str} {ds : List V} {sp : Sp} {e : Expr} {es : List Expr} {t : TA} {p pos : Pos} {R : St → XK} (D : DefX X.prog X.w X.K X.mg X.base k x ps ds sp) (hr : fB k X.A) (hx : iK (CX1 X.prog X.w) X R) (hg : Gl X x)
  (ha : PA X (e :: es) t) (hdb : (x == ("__debug__" : Str)) = false := by decide) (he : starEach (e :: es) X.env = (false, eval e X.env) :: starEach es X.env := by rfl) (hpl : (backTo pos (starEach es X.env)).any (·.1) = false := by rfl) :
  PE X (.Call (.Name x p) (e :: es) [] pos) (tCallR sp ds R t) := by
 obtain ⟨f, fd, dvs, F, hm, hk, hb, hd⟩ := D.ex
 intro pins s σ H Q I h
 refine wpAny_Call_Name_kw (ld_glob I hg hm ?_ hdb)
 refine PySem.W.callWith_K (h₀ := X.base) I.ok.mod.kin hk (bZ (ha pos pins s σ H _ I h) fun us s1 ⟨vs, H1, I1, r, q⟩ => ⟨I1.kIn, ?_⟩) he hpl
 have r2 : Vals (vs ++ ds) (us ++ dvs) := r.append hd
 have hl : (us ++ dvs).length = ps.length := by rw [← r2.length]; exact F.len _ _ _ _ q
 refine wpAny_call (codeAny_mono (F.run X.A X.stack s1 H1 ⟨us, []⟩ (us ++ dvs) (vs ++ ds) Q (R σ) hr I1.env0 (hb s1 us I1.kIn hl) r2 q) fun res s' hq => ?_)
 cases res with
 | error er => exact hx pins σ H1 s1 er s' I1 hq
 | ok fl =>
  cases fl with
  | ret u => exact I1.after hq
  | next => exact False.elim hq
  | brk => exact False.elim hq
  | cont => exact False.elim hq
theorem passF {P : Program} {w : World} : iK (CX1 P w) X fun _ => E0 := fun _ _ _ _ _ _ _ h => by
 obtain ⟨_, _, _, _, _, _, _, _, _, _, _, q⟩ := h
 exact False.elim q
theorem PS.nox {st : Stmt} {t : TS} (h : PS X.nox st t) : PS X st t := fun pins s σ H D I hw =>
 wpAny_mono (h pins s σ H D (I.wish _) hw) (fun _ _ q => q.unwish) fun _ _ z => False.elim z
end
section
variable {P : Program} {w : World} {K : PySem.W.Frag} {mg : Str → Option Value} {base : Heap}
theorem iu {N : List Str} {qual : Str} {scope : Scope} {f : Addr} {cd : Value} {A : Around} {outer : List Env} {s₀ : Shared} {H₀ : Hp} {E : XK} :
  iK (CX1 P w) (gY (CX1 P w) P w K mg base N qual scope f cd A outer s₀ H₀ E) fun _ => E := fun pins σ H s e s' I h => passes1 pins σ H s e s' I h
theorem bI.okX {x qual : Str} {st : Stmt} {dV : Value} {f : Addr} {fd : FuncData} {N ps : List Str} {k : Nat} {sp : Sp} (F : bI K x qual st dV f fd) (S : aO N ps (ao st)) (len : ∀ vs H Q E, sp vs H Q E → vs.length = ps.length)
  (hbody : ∀ (cdv : Value) (A : Around) (outer : List Env) (s : Shared) (H : Hp) (vs : List V) (Q : VK) (E : XK), fB k (A.deeper (envOfC qual (ao st) s.heap.objs.size f cdv)) → sp vs H Q E →
   ∃ t, PSs (gY (CX1 P w) P w K mg base N qual (ao st) f cdv A outer s H E) (aF st) t ∧ t { nx := fun _ H' => Q .non H', rt := Q } (start N vs) H) : bB P w K mg base (CX1 P w) (k + 1) f fd ps sp := by
 obtain ⟨oc, od, kV, doc, pm, an, cdv, ct, osl, rfl, lk, hcd⟩ := F.ex
 exact fn_of lk hcd S len fun A outer s H vs Q E hr hsp => hbody cdv A outer s H vs Q E hr hsp
theorem bI.defX {x qual : Str} {st : Stmt} {f : Addr} {fd : FuncData} {ps : List Str} {k : Nat} {sp : Sp} (F : bI K x qual st .none f fd) (G : bB P w K mg base (CX1 P w) k f fd ps sp) (hm : mg x = some (.ref f))
  (h : ∀ (kV doc pm : Value) (an : Option Addr) (cdv ct : Value) (us : List Value), us.length = ps.length → bindArgs (PySem.W.fnOf x qual (aL st) (aF st) (ao st) .none kV doc pm an cdv ct) ⟨us, []⟩ = pure (ps.zip us)) : DefX P w K mg base k x ps [] sp := by
 obtain ⟨oc, od, kV, doc, pm, an, cdv, ct, osl, rfl, lk, hcd⟩ := F.ex
 exact ⟨f, _, [], G, hm, F.kp, .all (h kV doc pm an cdv ct), .nil⟩
end
section
variable {X : Cx} {pins pn : List (Addr × Obj)} {σ : St} {H : Hp} {s : Shared} {XE : Value → Shared → Prop}
noncomputable abbrev Cx.at (X : Cx) (pn : List (Addr × Obj)) (XE : Value → Shared → Prop) : Cx := { X with pn := pn, xe := XE }
theorem Cx.Ok.at (ok : X.Ok) : (X.at pn XE).Ok :=
 ⟨ok.mod, ok.kind, ok.glob, ok.blt, ok.above, ok.inj, ok.has, ok.cab, ok.hd, ok.frames, ok.stk, ok.exf, ok.bs, ok.bsz, ok.noex, ok.exfs, ok.funs, ok.frf⟩
theorem Cx.Ok.unat (ok : (X.at pn XE).Ok) : X.Ok :=
 ⟨ok.mod, ok.kind, ok.glob, ok.blt, ok.above, ok.inj, ok.has, ok.cab, ok.hd, ok.frames, ok.stk, ok.exf, ok.bs, ok.bsz, ok.noex, ok.exfs, ok.funs, ok.frf⟩
theorem Inv.at (I : Inv X pins σ H s) : Inv (X.at (X.pn ++ pins) XE) [] σ H s := ⟨I.ok.at, I.os, I.bare, I.base, I.loc, I.cell, I.free, I.freeC, fun p hp => I.pin p (by simpa using hp), I.hok, I.len⟩
theorem Inv.unat {pins' : List (Addr × Obj)} (I : Inv (X.at (X.pn ++ pins) XE) pins' σ H s) : Inv X pins σ H s := ⟨I.ok.unat, I.os, I.bare, I.base, I.loc, I.cell, I.free, I.freeC, fun p hp => I.pin p (List.mem_append_left _ hp), I.hok, I.len⟩
end
structure XCls (K : PySem.W.Frag) (D : Addr) : Prop where
 ga : PySem.W.findIn K (.ref D) "__getattribute__" = some (some (.builtin "BaseException.__getattribute__"))
 gx : PySem.W.findIn K (.ref D) "__getattr__" = some none
 cl : PySem.W.findIn K (.ref D) "__class__" = some (some (.builtin "object.__class__"))
 mB : PySem.W.mroIn K D (.type "BaseException") = some true
 mo : PySem.W.mroIn K D (.type "object") = some true
 isc : (PySem.W.clsIn K D).isSome = true
noncomputable def ExcAt (x D : Addr) (h : Heap) : Prop := ∃ o vs, h.get? x = some o ∧ o.cls = .ref D ∧ o.data = .fields vs
section
variable {prog : Program} {w : World} {A : Around} {E : Value → Shared → Prop} {s : Shared} {K : PySem.W.Frag} {x D : Addr}
theorem ExcAt.ty {M : Model} {h : Heap} (e : ExcAt x D h) : PySem.W.Looks M h (typeOf (.ref x)) (.ref D) := by
 obtain ⟨o, vs, h1, h2, _⟩ := e
 exact h2 ▸ (PySem.W.Looks.ld h1).andThen .now
theorem exc_class_get {R : Result → Shared → Prop} (KX : K.In s.heap) (e : ExcAt x D s.heap) (c : XCls K D) (h : R (.ok (.ret (.ref D))) s) :
    codeAny (model prog w) A (.call (.builtin "getset_descriptor.__get__") ⟨[.builtin "object.__class__", .ref x, .ref D], []⟩) R s := by
  obtain ⟨hh, g, dr, t, os⟩ := s
  have L0 : PySem.W.Looks (model prog w) hh (typeOf (.ref x)) (.ref D) := e.ty
  have L1 : PySem.W.Looks (model prog w) hh (isSubtype (.ref D) (.type (".".intercalate ("object.__class__".cutAt '.').dropLast))) true := by rw [F.owner_object_class]; exact PySem.W.looks_mroIn KX c.mo
  have LI : PySem.W.Looks (model prog w) hh (isInstance (.ref x) (.type (".".intercalate ("object.__class__".cutAt '.').dropLast))) true := L0.andThen L1
  have hT5 : (⟨hh, g, dr, t, os⟩ : Shared).TypeIs (.builtin "object.__class__") "getset_descriptor" := F.typeOf_object_class
  refine codeAny_call_builtin F.slot_gs_get.plain F.entry_gs_get (F.slot_gs_get.check _ _ _ _ _ _ _ _ hT5 (F.args_gs_get _ _ _) ?_)
  repeat (any_goals (first | assumption | (with_reducible refine LI.at ?_) | (with_reducible refine L0.at ?_) | (with_reducible refine L1.at ?_) | wp_step))
  refine ⟨Code.quiet_builtin _ (by decide +kernel), codeAny_builtin F.entry_object_class ?_⟩
  repeat (any_goals (first | assumption | (with_reducible refine L0.at ?_) | wp_step))
theorem exc_entry {tk : Tok} {Q : Fin → Shared → Prop} (KX : K.In s.heap) (e : ExcAt x D s.heap) (c : XCls K D) (h : Q (.done (.ret (.ref D))) s) :
    wpAny (model prog w) A (Builtin.«object.__getattribute__» ⟨[.ref x, .str "__class__" tk], []⟩) Q E s := by
  obtain ⟨hh, g, dr, t, os⟩ := s
  have L0 : PySem.W.Looks (model prog w) hh (typeOf (.ref x)) (.ref D) := e.ty
  have L4 := PySem.W.looks_findIn (M := model prog w) KX c.cl
  have hT5 : (⟨hh, g, dr, t, os⟩ : Shared).TypeIs (.builtin "object.__class__") "getset_descriptor" := F.typeOf_object_class
  have f5 := F.typeOf_object_class
  have f6 := F.slot_gs_get.lookup
  have f7 := F.slot_gs_set.lookup
  repeat (any_goals (first | assumption | (with_reducible refine L0.at ?_) | (with_reducible refine L4.at ?_) | wp_step))
  refine exc_class_get KX e c ?_
  exact wpAny_pure h
theorem bega_split : splitId "BaseException.__getattribute__" = some ("BaseException", "__getattribute__") := by decide +kernel
theorem bega_kind : builtinKind "BaseException.__getattribute__" = some .slot := by decide +kernel
theorem exc_check {M : Model} {v : Value} {Q : Unit → Shared → Prop} (KX : K.In s.heap) (e : ExcAt x D s.heap) (c : XCls K D) (h : Q () s) :
  wpAny M A (checkBuiltinCall "BaseException.__getattribute__" ⟨[.ref x, v], []⟩) Q E s := by
 have L0 : PySem.W.Looks M s.heap (typeOf (.ref x)) (.ref D) := e.ty
 have LI : PySem.W.Looks M s.heap (isInstance (.ref x) (.type "BaseException")) true := L0.andThen (PySem.W.looks_mroIn KX c.mB)
 have hA := F.args_bexc_ga (.ref x) v
 simp only [checkBuiltinCall, bega_split, bega_kind]
 refine wpAny_bind (LI.at ?_)
 unfold argsOk at hA
 cases hsig : Manifest.signature? "BaseException.__getattribute__" with
 | none =>
  rw [hsig] at hA
  simp only [Bool.not_true, Bool.false_eq_true, if_false]
  exact wpAny_pure h
 | some sig =>
  rw [hsig] at hA
  simp only [Bool.not_true, Bool.false_eq_true, if_false]
  exact wpAny_of_eq hA h
theorem exc_class {Q : Option Value → Shared → Prop} (KX : K.In s.heap) (e : ExcAt x D s.heap) (c : XCls K D) (h : Q (some (.ref D)) { s with toks := s.toks + 1 }) :
    wpAny (model prog w) A (getAttr? (.ref x) "__class__") Q E s := by
  obtain ⟨hh, g, dr, t, os⟩ := s
  have L0 : PySem.W.Looks (model prog w) hh (typeOf (.ref x)) (.ref D) := e.ty
  have L1 := PySem.W.looks_findIn (M := model prog w) KX c.ga
  have L2 := PySem.W.looks_findIn (M := model prog w) KX c.gx
  have hbind := F.excAttr_ValueError.ga.bind (.ref x)
  unfold getAttr? getAttrBy?
  repeat (any_goals (first | assumption | (with_reducible refine L0.at ?_) | (with_reducible refine L1.at ?_) | (with_reducible refine L2.at ?_) | wp_step))
  refine codeAny_call_builtin F.excAttr_ValueError.ga.plain F.entry_bexc_ga (exc_check (s := ⟨hh, g, dr, t + 1, os⟩) KX e c (exc_entry (s := ⟨hh, g, dr, t + 1, os⟩) KX e c ?_))
  repeat (any_goals (first | assumption | wp_step))
theorem kitx_exc (c : XCls K D) : PySem.W.KitX K (.ref x) (.ref D) (ExcAt x D) where
 ty := fun _ _ _ e => e.ty
 it := fun M h KX _ => by
  have hc := c.isc
  unfold PySem.W.clsIn at hc
  split at hc
  ·rename_i c' d' cd' sl' ho
   intro A' Q' E' s' k q
   unfold isType loadHead
   exact wpAny_bind (wpAny_loadPart (k _ _ (KX _ _ ho)) (wpAny_pure q))
  ·cases hc
 ne := fun h tp dd its n sl KX htp => by
  have hc := c.isc
  refine Bool.eq_false_iff.mpr fun q => ?_
  have e : D = tp := Value.ref.inj (beq_iff_eq.mp q)
  subst e
  unfold PySem.W.clsIn at hc
  split at hc
  ·rename_i c' d' cd' sl' ho
   have z := (KX _ _ ho).symm.trans htp
   cases z
  ·cases hc
 ca := fun KX e k => exc_class KX e c k
end
inductive TyX (K : PySem.W.Frag) (H : Hp) : V → Value → Prop where
 | of {x : V} {t : Value} (h : TyOf K H x t) : TyX K H x t
 | exc {a C : Addr} (e : H a = some (iY a C)) (c : XCls K C) : TyX K H (.ref a) (.ref C)
 | dict {a : Addr} (e : H a = some (gH a)) : TyX K H (.ref a) (.type "dict")
noncomputable def IsX (K : PySem.W.Frag) (H : Hp) (x : V) (c : Value) (b : Bool) : Prop := ∃ t, TyX K H x t ∧ PySem.W.kitOne K t c = some b
noncomputable def rIsX (K : PySem.W.Frag) : List V → Hp → VK → Prop := fun xs H Q => match xs with
 | [x, .ty n] => ∃ b, IsX K H x (.type n) b ∧ Q (.bl b) H
 | [x, .ref C] => ∃ b, IsX K H x (.ref C) b ∧ Q (.bl b) H
 | _ => False
section
variable {X : Cx}
theorem isX_ok {A : Around} {E : Value → Shared → Prop} {Q : Value → Shared → Prop} {pins : List (Addr × Obj)} {σ : St} {H : Hp} {s : Shared} {x : V} {u c : Value} {b : Bool} (I : Inv X pins σ H s) (rx : RelV x u) (h : IsX X.K H x c b) (k : ∀ tk, Q (.bool b) { s with toks := tk }) :
  wpAny (model X.prog X.w) A (call (.builtin "isinstance") [u, c]) Q E s := by
 obtain ⟨t, ty, e⟩ := h
 cases ty with
 | of ty => exact isinst_ok I rx ty e k
 | @exc a C ea cc =>
  cases (show u = Value.ref a from rx)
  obtain ⟨⟨ox, vx, p1, p2, p3, _⟩, _, _⟩ := (show dU X.prog X.w H s.heap a (iY a C) from I.hok a _ ea)
  have p : ∃ o vs, s.heap.get? a = some o ∧ o.cls = Value.ref C ∧ o.data = Data.fields vs := ⟨ox, vx, p1, p2, p3⟩
  exact PySem.W.kia_one (kitx_exc cc) I.kIn p e (fun z => nomatch z) k
 | @dict a ea =>
  cases (show u = Value.ref a from rx)
  obtain ⟨_, _, vs, _, p⟩ := (show dU X.prog X.w H s.heap a (.dK []) from I.hok a _ ea)
  obtain ⟨o, es, ep, h1, h2, _⟩ := p
  exact PySem.W.kia_one PySem.W.kitx_dict I.kIn ⟨o, h1, h2.1⟩ e (fun z => nomatch z) k
theorem call_isX : gU X (.builtin "isinstance") (rIsX X.K) := by
 intro pins s σ H xs us Q I rs h
 unfold rIsX at h
 split at h
 ·obtain ⟨u, w', rfl, r1, r2⟩ := vals2 rs
  cases r2
  obtain ⟨b, hb, q⟩ := h
  exact isX_ok I r1 hb fun tk => ⟨.bl b, H, I.tok tk, rfl, q⟩
 ·obtain ⟨u, w', rfl, r1, r2⟩ := vals2 rs
  cases r2
  obtain ⟨b, hb, q⟩ := h
  exact isX_ok I r1 hb fun tk => ⟨.bl b, H, I.tok tk, rfl, q⟩
 ·exact h.elim
theorem pe_isiX {e : Expr} {te : TE} {T : Str} {n : String} {p p2 pos : Pos} (he : PE X e te) (h1 : Gl X "isinstance") (h2 : X.mg "isinstance" = none) (h3 : Gl X T) (h4 : X.mg T = none) (h5 : bootBuiltins T = some (.type n)) (h6 : T ≠ "__name__" := by decide) (h7 : (T == ("__debug__" : Str)) = false := by decide)
  (s1 : starEach [e, .Name T p2] X.env = (false, eval e X.env) :: starEach [.Name T p2] X.env := by rfl) (s2 : starEach [.Name T p2] X.env = (false, eval (.Name T p2) X.env) :: starEach [] X.env := by rfl) (hpl : (backTo pos (starEach [.Name T p2] X.env)).any (·.1) = false := by rfl) :
  PE X (.Call (.Name "isinstance" p) [e, .Name T p2] [] pos) (tCB (rIsX X.K) (tCons te (tCons (tC (.ty n)) tNil))) :=
 aN call_isX h1 h2 PyProof.Rows.boot_isinstance (aa he (aa (pe_bltn h3 h4 h5 rfl h6 h7) aj s2) s1) (by decide) (by decide) s1 hpl
theorem pe_isiC {e : Expr} {te : TE} {T : Str} {C : Addr} {p p2 pos : Pos} (he : PE X e te) (h1 : Gl X "isinstance") (h2 : X.mg "isinstance" = none) (h3 : Gl X T) (h4 : X.mg T = some (.ref C)) (h7 : (T == ("__debug__" : Str)) = false := by decide)
  (s1 : starEach [e, .Name T p2] X.env = (false, eval e X.env) :: starEach [.Name T p2] X.env := by rfl) (s2 : starEach [.Name T p2] X.env = (false, eval (.Name T p2) X.env) :: starEach [] X.env := by rfl) (hpl : (backTo pos (starEach [.Name T p2] X.env)).any (·.1) = false := by rfl) :
  PE X (.Call (.Name "isinstance" p) [e, .Name T p2] [] pos) (tCB (rIsX X.K) (tCons te (tCons (tC (.ref C)) tNil))) :=
 aN call_isX h1 h2 PyProof.Rows.boot_isinstance (aa he (aa (bR h3 h4 rfl h7) aj s2) s1) (by decide) (by decide) s1 hpl
end
theorem aY {H H' : Hp} {D : Addr} {o : HO} (s : aB H H') (h : H D = none) : aB H (upd H' D o) := fun b u e => by rw [aJ (aK e h)]; exact s b u e
theorem az {H : Hp} {D : Addr} {o : HO} (h : H D = none) : aB H (upd H D o) := aY (aB.refl H) h
inductive Kd (K : PySem.W.Frag) (H : Hp) : V → Prop where
 | non : Kd K H .non
 | bl (b : Bool) : Kd K H (.bl b)
 | int (i : Int) : Kd K H (.int i)
 | str (x : Str) : Kd K H (.str x)
 | lst {a : Addr} {xs : List V} (e : H a = some (.lst xs)) : Kd K H (.ref a)
 | tup {a : Addr} {xs : List V} (e : H a = some (.tup xs)) : Kd K H (.ref a)
 | dict {a : Addr} (e : H a = some (gH a)) : Kd K H (.ref a)
theorem Kd.mono {K : PySem.W.Frag} {H H' : Hp} {x : V} (k : Kd K H x) (s : aB H H') : Kd K H' x := by
 cases k with
 | non => exact .non
 | bl b => exact .bl b
 | int i => exact .int i
 | str y => exact .str y
 | lst e => exact .lst (s _ _ e)
 | tup e => exact .tup (s _ _ e)
 | dict e => exact .dict (s _ _ e)
noncomputable def isI : V → Bool
 | .int _ => true
 | .bl _ => true
 | _ => false
noncomputable def isB : V → Bool
 | .bl _ => true
 | _ => false
noncomputable def isL (H : Hp) : V → Bool
 | .ref a => match H a with
  | some (.lst _) => true
  | _ => false
 | _ => false
section
variable {K : PySem.W.Frag}
theorem k_ii : PySem.W.kitOne K (.type "int") (.type "int") = some true := by kernel_rfl
theorem k_ib : PySem.W.kitOne K (.type "int") (.type "bool") = some false := by kernel_rfl
theorem k_il : PySem.W.kitOne K (.type "int") (.type "list") = some false := by kernel_rfl
theorem k_bi : PySem.W.kitOne K (.type "bool") (.type "int") = some true := by kernel_rfl
theorem k_bb : PySem.W.kitOne K (.type "bool") (.type "bool") = some true := by kernel_rfl
theorem k_bL : PySem.W.kitOne K (.type "bool") (.type "list") = some false := by kernel_rfl
theorem k_ni : PySem.W.kitOne K (.type "NoneType") (.type "int") = some false := by kernel_rfl
theorem k_nb : PySem.W.kitOne K (.type "NoneType") (.type "bool") = some false := by kernel_rfl
theorem k_nl : PySem.W.kitOne K (.type "NoneType") (.type "list") = some false := by kernel_rfl
theorem k_si : PySem.W.kitOne K (.type "str") (.type "int") = some false := by kernel_rfl
theorem k_sb : PySem.W.kitOne K (.type "str") (.type "bool") = some false := by kernel_rfl
theorem k_sl : PySem.W.kitOne K (.type "str") (.type "list") = some false := by kernel_rfl
theorem k_li : PySem.W.kitOne K (.type "list") (.type "int") = some false := by kernel_rfl
theorem k_lb : PySem.W.kitOne K (.type "list") (.type "bool") = some false := by kernel_rfl
theorem k_ll : PySem.W.kitOne K (.type "list") (.type "list") = some true := by kernel_rfl
theorem k_ti : PySem.W.kitOne K (.type "tuple") (.type "int") = some false := by kernel_rfl
theorem k_tb : PySem.W.kitOne K (.type "tuple") (.type "bool") = some false := by kernel_rfl
theorem k_tl : PySem.W.kitOne K (.type "tuple") (.type "list") = some false := by kernel_rfl
theorem k_di : PySem.W.kitOne K (.type "dict") (.type "int") = some false := by kernel_rfl
theorem k_db : PySem.W.kitOne K (.type "dict") (.type "bool") = some false := by kernel_rfl
theorem k_dl : PySem.W.kitOne K (.type "dict") (.type "list") = some false := by kernel_rfl
variable {H : Hp} {x : V}
theorem Kd.isInt (k : Kd K H x) : IsX K H x (.type "int") (isI x) := by
 cases k with
 | non => exact ⟨_, .of .non, k_ni⟩
 | bl b => exact ⟨_, .of (.bl b), k_bi⟩
 | int i => exact ⟨_, .of (.int i), k_ii⟩
 | str y => exact ⟨_, .of (.str y), k_si⟩
 | lst e => exact ⟨_, .of (.lst e), k_li⟩
 | tup e => exact ⟨_, .of (.tup e), k_ti⟩
 | dict e => exact ⟨_, .dict e, k_di⟩
theorem Kd.isBool (k : Kd K H x) : IsX K H x (.type "bool") (isB x) := by
 cases k with
 | non => exact ⟨_, .of .non, k_nb⟩
 | bl b => exact ⟨_, .of (.bl b), k_bb⟩
 | int i => exact ⟨_, .of (.int i), k_ib⟩
 | str y => exact ⟨_, .of (.str y), k_sb⟩
 | lst e => exact ⟨_, .of (.lst e), k_lb⟩
 | tup e => exact ⟨_, .of (.tup e), k_tb⟩
 | dict e => exact ⟨_, .dict e, k_db⟩
theorem Kd.isList (k : Kd K H x) : IsX K H x (.type "list") (isL H x) := by
 cases k with
 | non => exact ⟨_, .of .non, k_nl⟩
 | bl b => exact ⟨_, .of (.bl b), k_bL⟩
 | int i => exact ⟨_, .of (.int i), k_il⟩
 | str y => exact ⟨_, .of (.str y), k_sl⟩
 | lst e => refine ⟨_, .of (.lst e), ?_⟩; simp only [isL, e]; exact k_ll
 | tup e => refine ⟨_, .of (.tup e), ?_⟩; simp only [isL, e]; exact k_tl
 | dict e => refine ⟨_, .dict e, ?_⟩; simp only [isL, e, gH]; exact k_dl
theorem gj {a : Addr} {xs : List V} (e : H a = some (.lst xs)) : IsX K H (.ref a) (.type "list") true := ⟨_, .of (.lst e), k_ll⟩
end
noncomputable def Src (J : It) (L : List V) (H : Hp) : Prop := ∀ H', aB H H' → (∀ i x, L[i]? = some x → J.go i H' ∧ ∀ y H2, J.yld i H' y H2 → y = x ∧ H2 = H') ∧ J.stop L.length H'
theorem src_list {K : PySem.W.Frag} {a : Addr} {xs : List V} {H : Hp} (h : aU K H a xs) : Src (Itl K a) xs H := fun H' sm =>
 ⟨fun i x e => ⟨⟨xs, x, sm.seq h, e⟩, fun y H2 ⟨q1, q2⟩ => ⟨by have := q2 xs (sm.seq h); rw [e] at this; exact (Option.some.inj this).symm, q1⟩⟩, ⟨xs, sm.seq h, Nat.le_refl _⟩⟩
theorem src_range {lo : Int} {n : Nat} {H : Hp} : Src (Itr lo n) ((List.range n).map fun (i : Nat) => V.int (lo + i)) H := fun H' sm => by
 refine ⟨fun i x e => ?_, ?_⟩
 ·have hi : i < n := by
   have := (List.getElem?_eq_some_iff.mp e).1
   simpa using this
  refine ⟨hi, fun y H2 ⟨q1, q2⟩ => ⟨?_, q1⟩⟩
  rw [List.getElem?_map, List.getElem?_range hi] at e
  rw [q2]
  exact Option.some.inj e
 ·show n ≤ _
  simp
theorem cU {J : It} {L : List V} {k : Nat} {tt : TT} {te : TE} {D : Addr} {σ0 : St} {H : Hp} {Fn : Hp → Prop} (f : V → V) (p : V → Bool) (S : Src J L H) (hn : L.length ≤ sizeLine) (hD : H D = none)
  (ht : ∀ x ∈ L, ∀ (H' : Hp) (Qb : Bool → Hp → Prop), aB H H' → (∀ H'', aB H' H'' → Qb (p x) H'') → tt (σ0.set k (some x)) H' Qb)
  (he : ∀ x ∈ L, p x = true → ∀ (H' : Hp) (Q : VK), aB H H' → (∀ H'', aB H' H'' → Q (f x) H'') → te (σ0.set k (some x)) H' Q)
  (hd : ∀ H', aB H H' → H' D = some (.lst ((L.filter p).map f)) → Fn H') :
  ∃ W : Nat → Nat → St → Hp → Prop, (∃ m, W 0 m σ0 (upd H D (.lst []))) ∧ ∀ i m σ' H', W i m σ' H' →
   (J.stop i H' ∧ Fn H') ∨ (J.go i H' ∧ ∃ N : St → Hp → Prop, (∀ σ2 H2, N σ2 H2 → ∃ m', m' < m ∧ W (i + 1) m' σ2 H2) ∧ ∀ x H2, J.yld i H' x H2 → dG k x σ' H2 fun σ3 H3 => tt σ3 H3 fun b H4 =>
    if b = true then te σ3 H4 fun v H5 => ∃ xs, H5 D = some (.lst xs) ∧ xs.length < sizeLine ∧ N σ3 (upd H5 D (.lst (xs ++ [v]))) else N σ3 H4) := by
 refine ⟨fun i m σ' H' => m = L.length - i ∧ i ≤ L.length ∧ (∀ y, σ'.set k y = σ0.set k y) ∧ aB H H' ∧ H' D = some (.lst (((L.take i).filter p).map f)), ⟨L.length, rfl, Nat.zero_le _, fun _ => rfl, az hD, by rw [ak]; rfl⟩, ?_⟩
 rintro i m σ' H' ⟨rfl, hi, hσ, sm, hH⟩
 by_cases hlt : i < L.length
 ·have hx : L[i]? = some L[i] := by simp [hlt]
  obtain ⟨go, yl⟩ := (S H' sm).1 i _ hx
  refine .inr ⟨go, fun σ2 H2 => (∀ y, σ2.set k y = σ0.set k y) ∧ aB H H2 ∧ H2 D = some (.lst (((L.take (i + 1)).filter p).map f)), ?_, ?_⟩
  ·rintro σ2 H2 ⟨q1, q2, q3⟩
   exact ⟨L.length - (i + 1), by omega, rfl, hlt, q1, q2, q3⟩
  ·intro x H2 y
   obtain ⟨rfl, rfl⟩ := yl x H2 y
   show tt (σ'.set k (some L[i])) H2 _
   rw [hσ]
   have hm : L[i] ∈ L := List.getElem_mem hlt
   have tk : L.take (i + 1) = L.take i ++ [L[i]] := by rw [List.take_add_one, hx]; rfl
   refine ht _ hm H2 _ sm fun H4 s4 => ?_
   cases hp : p L[i] with
   | true =>
    refine iteT (he _ hm hp H4 _ (sm.trans s4) fun H5 s5 => ⟨_, s5 D _ (s4 D _ hH), ?_, fun y => by rw [List.set_set], aY (sm.trans (s4.trans s5)) hD, ?_⟩)
    ·have h1 : (((L.take i).filter p).map f).length ≤ (L.take i).length := by rw [List.length_map]; exact List.length_filter_le _ _
     rw [List.length_take] at h1
     omega
    ·rw [ak, tk, List.filter_append, List.map_append]
     simp [hp]
   | false =>
    refine iteF ⟨fun y => by rw [List.set_set], sm.trans s4, ?_⟩
    rw [tk, List.filter_append, List.filter_cons_of_neg (by simp [hp])]
    simpa using s4 D _ hH
 ·have e : i = L.length := by omega
  subst e
  exact .inl ⟨(S H' sm).2, hd H' sm (by rw [hH, List.take_length])⟩
structure bx (H : Hp) (a : Addr) (ps : List Addr) (R : List (List V)) : Prop where
 top : H a = some (.lst (ps.map V.ref))
 row : Paired (fun p r => H p = some (.lst r)) ps R
 nd : ps.Nodup
 out : a ∉ ps
noncomputable def Fresh (H : Hp) (ps : List Addr) : Prop := ∀ q ∈ ps, H q = none
theorem Paired.mapI {α β : Type} {F G : α → β → Prop} : ∀ {l₁ : List α} {l₂ : List β}, Paired F l₁ l₂ → (∀ a b, a ∈ l₁ → F a b → G a b) → Paired G l₁ l₂
 | _, _, .nil, _ => .nil
 | _, _, .cons r t, f => .cons (f _ _ List.mem_cons_self r) (Paired.mapI t fun a b h => f a b (List.mem_cons_of_mem _ h))
theorem Paired.app {α β : Type} {F : α → β → Prop} : ∀ {l₁ m₁ : List α} {l₂ m₂ : List β}, Paired F l₁ l₂ → Paired F m₁ m₂ → Paired F (l₁ ++ m₁) (l₂ ++ m₂)
 | _, _, _, _, .nil, q => q
 | _, _, _, _, .cons r t, q => .cons r (Paired.app t q)
theorem Paired.getL {α β : Type} {F : α → β → Prop} : ∀ {l₁ : List α} {l₂ : List β} {i : Nat} {a : α}, Paired F l₁ l₂ → l₁[i]? = some a → ∃ b, l₂[i]? = some b ∧ F a b
 | _, _, _, _, .nil, e => by simp at e
 | _, _, 0, _, .cons r t, e => by simp at e; subst e; exact ⟨_, rfl, r⟩
 | _, _, i + 1, a, .cons r t, e => by
  obtain ⟨b, h1, h2⟩ := Paired.getL (i := i) (a := a) t (by simpa using e)
  exact ⟨b, by simpa using h1, h2⟩
section
variable {H H' : Hp} {a : Addr} {ps : List Addr} {R : List (List V)}
theorem bx.mono (p : bx H a ps R) (s : aB H H') : bx H' a ps R := ⟨s _ _ p.top, Paired.mapI p.row fun _ _ _ e => s _ _ e, p.nd, p.out⟩
theorem bx.len (p : bx H a ps R) : ps.length = R.length := Paired.length p.row
theorem bx.at {i : Nat} {q : Addr} (p : bx H a ps R) (h : ps[i]? = some q) : ∃ r, R[i]? = some r ∧ H q = some (.lst r) := Paired.getL p.row h
theorem bx.mem (p : bx H a ps R) {q : Addr} (hq : q ∈ ps) : ∃ r, r ∈ R ∧ H q = some (.lst r) := by
 obtain ⟨i, hi⟩ := List.mem_iff_getElem?.mp hq
 obtain ⟨r, hr, e⟩ := p.at hi
 exact ⟨r, List.mem_of_getElem? hr, e⟩
end
theorem ie {J : It} {L : List V} {k : Nat} {te : TE} {D : Addr} {σ0 : St} {H : Hp} {Fn : Hp → Prop} (g : V → List V) (S : Src J L H) (hn : L.length ≤ sizeLine) (hD : H D = none)
  (he : ∀ x ∈ L, ∀ (H' : Hp) (Q : VK), aB H H' → (∀ q H'', aB H' H'' → H' q = none → H'' q = some (.lst (g x)) → Q (.ref q) H'') → te (σ0.set k (some x)) H' Q)
  (hd : ∀ ps H', aB H H' → Fresh H ps → bx H' D ps (L.map g) → Fn H') :
  ∃ W : Nat → Nat → St → Hp → Prop, (∃ m, W 0 m σ0 (upd H D (.lst []))) ∧ ∀ i m σ' H', W i m σ' H' →
   (J.stop i H' ∧ Fn H') ∨ (J.go i H' ∧ ∃ N : St → Hp → Prop, (∀ σ2 H2, N σ2 H2 → ∃ m', m' < m ∧ W (i + 1) m' σ2 H2) ∧ ∀ x H2, J.yld i H' x H2 → dG k x σ' H2 fun σ3 H3 => tTrue σ3 H3 fun b H4 =>
    if b = true then te σ3 H4 fun v H5 => ∃ xs, H5 D = some (.lst xs) ∧ xs.length < sizeLine ∧ N σ3 (upd H5 D (.lst (xs ++ [v]))) else N σ3 H4) := by
 refine ⟨fun i m σ' H' => m = L.length - i ∧ i ≤ L.length ∧ (∀ y, σ'.set k y = σ0.set k y) ∧ aB H H' ∧ ∃ ps, Fresh H ps ∧ bx H' D ps ((L.take i).map g), ⟨L.length, rfl, Nat.zero_le _, fun _ => rfl, az hD, [], (fun q h => nomatch h), ⟨by rw [ak]; rfl, .nil, List.nodup_nil, by simp⟩⟩, ?_⟩
 rintro i m σ' H' ⟨rfl, hi, hσ, sm, ps, fr, pic⟩
 by_cases hlt : i < L.length
 ·have hx : L[i]? = some L[i] := by simp [hlt]
  obtain ⟨go, yl⟩ := (S H' sm).1 i _ hx
  refine .inr ⟨go, fun σ2 H2 => (∀ y, σ2.set k y = σ0.set k y) ∧ aB H H2 ∧ ∃ ps, Fresh H ps ∧ bx H2 D ps ((L.take (i + 1)).map g), ?_, ?_⟩
  ·rintro σ2 H2 ⟨q1, q2, q3⟩
   exact ⟨L.length - (i + 1), by omega, rfl, hlt, q1, q2, q3⟩
  ·intro x H2 y
   obtain ⟨rfl, rfl⟩ := yl x H2 y
   simp only [dG, tTrue, if_true]
   rw [hσ]
   have hm : L[i] ∈ L := List.getElem_mem hlt
   have tk : L.take (i + 1) = L.take i ++ [L[i]] := by rw [List.take_add_one, hx]; rfl
   have hl : ps.length = i := by have := pic.len; rw [List.length_map, List.length_take] at this; omega
   refine he _ hm H2 _ sm fun q H5 s5 hq hq5 => ⟨_, s5 D _ pic.top, by rw [List.length_map, hl]; omega, fun y => by rw [List.set_set], aY (sm.trans s5) hD, ps ++ [q], ?_, ?_⟩
   ·intro c hc
    rcases List.mem_append.mp hc with hc | hc
    ·exact fr c hc
    ·have e : c = q := by simpa using hc
     subst e
     exact sm.free hq
   ·have nq : q ∉ ps := fun z => by
     obtain ⟨r, _, e⟩ := pic.mem z
     rw [hq] at e; cases e
    have nD : D ≠ q := aK pic.top hq
    refine ⟨by rw [ak, List.map_append]; rfl, ?_, ?_, ?_⟩
    ·rw [tk, List.map_append]
     refine Paired.app (Paired.mapI pic.row fun c r hc e => ?_) (.cons ?_ .nil)
     ·have ne : c ≠ D := fun z => pic.out (by rw [← z]; exact hc)
      rw [aJ ne]
      exact s5 _ _ e
     ·rw [aJ (Ne.symm nD)]
      exact hq5
    ·rw [List.nodup_append]
     exact ⟨pic.nd, by simp, fun c hc d hd z => by
      have e : d = q := by simpa using hd
      subst e; subst z
      exact nq hc⟩
    ·intro z
     rcases List.mem_append.mp z with z | z
     ·exact pic.out z
     ·exact nD (by simpa using z)
 ·have e : i = L.length := by omega
  subst e
  exact .inl ⟨(S H' sm).2, hd ps H' sm fr (by rw [List.take_length] at pic; exact pic)⟩
section
variable {X : Cx} (K : PySem.W.Frag)
theorem ixK (h : X.K = K) : IxR X (rIxL K) := by subst h; exact ix_list
theorem slK (h : X.K = K) : SlR X (rSlL K) := by subst h; exact sl_list
theorem lenK (h : X.K = K) : gU X (.builtin "len") (fun xs H Q => ∃ p ys, xs = [.ref p] ∧ (aU K H p ys ∨ dC K H p ys) ∧ Q (.int ys.length) H) := by subst h; exact call_len_seq
theorem listK (h : X.K = K) : gU X (.type "list") (fun xs H Q => ∃ p ys, xs = [.ref p] ∧ (aU K H p ys ∨ dC K H p ys) ∧ ∀ l, H l = none → Q (.ref l) (upd H l (.lst ys))) := by subst h; exact call_list_of
theorem allK (h : X.K = K) (hc : X.calm = true) : gU X (.builtin "all") (rAll K) := by subst h; exact call_all hc
theorem eqDK (h : X.K = K) (hu : X.A.units + 64 < cLine) : OpR X (compareOp .Eq) (rEqD K false) := by subst h; exact op_eqD hu
theorem neDK (h : X.K = K) (hu : X.A.units + 64 < cLine) : OpR X (compareOp .NotEq) (rEqD K true) := by subst h; exact op_neD hu
theorem piK {tg l : Expr} {tl : TE} (h : X.K = K) (hl : PE X l tl) : PI X tg l (iList K tl) := by subst h; exact pi_list hl
theorem isiK {e : Expr} {te : TE} {T : Str} {n : String} {p p2 pos : Pos} (h : X.K = K) (he : PE X e te) (h1 : Gl X "isinstance") (h2 : X.mg "isinstance" = none) (h3 : Gl X T) (h4 : X.mg T = none) (h5 : bootBuiltins T = some (.type n)) (h6 : T ≠ "__name__" := by decide) (h7 : (T == ("__debug__" : Str)) = false := by decide)
  (s1 : starEach [e, .Name T p2] X.env = (false, eval e X.env) :: starEach [.Name T p2] X.env := by rfl) (s2 : starEach [.Name T p2] X.env = (false, eval (.Name T p2) X.env) :: starEach [] X.env := by rfl) (hpl : (backTo pos (starEach [.Name T p2] X.env)).any (·.1) = false := by rfl) :
  PE X (.Call (.Name "isinstance" p) [e, .Name T p2] [] pos) (tCB (rIsX K) (tCons te (tCons (tC (.ty n)) tNil))) := by
 subst h; exact pe_isiX he h1 h2 h3 h4 h5 h6 h7 s1 s2 hpl
theorem isiCK {e : Expr} {te : TE} {T : Str} {C : Addr} {p p2 pos : Pos} (h : X.K = K) (he : PE X e te) (h1 : Gl X "isinstance") (h2 : X.mg "isinstance" = none) (h3 : Gl X T) (h4 : X.mg T = some (.ref C)) (h7 : (T == ("__debug__" : Str)) = false := by decide)
  (s1 : starEach [e, .Name T p2] X.env = (false, eval e X.env) :: starEach [.Name T p2] X.env := by rfl) (s2 : starEach [.Name T p2] X.env = (false, eval (.Name T p2) X.env) :: starEach [] X.env := by rfl) (hpl : (backTo pos (starEach [.Name T p2] X.env)).any (·.1) = false := by rfl) :
  PE X (.Call (.Name "isinstance" p) [e, .Name T p2] [] pos) (tCB (rIsX K) (tCons te (tCons (tC (.ref C)) tNil))) := by
 subst h; exact pe_isiC he h1 h2 h3 h4 h7 s1 s2 hpl
end
open C5
section
variable {X : Cx} {sc : Scope} {N : List Str} {src : List (Option Nat)}
structure TurnG (Cp : Cx → Prop) (P : Program) (w : World) (K : PySem.W.Frag) (tg : Expr) (J : It) (fp : List Addr) (it : Addr) (tn : Nat → Heap → Prop) : Prop where
 mem : it ∈ fp
 obj : ∀ i h, tn i h → ∀ b ∈ fp, ∃ o, h.get? b = some o ∧ ∀ v, o.data ≠ .cell v
 keep : ∀ i h h', tn i h → (∀ b ∈ fp, ∀ o, h.get? b = some o → h'.get? b = some o) → tn i h'
 item : ∀ (X : Cx), X.prog = P → X.w = w → X.K = K → Cp X → ∀ (i : Nat) (pins : List (Addr × Obj)) (s : Shared) (σ : St) (H : Hp) (E : Value → Shared → Prop), Inv X pins σ H s → (∀ b ∈ fp, FpOk X pins H b) → tn i s.heap → J.go i H →
  wpAny (model P w) X.A (pyNext (.ref it)) (fun r s1 => ∃ u, r = some u ∧ wpAny (model P w) X.A (letOwnedTupleGo tg (.ref it) u) (fun _ s2 => ∃ x H', Inv X pins σ H' s2 ∧ RelV x u ∧ J.yld i H x H' ∧ tn (i + 1) s2.heap ∧ ∀ b ∈ fp, H' b = none) E s1) E s
 done : ∀ (X : Cx), X.prog = P → X.w = w → X.K = K → Cp X → ∀ (i : Nat) (pins : List (Addr × Obj)) (s : Shared) (σ : St) (H : Hp) (E : Value → Shared → Prop), Inv X pins σ H s → (∀ b ∈ fp, FpOk X pins H b) → tn i s.heap → J.stop i H →
  wpAny (model P w) X.A (pyNext (.ref it)) (fun r s1 => r = none ∧ Inv X pins σ H s1) E s
 self : ∀ (A : Around) (i : Nat) (s : Shared) (Q : Value → Shared → Prop) (E : Value → Shared → Prop), tn i s.heap → Q (.ref it) s → wpAny (model P w) A (pyIter (.ref it)) Q E s
noncomputable def PIG (Cp : Cx → Prop) (X : Cx) (tg iter : Expr) (wi : TI) : Prop :=
 ∀ (pins : List (Addr × Obj)) (s : Shared) (σ : St) (H : Hp) (R : It → Hp → Prop), Inv X pins σ H s → wi σ H R →
  wpAny (model X.prog X.w) X.A (eval iter X.env) (fun v s1 => wpAny (model X.prog X.w) X.A (pyIter v) (fun itv s2 => ∃ (it : Addr) (fp : List Addr) (tn : Nat → Heap → Prop) (J : It) (H' : Hp), itv = .ref it ∧ Inv X pins σ H' s2 ∧ TurnG Cp X.prog X.w X.K tg J fp it tn ∧ tn 0 s2.heap ∧ (∀ b ∈ fp, FpOk X pins H' b) ∧ R J H') X.xe s1) X.xe s
theorem PI.g {X : Cx} {tg iter : Expr} {wi : TI} (h : PI X tg iter wi) : PIG (fun X => X.calm = true) X tg iter wi := fun pins s σ H R I hw =>
 bZ (h pins s σ H R I hw) fun _ _ h1 => bZ h1 fun _ _ ⟨it, fp, tn, J, H', e, I2, T, st, f, r⟩ => ⟨it, fp, tn, J, H', e, I2, ⟨T.mem, T.obj, T.keep, T.item, T.done, T.self⟩, st, f, r⟩
theorem ps_setCG (Cp : Cx → Prop) {x : Str} {ix : Nat} {p1 spos : Pos} {elt tgt iter : Expr} {ifs : List Expr} {wi : TI} {g : TG} {tt : TT} {te : TE} {pos : Pos} (hN : X.N.Nodup) (hix : X.N[ix]? = some x) (hxl : X.env.scope.names.lookup x = some .local) (hc : ∀ (s : Shared) (H : Hp) (C : Addr) (fp : List Addr), Cp (gf X sc N fp C s H)) (B : gA X.env.scope sc X.N N src) (hi : PIG Cp X tgt iter wi)
  (hg : ∀ (s : Shared) (H : Hp) (C : Addr) (fp : List Addr), PG (gf X sc N fp C s H) tgt g) (ht : ∀ (s : Shared) (H : Hp) (C : Addr) (fp : List Addr), PTs (gf X sc N fp C s H) ifs tt)
  (he : ∀ (s : Shared) (H : Hp) (C : Addr) (fp : List Addr), PE (gf X sc N fp C s H) elt te) (hs : ∀ x, foldedSetIterable iter X.env x = pure x := by intro _; rfl)
  (hsw : swapsWith (.ListComp elt [⟨tgt, iter, ifs, 0⟩] sc pos) (some (.Name x p1)) spos.line X.env = pure true := by rfl) :
  PS X (.Assign [.Name x p1] (.ListComp elt [⟨tgt, iter, ifs, 0⟩] sc pos) spos) (tAsg (tComp src wi g tt te) (dG ix)) := by
 intro pins s σ H D I h
 rw [exec_Assign_Name_used _ _ _ _ hsw]
 refine wpAny_bind (wpAny_standAt (wpAny_bind ?_))
 show wpAny _ X.A (do let _ ← comprehension (.ListComp elt [⟨tgt, iter, ifs, 0⟩] sc pos) sc X.env _ (newList []) false (eval iter X.env) (some (assign (.Name x p1) X.env))) _ _ s
 have has := B.has rfl I.ok
 refine wpAny_bind (wpAny_mono (wpAny_comprehension_free (use := some (assign (.Name x p1) X.env)) (Q := fun _ s' => SP X pins D .next s') rfl hs (clos_of has) B.kind (fun y hy hk => by have := B.look (x := y.1) (k := y.2) hy; rw [hk] at this; exact this)
  (bZ (hi pins s σ H _ I h) fun v s1 h1 => bZ h1 fun itv s2 h2 => ?_)) (fun _ s' hq => wpAny_pure (wpAny_pure hq)) fun _ _ z => z)
 obtain ⟨it, fp, tn, J, H2, e, I2, T, st2, f2, q⟩ := h2
 subst e
 refine wpAny_newObj_type (newBlock ?_)
 obtain ⟨W, ⟨m0, w0⟩, turn⟩ := q s2.heap.objs.size (I2.hok.fresh (Nat.le_refl _))
 have hlt : ∀ b ∈ fp, b < s2.heap.objs.size := fun b hb => by
  obtain ⟨o, ho, _⟩ := T.obj 0 _ st2 b hb
  exact Heap.lt_size ho
 have szL : (s2.heap.push { cls := .type "list", dict := none, data := .seq ([] : List Value).toArray } : Heap).objs.size = s2.heap.objs.size + 1 := Heap.size_push ..
 generalize hh1 : pushCells ((s2.heap.push { cls := .type "list", dict := none, data := .seq ([] : List Value).toArray } : Heap).push { cls := .type "dict", data := .dict #[] }) sc.names = hB
 have IB := I2.block (C := (s2.heap.push { cls := .type "list", dict := none, data := .seq ([] : List Value).toArray } : Heap).objs.size) (t := s2.toks) B f2 hlt szL hh1.symm
 generalize (s2.heap.push { cls := .type "list", dict := none, data := .seq ([] : List Value).toArray } : Heap).objs.size = C at IB szL ⊢
 have keepB : ∀ b o, s2.heap.get? b = some o → hB.get? b = some o := fun b o e => by
  rw [← hh1]
  exact pushCells_keeps _ _ b o (Heap.get?_push_of_some _ (Heap.get?_push_of_some _ e))
 have stB : tn 0 hB := T.keep 0 _ _ st2 fun b _ o e => keepB b o e
 have frB : ∀ b ∈ fp, upd H2 s2.heap.objs.size (.lst []) b = none := fun b hb => by
  rw [aJ (Nat.ne_of_lt (hlt b hb))]
  exact (f2 b hb).1
 have stat : ∀ {H' : Hp}, (∀ b ∈ fp, H' b = none) → ∀ b ∈ fp, FpOk (gf X sc N fp C s2 H2) [] H' b := fun {H'} hn b hb => by
  obtain ⟨z1, z2⟩ := IB.ok.exf b hb
  exact ⟨hn b hb, z1, IB.ok.exfs b hb, .inl hb, z2, fun p hp => absurd (show p ∈ ([] : List (Addr × Obj)) from hp) (by simp)⟩
 show codeAny (model X.prog X.w) X.A (.compStart (.ListComp elt [⟨tgt, iter, ifs, 0⟩] sc pos) 0 (.ref it) (.ref s2.heap.objs.size) (iQ sc (iy sc X.env) C X.env)) (compPost (model X.prog X.w) X.A X.xe (some (assign (.Name x p1) X.env)) (fun _ s' => SP X pins D .next s') (.ref s2.heap.objs.size) C) { s2 with heap := hB }
 have loop : codeAny (model X.prog X.w) X.A (.compLoop (.ListComp elt [⟨tgt, iter, ifs, 0⟩] sc pos) 0 (.ref it) (.ref s2.heap.objs.size) (iQ sc (iy sc X.env) C X.env))
   (compPost (model X.prog X.w) X.A X.xe (some (assign (.Name x p1) X.env)) (fun _ s' => SP X pins D .next s') (.ref s2.heap.objs.size) C) { s2 with heap := hB } := by
  refine compLoop_go (fun n s' => ∃ i σ' H', Inv (gf X sc N fp C s2 H2) [] σ' H' s' ∧ tn i s'.heap ∧ (∀ b ∈ fp, H' b = none) ∧ W i n σ' H') ?_ m0 ⟨0, _, _, IB, stB, frB, w0⟩
  rintro n s3 ⟨i, σ3, H3, I3, st3, fr3, w3⟩
  rcases turn i n σ3 H3 w3 with ⟨stop, qn⟩ | ⟨go, N', hN, step⟩
  ·refine bZ (T.done (gf X sc N fp C s2 H2) rfl rfl rfl (hc _ _ _ _) i [] s3 σ3 H3 _ I3 (stat fr3) st3 stop) fun r s4 ⟨hr, I4⟩ => ?_
   subst hr
   obtain ⟨m, hn, _⟩ := I4.loc
   have ltC : ∀ b o, s2.heap.get? b = some o → b ≠ C := fun b o e => Nat.ne_of_lt (show @LT.lt Nat instLTNat b C by have : @LT.lt Nat instLTNat b s2.heap.objs.size := Heap.lt_size e; omega)
   have base := I4.base
   have freeC : H3 C = none := I4.free
   have J : Inv X pins σ H3 s4 := by
    refine I2.call' (s' := s4) (ch := fp) I4.os ⟨base.keep, base.slot, base.free, base.there, base.tups, base.frzs, base.tbls⟩ I4.hok I4.bare (fun b hb => ?_)
    obtain ⟨f0, f1, f2', f3, f4, f5⟩ := f2 b hb
    exact ⟨f3, f1, f4, f5⟩
   have neL : C ≠ X.env.locals := fun z => by
    obtain ⟨m', ⟨o, _, _, ho, _⟩, _⟩ := I2.loc
    exact ltC _ o ho z.symm
   have neCell : ∀ y c, X.env.cells.lookup y = some c → c ≠ C := fun y c e => by
    obtain ⟨v', o, ho, _⟩ := I2.cell y c e
    exact ltC c o ho
   show wpAny (model X.prog X.w) X.A (assign (.Name x p1) X.env (.ref s2.heap.objs.size)) _ _ s4
   refine wpAny_assign_Name (store_ok2 J hN hix (.inl hxl) (show RelV (.ref s2.heap.objs.size) (.ref s2.heap.objs.size) from rfl) (fun s5 J5 hsb => ?_) (.inr hxl))
   obtain ⟨a, sb, ha⟩ := hsb
   have neA : C ≠ a := by
    rcases ha with z | z
    ·rw [z]; exact neL
    ·exact fun q => neCell _ _ z q.symm
   refine ⟨m, hn.sameBut sb neA, fun h' hs' => ?_⟩
   refine ⟨_, H3, J5.turned (t' := s5.toks) (it := C) (fun b o hb e => (hs'.2 b hb).trans e) freeC neL (.inr ?_) neCell (fun p hp => ltC p.1 p.2 (I2.pin p hp).1), qn⟩
   exact Nat.le_trans I2.sz (show @LE.le Nat instLENat s2.heap.objs.size C by omega)
  ·refine bZ (T.item (gf X sc N fp C s2 H2) rfl rfl rfl (hc _ _ _ _) i [] s3 σ3 H3 _ I3 (stat fr3) st3 go) fun r s4 ⟨u, hr, h4⟩ => ?_
   subst hr
   refine bZ h4 fun _ s5 ⟨x, H5, I5, r5, y5, st5, fr5⟩ => ?_
   have I5' := I5.pinned (stat fr5) (T.obj _ _ st5)
   have again : ∀ {s7 : Shared} {σ7 : St} {H7 : Hp}, Inv (gf X sc N fp C s2 H2) ([] ++ pinsAt fp s5.heap) σ7 H7 s7 → N' σ7 H7 → ∃ m, m < n ∧ ∃ i σ' H', Inv (gf X sc N fp C s2 H2) [] σ' H' s7 ∧ tn i s7.heap ∧ (∀ b ∈ fp, H' b = none) ∧ W i m σ' H' := fun {s7 σ7 H7} I7 n7 => by
    obtain ⟨m', hm, w7⟩ := hN σ7 H7 n7
    refine ⟨m', hm, i + 1, σ7, H7, I7.unpinned, T.keep _ _ _ st5 fun b hb o e => (I7.pin (b, o) (List.mem_append_right _ (List.mem_append_right _ (dz hb e)))).1, fun b hb => ?_, w7⟩
    obtain ⟨o, e, d⟩ := T.obj _ _ st5 b hb
    exact (I7.pin (b, o) (List.mem_append_right _ (List.mem_append_right _ (dz hb e)))).2.1
   refine bZ (hg s2 H2 C fp _ s5 σ3 H5 x u _ I5' r5 (step x H5 y5)) fun _ s6 ⟨σ6, H6, I6, q6⟩ => ?_
   refine bZ (ht s2 H2 C fp _ s6 σ6 H6 _ I6 q6) fun b s7 ⟨H7, I7, q7⟩ => ?_
   cases b with
   | false =>
    rw [if_neg Bool.false_ne_true] at q7 ⊢
    exact again I7 q7
   | true =>
    rw [if_pos rfl] at q7 ⊢
    refine bZ (he s2 H2 C fp _ s7 σ6 H7 _ I7 q7) fun u8 s8 ⟨v8, H8, I8, r8, xs, hD, hz, n8⟩ => ?_
    exact bZ (cH (X := gf X sc N fp C s2 H2) _ s8 σ6 H8 (.ref s2.heap.objs.size) [v8] (.ref s2.heap.objs.size) [u8] (fun _ H => N' σ6 H) I8 rfl (.cons r8 .nil) ⟨_, xs, v8, rfl, rfl, hD, hz, n8⟩) fun _ s9 ⟨_, H9, I9, _, n9⟩ => again I9 n9
 exact codeAny_compStart_list loop (T.self _ 0 _ _ _ stB loop)
theorem ps_setC {x : Str} {ix : Nat} {p1 spos : Pos} {elt tgt iter : Expr} {ifs : List Expr} {wi : TI} {g : TG} {tt : TT} {te : TE} {pos : Pos} (hN : X.N.Nodup) (hix : X.N[ix]? = some x) (hxl : X.env.scope.names.lookup x = some .local) (hc : X.calm = true) (B : gA X.env.scope sc X.N N src) (hi : PI X tgt iter wi)
  (hg : ∀ (s : Shared) (H : Hp) (C : Addr) (fp : List Addr), PG (gf X sc N fp C s H) tgt g) (ht : ∀ (s : Shared) (H : Hp) (C : Addr) (fp : List Addr), PTs (gf X sc N fp C s H) ifs tt)
  (he : ∀ (s : Shared) (H : Hp) (C : Addr) (fp : List Addr), PE (gf X sc N fp C s H) elt te) (hs : ∀ x, foldedSetIterable iter X.env x = pure x := by intro _; rfl)
  (hsw : swapsWith (.ListComp elt [⟨tgt, iter, ifs, 0⟩] sc pos) (some (.Name x p1)) spos.line X.env = pure true := by rfl) :
  PS X (.Assign [.Name x p1] (.ListComp elt [⟨tgt, iter, ifs, 0⟩] sc pos) spos) (tAsg (tComp src wi g tt te) (dG ix)) :=
 ps_setCG (fun X => X.calm = true) hN hix hxl (fun _ _ _ _ => hc) B hi.g hg ht he hs hsw
end
end L2
namespace L2
open PySem
theorem exm_mk {K : PySem.W.Frag} {C F : Addr} (h1 : PySem.W.subIn K (.ref F) (.type "BaseException") = some true) (h2 : PySem.W.isClsIn K F = true) (h3 : PySem.W.typeIn K (.ref F) = some (.type "type")) (h4 : PySem.W.subIn K (.ref C) (.ref F) = some true) : PySem.W.exmOne K (.ref C) (.ref F) = some true := by
 unfold PySem.W.exmOne PySem.W.kitCls
 have h2' : (PySem.W.clsIn K F).isSome = true := h2
 rw [h1, if_pos (by decide)]
 dsimp only
 rw [h2', h3, if_pos (by simp), h4]
end L2
namespace L2
open PySem PySem.Spec PyProof.Rows
end L2
namespace PySem
namespace F
end F
end PySem
namespace L2
open PySem PySem.Spec PyProof.Rows
noncomputable def Sl (e : Expr) : Prop := ∀ es env, starEach (e :: es) env = (false, eval e env) :: starEach es env
structure ShE (X : Cx) (e : Expr) (t : TE) : Prop where
 pe : PE X e t
structure ShA (X : Cx) (es : List Expr) (t : TA) : Prop where
 pa : PA X es t
section
variable {X : Cx} {a b c e : Expr} {es : List Expr} {ta tb te : TE} {t : TA} {p pos : Pos}
theorem slSub : Sl (.Subscript a b p) := fun _ _ => rfl
theorem slLst {xs : List Expr} : Sl (.List xs p) := fun _ _ => rfl
theorem slBin {o : Operator} : Sl (.BinOp a o b p) := fun _ _ => rfl
theorem slCall {xs : List Expr} {ks : List Keyword} : Sl (.Call a xs ks p) := fun _ _ => rfl
theorem slC {k : Const} {n : Nat} : Sl (.Constant k n p) := fun _ _ => rfl
theorem slN {x : Str} : Sl (.Name x p) := fun _ _ => rfl
theorem qpa_nil : ShA X [] tNil := ⟨aj⟩
theorem du (ha : ShE X e te) (hs : Sl e) (hr : ShA X es t) : ShA X (e :: es) (tCons te t) := ⟨aa ha.pe hr.pa (hs _ _)⟩
theorem qpe_lst (h : ShA X es t) : ShE X (.List es pos) (tLst t) := ⟨aZ h.pa⟩
end
section
variable {prog : Program} {w : World} {A : Around} {E : Value → Shared → Prop} {s : Shared}
theorem entry_unchain : entryFor table "proto.unchain" = some Builtin.«proto.unchain» := entryFor_of_tree (by kernel_rfl)
theorem wp_unchain {e : Value} {ea : Addr} {Q : Value → Shared → Prop} (hc : bu s.heap ea) (h : ∀ v, Q v s) : wpAny (model prog w) A (runValue (.builtin "proto.unchain" ⟨[e, .ref ea, .ref ea, .bool false], []⟩)) Q E s := by
 obtain ⟨o, vs, ho, hd, h2⟩ := hc
 refine wpAny_runValue (codeAny_builtin entry_unchain ?_)
 show wpAny _ _ (field (.ref ea) 2 >>= _) _ _ s
 refine wpAny_bind (wpAny_field ho hd h2 ?_)
 rw [if_pos (show (Value.none == Value.none) = true from rfl)]
 exact wpAny_pure (h _)
theorem wp_raiseMarked {α : Type} {x ea : Addr} {o : Obj} {vs : Array Value} {Q : α → Shared → Prop} (hh : A.handled = some (.ref ea)) (ne : x ≠ ea) (hc : bu s.heap ea) (ho : s.heap.get? x = some o) (hd : o.data = .fields vs) (hz : 2 < vs.size)
  (h : E (.ref x) { s with heap := s.heap.update x (Obj.mapFields (·.setIfInBounds 2 (.ref ea))) }) : wpAny (model prog w) A (raiseNew (.ref x) : Sem α) Q E s := by
 unfold raiseNew
 refine wpAny_bind (wpAny_handled ?_)
 rw [hh]
 dsimp only
 rw [if_pos (show (Value.ref ea != Value.ref x) = true from by simp [bne, Ne.symm ne])]
 exact wpAny_bind (wpAny_holding (wp_unchain hc fun v => wpAny_bind (wpAny_setField (x := .ref ea) ho hd hz (wpAny_throw h))))
end
section
variable {prog : Program} {w : World} {A : Around} {E : Value → Shared → Prop} {s : Shared}
theorem wp_stopM {α : Type} {ea : Addr} {Q : α → Shared → Prop} (hh : A.handled = some (.ref ea)) (hc : bu s.heap ea)
    (h : ∀ x h', (∀ b o, s.heap.get? b = some o → h'.get? b = some o) → (∃ o, h'.get? x = some o ∧ o.cls = .type "StopIteration") → E (.ref x) { s with heap := h' }) :
    wpAny (model prog w) A (do raiseNew (← newExc (.type "StopIteration") []) : Sem α) Q E s := by
  refine wpAny_bind ?_
  simp only [newExc, newTuple]
  refine wpAny_bind (wpAny_newObj_type (wpAny_bind (m := firstArgMember _ _) (wpAny_of_eq (a := Value.none) (by first | rfl | (simp only [firstArgMember]; rfl)) (wpAny_newObj_type ?_ (by size_fits)))) (by size_fits))
  have k1 : ∀ b o, s.heap.get? b = some o → (s.heap.push { cls := Value.type "tuple", data := Data.seq #[] } : Heap).get? b = some o := fun b o e => Heap.get?_push_of_some _ e
  show wpAny _ _ (raiseNew (.ref (s.heap.push { cls := Value.type "tuple", data := Data.seq #[] } : Heap).objs.size)) Q E { s with heap := (s.heap.push { cls := Value.type "tuple", data := Data.seq #[] } : Heap).push _ }
  generalize (s.heap.push { cls := Value.type "tuple", data := Data.seq #[] } : Heap) = h1 at k1 ⊢
  obtain ⟨oe, vs, he, hd, h2⟩ := hc
  have lt : ∀ b o, s.heap.get? b = some o → b ≠ h1.objs.size := fun b o e => Nat.ne_of_lt (Heap.lt_size (k1 b o e))
  refine wp_raiseMarked hh (lt ea oe he).symm ⟨oe, vs, Heap.get?_push_of_some _ (k1 ea oe he), hd, h2⟩ (Heap.get?_push_size _ rfl) rfl (by simp only [Array.size_append]; exact Nat.lt_of_lt_of_le (by decide) (Nat.le_add_right 6 _)) (h _ _ (fun b o e => ?_) ?_)
  · rw [Heap.get?_update_other _ _ (lt b o e).symm]
    exact Heap.get?_push_of_some _ (k1 b o e)
  · exact ⟨_, Heap.get?_update_self _ (Heap.get?_push_size _ rfl) (Obj.isFreed_of_fields (Obj.data_mapFields rfl _)), rfl⟩
end
section
variable {prog : Program} {w : World} {A : Around} {E : Value → Shared → Prop} {s : Shared}
theorem next_list_endM {it l ea : Addr} {i : Nat} {items : Array Value} {Q : Option Value → Shared → Prop} (hh : A.handled = some (.ref ea)) (hc : bu s.heap ea) (ne : ea ≠ it)
  (hit : s.heap.IsListIter it l i) (hl : s.heap.IsList l items) (hx : items[i]? = none)
  (hQ : ∀ h', Heap.ExtBut it s.heap h' → Q none { s with heap := h' }) : wpAny (model prog w) A (pyNext (.ref it)) Q E s := by
 obtain ⟨oi, g1, _, g2⟩ := id hit
 obtain ⟨ol, g3, _, nl, g4⟩ := hl
 unfold pyNext
 refine wpAny_bind (wpAny_attempt (wpAny_callSpecial?_slot hit.typeIs (name := Str.ofString "__next__") slot_listiter_next (wpAny_call_entry slot_listiter_next hit.typeIs entry_listiter_next ?_ (args_listiter_next _))))
 refine wpAny_bind (m := field (.ref it) 0) (wpAny_field g1 g2 rfl (x := .ref l) ?_)
 rw [if_neg (show ¬ ((Value.ref l == Value.none) = true) from Bool.noConfusion)]
 refine wpAny_bind (m := field (.ref it) 1) (wpAny_field g1 g2 rfl (x := .int i 0) ?_)
 refine wpAny_bind (m := seqItems? (.ref l)) (wpAny_seqItems g3 g4 ?_)
 simp only [Int.toNat_natCast, hx]
 refine wpAny_bind (wpAny_rule (wpAny_bind (wpAny_setField g1 g2 (by simp) ?_)))
 have ob := Heap.SameBut.update (a := it) (h := s.heap) (f := Obj.mapFields (·.setIfInBounds 0 Value.none))
 show wpAny _ A.in1 (do raiseNew (← newExc (.type "StopIteration") []) : Sem _) _ _ _
 refine wp_stopM (show A.in1.handled = some (.ref ea) from hh) (hc.keeps fun o e => (ob.2 ea ne).trans e) fun x h' kp ⟨ox, ex, cx⟩ => ?_
 refine wpAny_bind (wpAny_isInstance ⟨ox, ex, cx⟩ isSubtype_stop (T := "StopIteration") (b := true) ?_)
 exact wpAny_pure (hQ h' fun b o hb e => kp b o ((ob.2 b hb).trans e))
end
section
variable {prog : Program} {w : World} {A : Around} {E : Value → Shared → Prop} {s : Shared}
theorem next_tuple_endM {it t ea : Addr} {i : Nat} {items : Array Value} {Q : Option Value → Shared → Prop} (hh : A.handled = some (.ref ea)) (hc : bu s.heap ea) (ne : ea ≠ it)
  (hit : IsTupIter s.heap it t i) (ht : IsTup s.heap t items) (hx : items[i]? = none)
  (hQ : ∀ h', Heap.ExtBut it s.heap h' → Q none { s with heap := h' }) : wpAny (model prog w) A (pyNext (.ref it)) Q E s := by
 obtain ⟨oi, g1, _, g2⟩ := id hit
 obtain ⟨ol, g3, _, nl, g4⟩ := ht
 unfold pyNext
 refine wpAny_bind (wpAny_attempt (wpAny_callSpecial?_slot hit.typeIs (name := Str.ofString "__next__") slot_tupleiter_next (wpAny_call_entry slot_tupleiter_next hit.typeIs entry_tupleiter_next ?_ (args_tupleiter_next _))))
 refine wpAny_bind (m := field (.ref it) 0) (wpAny_field g1 g2 rfl (x := .ref t) ?_)
 rw [if_neg (show ¬ ((Value.ref t == Value.none) = true) from Bool.noConfusion)]
 refine wpAny_bind (m := field (.ref it) 1) (wpAny_field g1 g2 rfl (x := .int i 0) ?_)
 refine wpAny_bind (m := seqItems? (.ref t)) (wpAny_seqItems g3 g4 ?_)
 simp only [Int.toNat_natCast, hx]
 refine wpAny_bind (wpAny_rule (wpAny_bind (wpAny_setField g1 g2 (by simp) ?_)))
 have ob := Heap.SameBut.update (a := it) (h := s.heap) (f := Obj.mapFields (·.setIfInBounds 0 Value.none))
 show wpAny _ A.in1 (do raiseNew (← newExc (.type "StopIteration") []) : Sem _) _ _ _
 refine wp_stopM (show A.in1.handled = some (.ref ea) from hh) (hc.keeps fun o e => (ob.2 ea ne).trans e) fun x h' kp ⟨ox, ex, cx⟩ => ?_
 refine wpAny_bind (wpAny_isInstance ⟨ox, ex, cx⟩ isSubtype_stop (T := "StopIteration") (b := true) ?_)
 exact wpAny_pure (hQ h' fun b o hb e => kp b o ((ob.2 b hb).trans e))
theorem assign_TupleM {env : Env} {elts : List Expr} {k : Nat} {pos : Pos} {t ea : Addr} {items : Array Value} {Q : Unit → Shared → Prop} (hh : A.handled = some (.ref ea)) (hc : bu s.heap ea) (ht : IsTup s.heap t items)
  (hn : (assignEach elts env).length = items.size) (hstar : (assignEach elts env).findIdx? (·.1) = none)
  (h : ∀ h', Heap.ExtBut s.heap.objs.size s.heap h' → wpAny (model prog w) A (assignInOrder ((assignEach elts env).map (·.2)) items.toList) Q E { s with heap := h' }) :
  wpAny (model prog w) A (assign (.Tuple elts k pos) env (.ref t)) Q E s := by
 have lt : t ≠ s.heap.objs.size := by obtain ⟨o, ho, _⟩ := ht; exact Nat.ne_of_lt (Heap.lt_size ho)
 have lte : ea ≠ s.heap.objs.size := by obtain ⟨o, _, ho, _⟩ := hc; exact Nat.ne_of_lt (Heap.lt_size ho)
 rw [assign_Tuple]
 refine wpAny_bind (wpAny_standAt ?_)
 unfold unpack
 rw [hn, hstar]
 refine wpAny_bind (wpAny_holding ?_)
 unfold unpackItems notIterableAtAll
 refine wpAny_bind (wpAny_bind (wpAny_specialOf ht.typeIs slot_tuple_iter.lookup (wpAny_pure ?_)))
 simp only [Bool.false_eq_true, if_false]
 refine wpAny_bind (wpAny_holding (iter_tuple ht (wpAny_bind (wpAny_holding (draw_tuple lt items.size 0 _ _ ⟨_, Heap.get?_push_size _ rfl, rfl, rfl⟩ (ht.push _) (by omega) fun h1 it1 sb => ?_)))))
 rw [List.drop_zero, List.take_of_length_le (by simp), if_neg (by simp)]
 have c1 : bu h1 ea := hc.keeps fun o e => (sb.2 ea lte).trans (Heap.get?_push_of_some _ e)
 refine wpAny_bind (wpAny_holding (next_tuple_endM hh c1 lte it1 ((ht.push _).extBut sb.extBut lt) (by simp) fun h2 e2 => ?_))
 simp only [Option.isSome_none, Bool.false_eq_true, if_false]
 exact wpAny_pure (h h2 fun b o hb e => e2 b o hb (sb.extBut b o hb (Heap.get?_push_of_some _ e)))
end
end L2
namespace L2
open PySem PySem.Spec PyProof.Rows C5
structure FlewX (X : Cx) (H' : Hp) (B h' : Heap) (ea : Addr) : Prop where
 hok : HOk X.prog X.w H' B
 keep : ∀ b o, X.s₀.heap.get? b = some o → X.H₀ b = none → b ∉ frs X.stack → b ∉ X.ex → B.get? b = some o
 slot : ∀ b o, X.s₀.heap.get? b = some o → b ∈ frs X.stack → ∃ sl, h'.get? b = some { o with slots := sl }
 free : ∀ b o, X.s₀.heap.get? b = some o → X.H₀ b = none → b ∉ X.ex → H' b = none
 there : ∀ b o, X.s₀.heap.get? b = some o → b ∉ frs X.stack → b ∉ X.ex → ∃ o', B.get? b = some o'
 tups : ∀ b xs, X.H₀ b = some (.tup xs) → H' b = some (.tup xs)
 frzs : ∀ b o u, X.H₀ b = some (.frz o u) → H' b = some (.frz o u)
 tbls : ∀ b ps, X.H₀ b = some (.tbl ps) → ∃ more, H' b = some (.tbl (ps ++ more))
 exc : H' ea = none
 loc : X.env.locals ∉ frs X.stack → H' X.env.locals = none ∧ ∃ m, B.Ns X.env.locals m
noncomputable def Esc (X : Cx) (Ec : XK) (e : Value) (s' : Shared) : Prop :=
 ∃ (ea : Addr) (cls a0 fl : Value) (H' : Hp) (B : Heap), e = .ref ea ∧ B.StaysIn s'.heap ∧ B.get? ea = none ∧ s'.heap.FunFrames B X.stack ∧ s'.heap.TracedAtW B ea cls a0 fl ∧ bu s'.heap ea ∧ s'.os = X.s₀.os ∧ AllBare s'.gens ∧ FlewX X H' B s'.heap ea ∧ Ec cls none H'
noncomputable def dF (X : Cx) (Ec : XK) : Prop := X.Ok → ∀ e s', Esc X Ec e s' → X.xe e s'
section
variable {X : Cx} {Ec : XK}
theorem stk_out (ok : X.Ok) : ∀ b ∈ X.fs, b ∈ frs X.stack := fun b hb => by
 rcases ok.stk with e | ⟨e, _⟩
 ·rw [e]; exact hb
 ·rw [e]
  unfold frs
  rw [List.filterMap_cons]
  cases X.env.frame with
  | none => exact hb
  | some f => exact List.mem_cons_of_mem _ hb
theorem esc_of {pins : List (Addr × Obj)} {σ : St} {H : Hp} {s : Shared} {e : Value} {s' : Shared} (I : Inv X pins σ H s) (h : CX1 X.prog X.w X.stack H s Ec e s') : Esc X Ec e s' := by
 obtain ⟨ea, cls, a0, H', B, rfl, fl, nc, os, bare, fw, q⟩ := h
 have ub := I.base
 have neL : ∀ b o, X.s₀.heap.get? b = some o → b ≠ X.env.locals := fun b o e => Nat.ne_of_lt (Nat.lt_of_lt_of_le (Heap.lt_size e) I.ok.above)
 have nf : ∀ b, b ∉ frs X.stack → b ∉ X.fs := fun b hb z => hb (stk_out I.ok b z)
 refine ⟨ea, cls, a0, .none, H', B, rfl, fl.1, fl.2.1, fl.2.2.1, fl.2.2.2, nc, os.trans I.os, bare, ⟨fw.hok, fun b o e n hb hx => ?_, fun b o e hb => ?_, fun b o e n hx => ?_, fun b o e hb hx => ?_, fun b xs e => fw.tups b xs (ub.tups b xs e), fun b o u e => fw.frzs b o u (ub.frzs b o u e), fun b ps e => ?_, fw.exc, fun hb => ?_⟩, q⟩
 ·exact fw.keep b o (ub.keep b o e n (nf b hb) hx) (ub.free b o e n hx) hb
 ·have hb2 : b ∈ X.fs := by
   rcases List.mem_cons.mp (I.stkSub b hb) with z | z
   ·exact absurd z (neL b o e)
   ·exact z
  obtain ⟨sl, e1⟩ := ub.slot b o e (I.ok.frf b hb2) hb2 (fun z => I.ok.exfs b z hb2)
  obtain ⟨sl', e2⟩ := fw.slot b _ e1 hb
  exact ⟨sl', e2⟩
 ·obtain ⟨o', e1⟩ := ub.there b o e hx
  exact fw.free b o' e1 (ub.free b o e n hx)
 ·obtain ⟨o', e1⟩ := ub.there b o e hx
  exact fw.there b o' e1 hb
 ·obtain ⟨m1, e1⟩ := ub.tbls b ps e
  obtain ⟨m2, e2⟩ := fw.tbls b _ e1
  exact ⟨m1 ++ m2, by rw [e2, Array.append_assoc]⟩
 ·obtain ⟨m, ⟨o, es, ep, ho, r⟩, _⟩ := I.loc
  exact ⟨fw.free _ o ho I.free, m, o, es, ep, fw.keep _ o ho I.free hb, r⟩
theorem dF.R (h : dF X Ec) : iK (CX1 X.prog X.w) X fun _ => Ec := fun pins σ H s e s' I hc => h I.ok e s' (esc_of I hc)
end
section
variable {M : Model} {A : Around} {E : Value → Shared → Prop} {s : Shared} {B : Heap} {env : Env} {outer : List Env} {L ea : Addr} {cls a0 fl : Value} {Q : Unit → Shared → Prop}
theorem note_any (hfr : A.frames = some (env :: outer)) (hf : env.frame = some L) (st : B.StaysIn s.heap) (new : B.get? ea = none) (ff : s.heap.FunFrames B (env :: outer)) (tr : s.heap.TracedAtW B ea cls a0 fl)
  (k : ∀ h', Heap.HeldW B (env :: outer) ea cls a0 L h' → s.heap.UpToSlots h' → Q () { s with heap := h' }) : wpAny M A (noteFrame (.ref ea) env) Q E s := by
 by_cases hL : fl = rawInt L
 ·subst hL
  exact wpAny_noteFrame_againW hf tr (k s.heap ⟨st, new, ff, tr⟩ (.refl _))
 ·obtain ⟨oe, vs, T, oT, ts, he, ⟨hc, z0⟩, hd, z1, nT, ne, hT, dT, z3⟩ := tr
  subst hc
  have lt3 := (Array.getElem?_eq_some_iff.mp z3).1
  unfold noteFrame
  simp only [hf]
  refine wpAny_bind (wpAny_field he hd z1 ?_)
  have b1 : (Value.ref T != Value.none) = true := by simp
  rw [if_pos b1]
  refine wpAny_bind (wpAny_field hT dT z3 ?_)
  have b2 : ¬ (fl == rawInt L) = true := fun z => hL (by simpa using z)
  rw [if_neg b2]
  refine wpAny_bind (wpAny_setField hT dT lt3 ?_)
  have oth : ∀ b, T ≠ b → (s.heap.update T (Obj.mapFields (·.setIfInBounds 3 .none))).get? b = s.heap.get? b := fun b hb => Heap.get?_update_other _ _ hb
  have rec' : ∀ b o, s.heap.get? b = some o → (∀ vs, o.data ≠ .fields vs) → T ≠ b := fun b o hb hn z => by
   subst z
   rw [hT] at hb
   cases hb
   exact hn ts dT
  refine wpAny_entryW hfr (ff.of_keeps fun b o hb hn => ⟨o, by rw [oth b (rec' b o hb hn)]; exact hb, rfl⟩) hf (by rw [oth ea ne]; exact he) (fun b o hb => ?_) new hd (Array.getElem?_eq_some_iff.mp z1).1 z0 fun h' hN => ?_
  ·rw [oth b (fun z => by subst z; rw [nT] at hb; cases hb)]
   exact st b o hb
  ·obtain ⟨k1, k2, k3, k4⟩ := hN
   exact k h' ⟨k1, new, k2, k3⟩ fun b o hb hn => k4 b o (by rw [oth b (rec' b o hb hn)]; exact hb) hn
theorem leaves_any (hfr : A.frames = some (env :: outer)) (hf : env.frame = some L) (st : B.StaysIn s.heap) (new : B.get? ea = none) (ff : s.heap.FunFrames B (env :: outer)) (tr : s.heap.TracedAtW B ea cls a0 fl)
  (k : ∀ h', Heap.FlyingW B outer ea cls a0 h' → s.heap.UpToSlots h' → Q () { s with heap := h' }) : wpAny M A (leaving env (.ref ea)) Q E s := by
 unfold leaving
 refine wpAny_bind (note_any hfr hf st new ff tr fun h1 held up1 => ?_)
 refine wpAny_landsW (s := { s with heap := h1 }) held fun h2 fl2 up2 => ?_
 obtain ⟨k1, k2, ⟨_, _, k3⟩, k4⟩ := fl2
 exact k h2 ⟨k1, k2, k3, k4⟩ (up1.trans up2)
theorem flag_any {fr : Option Addr} (tr : s.heap.TracedAtW B ea cls a0 fl) (st : B.StaysIn s.heap) (ff : s.heap.FunFrames B outer)
  (k : ∀ h' fl', B.StaysIn h' → h'.FunFrames B outer → h'.TracedAtW B ea cls a0 fl' → s.heap.UpToSlots h' → Q () { s with heap := h' }) : wpAny M A (setFlight (.ref ea) fr) Q E s := by
 obtain ⟨oe, vs, T, oT, ts, he, hc, hd, z1, nT, ne, hT, dT, z3⟩ := tr
 have lt3 := (Array.getElem?_eq_some_iff.mp z3).1
 unfold setFlight
 refine wpAny_bind (wpAny_field he hd z1 ?_)
 have b1 : (Value.ref T != Value.none) = true := by simp
 rw [if_pos b1]
 have oth : ∀ (y : Value) b, T ≠ b → (s.heap.update T (Obj.mapFields (·.setIfInBounds 3 y))).get? b = s.heap.get? b := fun y b hb => Heap.get?_update_other _ _ hb
 have rec' : ∀ b o, s.heap.get? b = some o → (∀ vs, o.data ≠ .fields vs) → T ≠ b := fun b o hb hn z => by
  subst z
  rw [hT] at hb
  cases hb
  exact hn ts dT
 refine wpAny_setField hT dT lt3 (k _ _ (fun b o hb => ?_) (ff.of_keeps fun b o hb hn => ⟨o, by rw [oth _ b (rec' b o hb hn)]; exact hb, rfl⟩)
  ⟨oe, vs, T, _, _, by rw [oth _ ea ne]; exact he, hc, hd, z1, nT, ne, Heap.get?_update_self _ hT (Obj.isFreed_of_fields (Obj.data_mapFields dT _)), Obj.data_mapFields dT _, by rw [Array.getElem?_setIfInBounds]; simp [lt3]; rfl⟩
  fun b o hb hn => ⟨o.slots, by rw [oth _ b (rec' b o hb hn)]; exact hb⟩)
 rw [oth _ b (fun z => by subst z; rw [nT] at hb; cases hb)]
 exact st b o hb
theorem note_anyC (hfr : A.frames = some (env :: outer)) (hf : env.frame = some L) (st : B.StaysIn s.heap) (new : B.get? ea = none) (ff : s.heap.FunFrames B (env :: outer)) (tr : s.heap.TracedAtW B ea cls a0 fl) (nc : bu s.heap ea)
  (k : ∀ h', Heap.HeldW B (env :: outer) ea cls a0 L h' → bu h' ea → s.heap.UpToSlots h' → Q () { s with heap := h' }) : wpAny M A (noteFrame (.ref ea) env) Q E s :=
 wpAny_mono (keep_note.any nc (note_any (Q := fun _ s' => ∃ h', s' = { s with heap := h' } ∧ Heap.HeldW B (env :: outer) ea cls a0 L h' ∧ s.heap.UpToSlots h') (E := fun _ _ => False) hfr hf st new ff tr fun h' a b => ⟨h', rfl, a, b⟩))
  (fun _ s' ⟨⟨h', e', a, b⟩, n⟩ => by subst e'; exact k h' a n b) fun _ _ z => z.1.elim
theorem leaves_anyC (hfr : A.frames = some (env :: outer)) (hf : env.frame = some L) (st : B.StaysIn s.heap) (new : B.get? ea = none) (ff : s.heap.FunFrames B (env :: outer)) (tr : s.heap.TracedAtW B ea cls a0 fl) (nc : bu s.heap ea)
  (k : ∀ h', Heap.FlyingW B outer ea cls a0 h' → bu h' ea → s.heap.UpToSlots h' → Q () { s with heap := h' }) : wpAny M A (leaving env (.ref ea)) Q E s :=
 wpAny_mono (keep_leaving.any nc (leaves_any (Q := fun _ s' => ∃ h', s' = { s with heap := h' } ∧ Heap.FlyingW B outer ea cls a0 h' ∧ s.heap.UpToSlots h') (E := fun _ _ => False) hfr hf st new ff tr fun h' a b => ⟨h', rfl, a, b⟩))
  (fun _ s' ⟨⟨h', e', a, b⟩, n⟩ => by subst e'; exact k h' a n b) fun _ _ z => z.1.elim
theorem flag_anyC {fr : Option Addr} (tr : s.heap.TracedAtW B ea cls a0 fl) (st : B.StaysIn s.heap) (ff : s.heap.FunFrames B outer) (nc : bu s.heap ea)
  (k : ∀ h' fl', B.StaysIn h' → h'.FunFrames B outer → h'.TracedAtW B ea cls a0 fl' → bu h' ea → s.heap.UpToSlots h' → Q () { s with heap := h' }) : wpAny M A (setFlight (.ref ea) fr) Q E s :=
 wpAny_mono (fZ.any nc (flag_any (Q := fun _ s' => ∃ h' fl', s' = { s with heap := h' } ∧ B.StaysIn h' ∧ h'.FunFrames B outer ∧ h'.TracedAtW B ea cls a0 fl' ∧ s.heap.UpToSlots h') (E := fun _ _ => False) tr st ff fun h' fl' a b c d => ⟨h', fl', rfl, a, b, c, d⟩))
  (fun _ s' ⟨⟨h', fl', e', a, b, c, d⟩, n⟩ => by subst e'; exact k h' fl' a b c n d) fun _ _ z => z.1.elim
end
theorem note_env {e : Value} {env env' : Env} (h : env.frame = env'.frame) : noteFrame e env = noteFrame e env' := by
 unfold noteFrame PySem.frameOf
 rw [h]
section
variable {P : Program} {w : World} {K : PySem.W.Frag} {mg : Str → Option Value} {base : Heap} {N : List Str} {qual : Str} {scope : Scope} {f : Addr} {cd : Value} {A : Around} {outer : List Env} {s₀ : Shared} {H₀ : Hp} {E : XK}
theorem passesE1 : dF (gY (CX1 P w) P w K mg base N qual scope f cd A outer s₀ H₀ E) E := by
 intro ok e s' h
 obtain ⟨ea, cls, a0, fl, H', B, rfl, st, new, ff, tr, nc, os, bare, fw, q⟩ := h
 have fr : frs (envOfC qual scope s₀.heap.objs.size f cd :: outer) = s₀.heap.objs.size :: frs outer := rfl
 have neL : ∀ b o, s₀.heap.get? b = some o → b ∉ frs outer → b ∉ frs (envOfC qual scope s₀.heap.objs.size f cd :: outer) := fun b o e hb z => by
  rw [fr] at z
  rcases List.mem_cons.mp z with z | z
  ·have := Heap.lt_size e
   rw [z] at this
   exact absurd this (Nat.lt_irrefl _)
  ·exact hb z
 show wpAny (model P w) (A.deeper (envOfC qual scope s₀.heap.objs.size f cd)) (leaving (envOfC qual scope s₀.heap.objs.size f cd) (.ref ea)) (fun _ s'' => CX1 P w outer H₀ s₀ E (.ref ea) s'') (fun e' s'' => CX1 P w outer H₀ s₀ E e' s'') s'
 refine leaves_anyC ok.frames rfl st new ff tr nc fun h'' fl'' nc'' up => ?_
 refine ⟨ea, cls, a0, H', B, rfl, fl'', nc'', os, bare, ⟨fw.hok, fun b o e n hb => fw.keep b o e n (neL b o e hb) (fun z => nomatch z), fun b o e hb => ?_, fun b o e n => fw.free b o e n (fun z => nomatch z), fun b o e hb => fw.there b o e (neL b o e hb) (fun z => nomatch z), fw.tups, fw.frzs, fw.tbls, fw.exc⟩, q⟩
 have hb' : b ∈ frs (envOfC qual scope s₀.heap.objs.size f cd :: outer) := by rw [fr]; exact List.mem_cons_of_mem _ hb
 obtain ⟨sl, e1⟩ := fw.slot b o e hb'
 obtain ⟨_, o1, e2, nf⟩ := Heap.FunFrames.mem ff hb'
 rw [e1] at e2
 cases e2
 obtain ⟨sl', e3⟩ := up b _ e1 nf
 exact ⟨sl', e3⟩
end
end L2
namespace C5
open PySem
section
variable {prog : Program} {w : World} {A : Around} {R : Result → Shared → Prop} {s : Shared}
theorem compLoop_goX {elt target iter : Expr} {ifs : List Expr} {scope : Scope} {pos : Pos} {it acc : Value} {env : Env} (I : Nat → Shared → Prop) (EE : Value → Shared → Prop) (hEE : ∀ e s', EE e s' → notedBy (model prog w) A env (fun x s' => R (.error x) s') e s')
  (turn : ∀ n s, I n s → wpAny (model prog w) A (pyNext it) (fun r s₁ => match r with
   | none => R (.ok .next) s₁
   | some v => wpAny (model prog w) A (letOwnedTupleGo target it v) (fun _ s₁' => wpAny (model prog w) A (assign target env v) (fun _ s₂ =>
     wpAny (model prog w) A (forIn ifs true fun c r => if r = true then do let ok ← isTrue c env (eval c env); pure (ForInStep.yield ok) else pure (ForInStep.yield r)) (fun ok s₃ =>
      if ok = true then wpAny (model prog w) A (eval elt env) (fun x s₄ =>
       wpAny (model prog w) A (call (.builtin "list.append") [acc, x]) (fun _ s₅ => ∃ m, m < n ∧ I m s₅) EE s₄) EE s₃
      else ∃ m, m < n ∧ I m s₃) EE s₂) EE s₁') EE s₁) EE s)
  (n : Nat) (h : I n s) :
  codeAny (model prog w) A (.compLoop (.ListComp elt [⟨target, iter, ifs, 0⟩] scope pos) 0 it acc env) R s := by
 refine codeAny_loop rfl I (fun n s hI => ?_) n h
 show wpAny _ A ((compTurn (.ListComp elt [⟨target, iter, ifs, 0⟩] scope pos) 0 it acc env).onRaise (fun x => do noteFrame x env; theTreesLotGoes x)) _ _ s
 refine wpAny_noted ?_
 rw [compTurn_list]
 refine wpAny_bind (wpAny_standAt (wpAny_bind (wpAny_mono (turn n s hI) (fun r s₁ h₁ => ?_) hEE)))
 cases r with
 | none => exact wpAny_pure h₁
 | some v =>
  refine wpAny_bind (wpAny_mono h₁ (fun _ s₁' h₁' => ?_) hEE)
  refine wpAny_bind (wpAny_mono h₁' (fun _ s₂ h₂ => wpAny_bind (wpAny_mono h₂ (fun ok s₃ h₃ => ?_) hEE)) hEE)
  cases ok with
  | false => exact wpAny_pure ⟨rfl, h₃⟩
  | true =>
   exact wpAny_bind (wpAny_bind (wpAny_mono h₃ (fun x s₄ h₄ => wpAny_bind (wpAny_mono h₄ (fun _ s₅ h₅ => wpAny_pure (wpAny_pure ⟨rfl, h₅⟩)) hEE)) hEE))
end
end C5
namespace L2
open PySem PySem.Spec PyProof.Rows C5
section
variable {X : Cx} {pins : List (Addr × Obj)} {σ : St} {H : Hp} {s : Shared} {sc : Scope} {N : List Str} {src : List (Option Nat)}
noncomputable def CErr (X : Cx) (C : Addr) (x : Value) (s' : Shared) : Prop := ∃ m, s'.heap.Ns C m ∧ ∀ h', Heap.SameBut C s'.heap h' → ∀ cenv : Env, cenv.locals = C → wpAny (model X.prog X.w) X.A (passOn "comprehension.variables-let-go" x cenv : Sem Value) (fun _ _ => False) X.xe { s' with heap := h' }
theorem funFrames_but {h h' B : Heap} {C : Addr} (sb : Heap.SameBut C h h') : ∀ {l : List Env}, h.FunFrames B l → (∀ env ∈ l, env.frame ≠ some C) → h'.FunFrames B l
 | [], _, _ => trivial
 | env :: r, ⟨hk, ⟨L, o, hf, hn, ho, hd⟩, hr⟩, ne => ⟨hk, ⟨L, o, hf, hn, (sb.2 L (fun z => ne env (.head _) (by rw [hf, z]))).trans ho, hd⟩, funFrames_but sb hr fun e he => ne e (.tail _ he)⟩
theorem block_passes {Ec : XK} {fp : List Addr} {C : Addr} (hp : dF X Ec) (hst : ∃ e0 rest L, X.stack = e0 :: rest ∧ e0.frame = X.env.frame ∧ X.env.frame = some L) (I2 : Inv X pins σ H s) (f2 : ∀ b ∈ fp, FpOk X pins H b) (hC : s.heap.objs.size ≤ C) :
  dF ((gf X sc N fp C s H).wish (notedBy (model X.prog X.w) X.A (iQ sc (iy sc X.env) C X.env) (CErr X C))) Ec := by
 intro okB e s' hE
 obtain ⟨ea, cls, a0, fl, H', B, rfl, st, new, ff, tr, nc, os, bare, fw, q⟩ := hE
 obtain ⟨e0, rest, L, hs, hf0, hfL⟩ := hst
 have hCn : C ∉ frs X.stack := fun z => by
  obtain ⟨_, o, ho, _⟩ := (I2.stack).mem z
  exact absurd (Nat.lt_of_lt_of_le (Heap.lt_size ho) hC) (Nat.lt_irrefl _)
 obtain ⟨hC0, m, hNs⟩ : H' C = none ∧ ∃ m, B.Ns C m := fw.loc hCn
 replace ff : s'.heap.FunFrames B X.stack := ff
 show wpAny (model X.prog X.w) X.A (noteFrame (.ref ea) (iQ sc (iy sc X.env) C X.env)) _ _ s'
 rw [note_env (env' := e0) (show (iQ sc (iy sc X.env) C X.env).frame = e0.frame from hf0.symm)]
 have hfr : X.A.frames = some (e0 :: rest) := by rw [I2.ok.frames, hs]
 rw [hs] at ff
 refine note_anyC hfr (hf0.trans hfL) st new ff tr nc fun h4 held nc4 up4 => ?_
 obtain ⟨st4, _, ff4, tr4⟩ := held
 obtain ⟨oC, es, ep, hoC, hr⟩ := hNs
 refine ⟨m, ⟨oC, es, ep, st4 _ _ hoC, hr⟩, fun h5 sb cenv hcv => ?_⟩
 have toB : ∀ b o, B.get? b = some o → b ≠ C → (PySem.W.hideAll B [C]).get? b = some o := fun b o e hb => PySem.W.hideAll_get _ e (by simpa using hb)
 have st5 : (PySem.W.hideAll B [C]).StaysIn h5 := fun b o e => by
  have hb : b ≠ C := fun z => by subst z; rw [PySem.W.hideAll_none [b] (List.mem_singleton.mpr rfl)] at e; cases e
  exact (sb.2 b hb).trans (st4 b o (PySem.W.of_hideAll _ e))
 have hid : (PySem.W.hideAll B [C]).StaysIn B := fun b o e => PySem.W.of_hideAll _ e
 have none5 : ∀ b, B.get? b = none → (PySem.W.hideAll B [C]).get? b = none := fun b hb => by
  cases z : (PySem.W.hideAll B [C]).get? b with
  | none => rfl
  | some o => rw [hid b o z] at hb; cases hb
 have neC : ∀ b, B.get? b = none → b ≠ C := fun b hb z => by subst z; rw [hoC] at hb; cases hb
 have ff5 : h5.FunFrames (PySem.W.hideAll B [C]) (e0 :: rest) := by
  refine PySem.W.funFrames_base hid (funFrames_but sb ff4 fun env he z => hCn ?_)
  rw [hs]
  exact List.mem_filterMap.mpr ⟨env, he, z⟩
 have tr5 : h5.TracedAtW (PySem.W.hideAll B [C]) ea cls a0 (rawInt L) := by
  obtain ⟨oe, vs, T, oT, ts, he, hc, hd, z1, nT, ne, hT, dT, z3⟩ := tr4
  exact ⟨oe, vs, T, oT, ts, (sb.2 ea (neC ea new)).trans he, hc, hd, z1, none5 T nT, ne, (sb.2 T (neC T nT)).trans hT, dT, z3⟩
 have nc5 : bu h5 ea := nc4.keeps fun o e => (sb.2 ea (neC ea new)).trans e
 unfold PySem.passOn
 have tr5' := tr5
 obtain ⟨oe, vs, T, oT, ts, he, hc, hd, z1, nT, ne, hT, dT, z3⟩ := tr5'
 refine wpAny_bind (wpAny_field (s := { s' with heap := h5 }) he hd z1 ?_)
 have bn : ¬ (Value.ref T == Value.none) = true := by simp
 rw [if_neg bn]
 refine wpAny_bind (flag_anyC (s := { s' with heap := h5 }) tr5 st5 ff5 nc5 fun h6 fl6 st6 ff6 tr6 nc6 up6 => ?_)
 refine wpAny_throw (hp I2.ok _ _ ?_)
 have ub := I2.base
 have neL : ∀ b o, X.s₀.heap.get? b = some o → b ≠ X.env.locals := fun b o e => Nat.ne_of_lt (Nat.lt_of_lt_of_le (Heap.lt_size e) I2.ok.above)
 have nf : ∀ b, b ∉ frs X.stack → b ∉ X.fs := fun b hb z => hb (stk_out I2.ok b z)
 have ltC : ∀ b o, s.heap.get? b = some o → b ≠ C := fun b o e => Nat.ne_of_lt (Nat.lt_of_lt_of_le (Heap.lt_size e) hC)
 have nfp : ∀ b o, X.s₀.heap.get? b = some o → b ∉ X.ex → b ∉ fp := fun b o e hx hb => by
  obtain ⟨_, _, _, f3, _, _⟩ := f2 b hb
  rcases f3 with z | z
  ·exact hx z
  ·exact absurd (Nat.lt_of_lt_of_le (Heap.lt_size e) z) (Nat.lt_irrefl _)
 have upto : ∀ b o, s'.heap.get? b = some o → (∀ vs, o.data ≠ .fields vs) → b ≠ C → ∃ sl, h6.get? b = some { o with slots := sl } := fun b o e hn hb => by
  obtain ⟨sl4, e4⟩ := up4 b o e hn
  obtain ⟨sl6, e6⟩ := up6 b _ ((sb.2 b hb).trans e4) hn
  exact ⟨sl6, e6⟩
 refine ⟨ea, cls, a0, fl6, H', PySem.W.hideAll B [C], rfl, st6, none5 ea new, (by rw [hs]; exact ff6), tr6, nc6, os.trans I2.os, bare, ⟨fun a o e => ?_, fun b o e n hb hx => ?_, fun b o e hb => ?_, fun b o e n hx => ?_, fun b o e hb hx => ?_, fun b xs e => fw.tups b xs (ub.tups b xs e), fun b o u e => fw.frzs b o u (ub.frzs b o u e), fun b ps e => ?_, fw.exc, fun hb => ?_⟩, q⟩
 ·refine (fw.hok a o e).stay (fun b u hb g => toB b u g ?_) (fun _ g => g) fun _ _ g => g
  rintro rfl
  rcases hb with hb | hb
  ·subst hb; rw [hC0] at e; cases e
  ·rw [hC0] at hb; cases hb
 ·have e1 := ub.keep b o e n (nf b hb) hx
  exact toB b o (fw.keep b o e1 (ub.free b o e n hx) hb (nfp b o e hx)) (ltC b o e1)
 ·have hb2 : b ∈ X.fs := by
   rcases List.mem_cons.mp (I2.stkSub b hb) with z | z
   ·exact absurd z (neL b o e)
   ·exact z
  obtain ⟨sl, e1⟩ := ub.slot b o e (I2.ok.frf b hb2) hb2 (fun z => I2.ok.exfs b z hb2)
  obtain ⟨sl', e2⟩ := fw.slot b _ e1 hb
  obtain ⟨_, o1, e3, hn⟩ := Heap.FunFrames.mem ff (b := b) (by rw [hs] at hb; exact hb)
  rw [e2] at e3
  cases e3
  obtain ⟨sl6, e6⟩ := upto b _ e2 hn (ltC b _ e1)
  exact ⟨sl6, e6⟩
 ·obtain ⟨o', e1⟩ := ub.there b o e hx
  exact fw.free b o' e1 (ub.free b o e n hx) (nfp b o e hx)
 ·obtain ⟨o', e1⟩ := ub.there b o e hx
  obtain ⟨o2, e2⟩ := fw.there b o' e1 hb (nfp b o e hx)
  exact ⟨o2, toB b o2 e2 (ltC b o' e1)⟩
 ·obtain ⟨m1, e1⟩ := ub.tbls b ps e
  obtain ⟨m2, e2⟩ := fw.tbls b _ e1
  exact ⟨m1 ++ m2, by rw [e2, Array.append_assoc]⟩
 ·obtain ⟨mX, ⟨o, es', ep', ho, r⟩, _⟩ := I2.loc
  have nfl : X.env.locals ∉ fp := fun z => (f2 _ z).2.1 rfl
  exact ⟨fw.free _ o ho I2.free nfl, mX, o, es', ep', toB _ o (fw.keep _ o ho I2.free hb nfl) (ltC _ o ho), r⟩
theorem pe_compX {elt tgt iter : Expr} {ifs : List Expr} {wi : TI} {g : TG} {tt : TT} {te : TE} {pos : Pos} {Ec : XK} (hp : dF X Ec) (hst : ∃ e0 rest L, X.stack = e0 :: rest ∧ e0.frame = X.env.frame ∧ X.env.frame = some L) (hc : X.calm = true) (B : gA X.env.scope sc X.N N src) (hi : PI X tgt iter wi)
  (hg : ∀ (s : Shared) (H : Hp) (C : Addr) (fp : List Addr) (XE : Value → Shared → Prop), dF ((gf X sc N fp C s H).wish XE) Ec → PG ((gf X sc N fp C s H).wish XE) tgt g) (ht : ∀ (s : Shared) (H : Hp) (C : Addr) (fp : List Addr) (XE : Value → Shared → Prop), dF ((gf X sc N fp C s H).wish XE) Ec → PTs ((gf X sc N fp C s H).wish XE) ifs tt)
  (he : ∀ (s : Shared) (H : Hp) (C : Addr) (fp : List Addr) (XE : Value → Shared → Prop), dF ((gf X sc N fp C s H).wish XE) Ec → PE ((gf X sc N fp C s H).wish XE) elt te) (hs : ∀ x, foldedSetIterable iter X.env x = pure x := by intro _; rfl) :
  PE X (.ListComp elt [⟨tgt, iter, ifs, 0⟩] sc pos) (tComp src wi g tt te) := by
 intro pins s σ H Q I h
 rw [eval_ListComp]
 have has := B.has rfl I.ok
 refine wpAny_comprehension_free (use := none) rfl hs (clos_of has) B.kind (fun y hy hk => by have := B.look (x := y.1) (k := y.2) hy; rw [hk] at this; exact this)
  (bZ (hi pins s σ H _ I h) fun v s1 h1 => bZ h1 fun itv s2 h2 => ?_)
 obtain ⟨it, fp, tn, J, H2, e, I2, T, st2, f2, q⟩ := h2
 subst e
 refine wpAny_newObj_type (newBlock ?_)
 obtain ⟨W, ⟨m0, w0⟩, turn⟩ := q s2.heap.objs.size (I2.hok.fresh (Nat.le_refl _))
 have hlt : ∀ b ∈ fp, b < s2.heap.objs.size := fun b hb => by
  obtain ⟨o, ho, _⟩ := T.obj 0 _ st2 b hb
  exact Heap.lt_size ho
 have szL : (s2.heap.push { cls := .type "list", dict := none, data := .seq ([] : List Value).toArray } : Heap).objs.size = s2.heap.objs.size + 1 := Heap.size_push ..
 generalize hh1 : pushCells ((s2.heap.push { cls := .type "list", dict := none, data := .seq ([] : List Value).toArray } : Heap).push { cls := .type "dict", data := .dict #[] }) sc.names = hB
 have IB := I2.block (C := (s2.heap.push { cls := .type "list", dict := none, data := .seq ([] : List Value).toArray } : Heap).objs.size) (t := s2.toks) B f2 hlt szL hh1.symm
 generalize (s2.heap.push { cls := .type "list", dict := none, data := .seq ([] : List Value).toArray } : Heap).objs.size = C at IB szL ⊢
 obtain ⟨XE, hXE⟩ : ∃ XE : Value → Shared → Prop, XE = notedBy (model X.prog X.w) X.A (iQ sc (iy sc X.env) C X.env) (CErr X C) := ⟨_, rfl⟩
 have IB := IB.wish XE
 have hC : s2.heap.objs.size ≤ C := by rw [szL]; exact Nat.le_succ _
 have hpB : dF ((gf X sc N fp C s2 H2).wish XE) Ec := by
  subst hXE
  exact block_passes hp hst I2 f2 hC
 have keepB : ∀ b o, s2.heap.get? b = some o → hB.get? b = some o := fun b o e => by
  rw [← hh1]
  exact pushCells_keeps _ _ b o (Heap.get?_push_of_some _ (Heap.get?_push_of_some _ e))
 have stB : tn 0 hB := T.keep 0 _ _ st2 fun b _ o e => keepB b o e
 have frB : ∀ b ∈ fp, upd H2 s2.heap.objs.size (.lst []) b = none := fun b hb => by
  rw [aJ (Nat.ne_of_lt (hlt b hb))]
  exact (f2 b hb).1
 have stat : ∀ {H' : Hp}, (∀ b ∈ fp, H' b = none) → ∀ b ∈ fp, FpOk ((gf X sc N fp C s2 H2).wish XE) [] H' b := fun {H'} hn b hb => by
  obtain ⟨z1, z2⟩ := IB.ok.exf b hb
  exact ⟨hn b hb, z1, IB.ok.exfs b hb, .inl hb, z2, fun p hp => absurd (show p ∈ ([] : List (Addr × Obj)) from hp) (by simp)⟩
 show codeAny (model X.prog X.w) X.A (.compStart (.ListComp elt [⟨tgt, iter, ifs, 0⟩] sc pos) 0 (.ref it) (.ref s2.heap.objs.size) (iQ sc (iy sc X.env) C X.env)) (compPost (model X.prog X.w) X.A X.xe none (EP X pins σ Q) (.ref s2.heap.objs.size) C) { s2 with heap := hB }
 have loop : codeAny (model X.prog X.w) X.A (.compLoop (.ListComp elt [⟨tgt, iter, ifs, 0⟩] sc pos) 0 (.ref it) (.ref s2.heap.objs.size) (iQ sc (iy sc X.env) C X.env))
   (compPost (model X.prog X.w) X.A X.xe none (EP X pins σ Q) (.ref s2.heap.objs.size) C) { s2 with heap := hB } := by
  refine compLoop_goX (EE := XE) (hEE := fun e s' h => by rw [hXE] at h; exact h) (fun n s' => ∃ i σ' H', Inv ((gf X sc N fp C s2 H2).wish XE) [] σ' H' s' ∧ tn i s'.heap ∧ (∀ b ∈ fp, H' b = none) ∧ W i n σ' H') ?_ m0 ⟨0, _, _, IB, stB, frB, w0⟩
  rintro n s3 ⟨i, σ3, H3, I3, st3, fr3, w3⟩
  rcases turn i n σ3 H3 w3 with ⟨stop, qn⟩ | ⟨go, N', hN, step⟩
  ·refine bZ (T.done ((gf X sc N fp C s2 H2).wish XE) rfl rfl rfl hc i [] s3 σ3 H3 _ I3 (stat fr3) st3 stop) fun r s4 ⟨hr, I4⟩ => ?_
   subst hr
   obtain ⟨m, hn, _⟩ := I4.loc
   refine ⟨m, hn, fun h' hs' => ?_⟩
   refine ⟨.ref s2.heap.objs.size, H3, ?_, rfl, qn⟩
   have ltC : ∀ b o, s2.heap.get? b = some o → b ≠ C := fun b o e => Nat.ne_of_lt (show @LT.lt Nat instLTNat b C by have : @LT.lt Nat instLTNat b s2.heap.objs.size := Heap.lt_size e; omega)
   have base := I4.base
   have freeC : H3 C = none := I4.free
   refine I2.call' (s' := { s4 with heap := h' }) (ch := fp) I4.os ⟨fun b o e n hb hx => ?_, fun b o e n hb hx => ?_, base.free, fun b o e hx => ?_, base.tups, base.frzs, base.tbls⟩ (fun b ob e => ?_) I4.bare (fun b hb => ?_)
   ·exact (hs'.2 b (ltC b o e)).trans (base.keep b o e n hb hx)
   ·obtain ⟨sl, e1⟩ := base.slot b o e n hb hx
    exact ⟨sl, (hs'.2 b (ltC b o e)).trans e1⟩
   ·obtain ⟨o', e1⟩ := base.there b o e hx
    exact ⟨o', (hs'.2 b (ltC b o e)).trans e1⟩
   ·refine (I4.hok b ob e).stay (fun c w' hc' q' => (hs'.2 c ?_).trans q') (fun _ q' => q') fun _ _ q' => q'
    intro z
    rcases hc' with z' | z'
    ·rw [← z', z, freeC] at e; cases e
    ·rw [z, freeC] at z'; cases z'
   ·obtain ⟨f0, f1, f2', f3, f4, f5⟩ := f2 b hb
    exact ⟨f3, f1, f4, f5⟩
  ·refine bZ (T.item ((gf X sc N fp C s2 H2).wish XE) rfl rfl rfl hc i [] s3 σ3 H3 _ I3 (stat fr3) st3 go) fun r s4 ⟨u, hr, h4⟩ => ?_
   subst hr
   refine bZ h4 fun _ s5 ⟨x, H5, I5, r5, y5, st5, fr5⟩ => ?_
   have I5' := I5.pinned (stat fr5) (T.obj _ _ st5)
   have again : ∀ {s7 : Shared} {σ7 : St} {H7 : Hp}, Inv ((gf X sc N fp C s2 H2).wish XE) ([] ++ pinsAt fp s5.heap) σ7 H7 s7 → N' σ7 H7 → ∃ m, m < n ∧ ∃ i σ' H', Inv ((gf X sc N fp C s2 H2).wish XE) [] σ' H' s7 ∧ tn i s7.heap ∧ (∀ b ∈ fp, H' b = none) ∧ W i m σ' H' := fun {s7 σ7 H7} I7 n7 => by
    obtain ⟨m', hm, w7⟩ := hN σ7 H7 n7
    refine ⟨m', hm, i + 1, σ7, H7, I7.unpinned, T.keep _ _ _ st5 fun b hb o e => (I7.pin (b, o) (List.mem_append_right _ (List.mem_append_right _ (dz hb e)))).1, fun b hb => ?_, w7⟩
    obtain ⟨o, e, d⟩ := T.obj _ _ st5 b hb
    exact (I7.pin (b, o) (List.mem_append_right _ (List.mem_append_right _ (dz hb e)))).2.1
   refine bZ (hg s2 H2 C fp _ hpB _ s5 σ3 H5 x u _ I5' r5 (step x H5 y5)) fun _ s6 ⟨σ6, H6, I6, q6⟩ => ?_
   refine bZ (ht s2 H2 C fp _ hpB _ s6 σ6 H6 _ I6 q6) fun b s7 ⟨H7, I7, q7⟩ => ?_
   cases b with
   | false =>
    rw [if_neg Bool.false_ne_true] at q7 ⊢
    exact again I7 q7
   | true =>
    rw [if_pos rfl] at q7 ⊢
    refine bZ (he s2 H2 C fp _ hpB _ s7 σ6 H7 _ I7 q7) fun u8 s8 ⟨v8, H8, I8, r8, xs, hD, hz, n8⟩ => ?_
    exact bZ (cH (X := (gf X sc N fp C s2 H2).wish XE) _ s8 σ6 H8 (.ref s2.heap.objs.size) [v8] (.ref s2.heap.objs.size) [u8] (fun _ H => N' σ6 H) I8 rfl (.cons r8 .nil) ⟨_, xs, v8, rfl, rfl, hD, hz, n8⟩) fun _ s9 ⟨_, H9, I9, _, n9⟩ => again I9 n9
 exact codeAny_compStart_list loop (T.self _ 0 _ _ _ stB loop)
theorem ps_setCX {x : Str} {ix : Nat} {p1 spos : Pos} {elt tgt iter : Expr} {ifs : List Expr} {wi : TI} {g : TG} {tt : TT} {te : TE} {pos : Pos} (hN : X.N.Nodup) (hix : X.N[ix]? = some x) (hxl : X.env.scope.names.lookup x = some .local) {Ec : XK} (hp : dF X Ec) (hst : ∃ e0 rest L, X.stack = e0 :: rest ∧ e0.frame = X.env.frame ∧ X.env.frame = some L) (hc : X.calm = true) (B : gA X.env.scope sc X.N N src) (hi : PI X tgt iter wi)
  (hg : ∀ (s : Shared) (H : Hp) (C : Addr) (fp : List Addr) (XE : Value → Shared → Prop), dF ((gf X sc N fp C s H).wish XE) Ec → PG ((gf X sc N fp C s H).wish XE) tgt g) (ht : ∀ (s : Shared) (H : Hp) (C : Addr) (fp : List Addr) (XE : Value → Shared → Prop), dF ((gf X sc N fp C s H).wish XE) Ec → PTs ((gf X sc N fp C s H).wish XE) ifs tt)
  (he : ∀ (s : Shared) (H : Hp) (C : Addr) (fp : List Addr) (XE : Value → Shared → Prop), dF ((gf X sc N fp C s H).wish XE) Ec → PE ((gf X sc N fp C s H).wish XE) elt te) (hs : ∀ x, foldedSetIterable iter X.env x = pure x := by intro _; rfl)
  (hsw : swapsWith (.ListComp elt [⟨tgt, iter, ifs, 0⟩] sc pos) (some (.Name x p1)) spos.line X.env = pure true := by rfl) :
  PS X (.Assign [.Name x p1] (.ListComp elt [⟨tgt, iter, ifs, 0⟩] sc pos) spos) (tAsg (tComp src wi g tt te) (dG ix)) := by
 intro pins s σ H D I h
 rw [exec_Assign_Name_used _ _ _ _ hsw]
 refine wpAny_bind (wpAny_standAt (wpAny_bind ?_))
 show wpAny _ X.A (do let _ ← comprehension (.ListComp elt [⟨tgt, iter, ifs, 0⟩] sc pos) sc X.env _ (newList []) false (eval iter X.env) (some (assign (.Name x p1) X.env))) _ _ s
 have has := B.has rfl I.ok
 refine wpAny_bind (wpAny_mono (wpAny_comprehension_free (use := some (assign (.Name x p1) X.env)) (Q := fun _ s' => SP X pins D .next s') rfl hs (clos_of has) B.kind (fun y hy hk => by have := B.look (x := y.1) (k := y.2) hy; rw [hk] at this; exact this)
  (bZ (hi pins s σ H _ I h) fun v s1 h1 => bZ h1 fun itv s2 h2 => ?_)) (fun _ s' hq => wpAny_pure (wpAny_pure hq)) fun _ _ z => z)
 obtain ⟨it, fp, tn, J, H2, e, I2, T, st2, f2, q⟩ := h2
 subst e
 refine wpAny_newObj_type (newBlock ?_)
 obtain ⟨W, ⟨m0, w0⟩, turn⟩ := q s2.heap.objs.size (I2.hok.fresh (Nat.le_refl _))
 have hlt : ∀ b ∈ fp, b < s2.heap.objs.size := fun b hb => by
  obtain ⟨o, ho, _⟩ := T.obj 0 _ st2 b hb
  exact Heap.lt_size ho
 have szL : (s2.heap.push { cls := .type "list", dict := none, data := .seq ([] : List Value).toArray } : Heap).objs.size = s2.heap.objs.size + 1 := Heap.size_push ..
 generalize hh1 : pushCells ((s2.heap.push { cls := .type "list", dict := none, data := .seq ([] : List Value).toArray } : Heap).push { cls := .type "dict", data := .dict #[] }) sc.names = hB
 have IB := I2.block (C := (s2.heap.push { cls := .type "list", dict := none, data := .seq ([] : List Value).toArray } : Heap).objs.size) (t := s2.toks) B f2 hlt szL hh1.symm
 generalize (s2.heap.push { cls := .type "list", dict := none, data := .seq ([] : List Value).toArray } : Heap).objs.size = C at IB szL ⊢
 obtain ⟨XE, hXE⟩ : ∃ XE : Value → Shared → Prop, XE = notedBy (model X.prog X.w) X.A (iQ sc (iy sc X.env) C X.env) (CErr X C) := ⟨_, rfl⟩
 have IB := IB.wish XE
 have hC : s2.heap.objs.size ≤ C := by rw [szL]; exact Nat.le_succ _
 have hpB : dF ((gf X sc N fp C s2 H2).wish XE) Ec := by
  subst hXE
  exact block_passes hp hst I2 f2 hC
 have keepB : ∀ b o, s2.heap.get? b = some o → hB.get? b = some o := fun b o e => by
  rw [← hh1]
  exact pushCells_keeps _ _ b o (Heap.get?_push_of_some _ (Heap.get?_push_of_some _ e))
 have stB : tn 0 hB := T.keep 0 _ _ st2 fun b _ o e => keepB b o e
 have frB : ∀ b ∈ fp, upd H2 s2.heap.objs.size (.lst []) b = none := fun b hb => by
  rw [aJ (Nat.ne_of_lt (hlt b hb))]
  exact (f2 b hb).1
 have stat : ∀ {H' : Hp}, (∀ b ∈ fp, H' b = none) → ∀ b ∈ fp, FpOk ((gf X sc N fp C s2 H2).wish XE) [] H' b := fun {H'} hn b hb => by
  obtain ⟨z1, z2⟩ := IB.ok.exf b hb
  exact ⟨hn b hb, z1, IB.ok.exfs b hb, .inl hb, z2, fun p hp => absurd (show p ∈ ([] : List (Addr × Obj)) from hp) (by simp)⟩
 show codeAny (model X.prog X.w) X.A (.compStart (.ListComp elt [⟨tgt, iter, ifs, 0⟩] sc pos) 0 (.ref it) (.ref s2.heap.objs.size) (iQ sc (iy sc X.env) C X.env)) (compPost (model X.prog X.w) X.A X.xe (some (assign (.Name x p1) X.env)) (fun _ s' => SP X pins D .next s') (.ref s2.heap.objs.size) C) { s2 with heap := hB }
 have loop : codeAny (model X.prog X.w) X.A (.compLoop (.ListComp elt [⟨tgt, iter, ifs, 0⟩] sc pos) 0 (.ref it) (.ref s2.heap.objs.size) (iQ sc (iy sc X.env) C X.env))
   (compPost (model X.prog X.w) X.A X.xe (some (assign (.Name x p1) X.env)) (fun _ s' => SP X pins D .next s') (.ref s2.heap.objs.size) C) { s2 with heap := hB } := by
  refine compLoop_goX (EE := XE) (hEE := fun e s' h => by rw [hXE] at h; exact h) (fun n s' => ∃ i σ' H', Inv ((gf X sc N fp C s2 H2).wish XE) [] σ' H' s' ∧ tn i s'.heap ∧ (∀ b ∈ fp, H' b = none) ∧ W i n σ' H') ?_ m0 ⟨0, _, _, IB, stB, frB, w0⟩
  rintro n s3 ⟨i, σ3, H3, I3, st3, fr3, w3⟩
  rcases turn i n σ3 H3 w3 with ⟨stop, qn⟩ | ⟨go, N', hN, step⟩
  ·refine bZ (T.done ((gf X sc N fp C s2 H2).wish XE) rfl rfl rfl hc i [] s3 σ3 H3 _ I3 (stat fr3) st3 stop) fun r s4 ⟨hr, I4⟩ => ?_
   subst hr
   obtain ⟨m, hn, _⟩ := I4.loc
   have ltC : ∀ b o, s2.heap.get? b = some o → b ≠ C := fun b o e => Nat.ne_of_lt (show @LT.lt Nat instLTNat b C by have : @LT.lt Nat instLTNat b s2.heap.objs.size := Heap.lt_size e; omega)
   have base := I4.base
   have freeC : H3 C = none := I4.free
   have J : Inv X pins σ H3 s4 := by
    refine I2.call' (s' := s4) (ch := fp) I4.os ⟨base.keep, base.slot, base.free, base.there, base.tups, base.frzs, base.tbls⟩ I4.hok I4.bare (fun b hb => ?_)
    obtain ⟨f0, f1, f2', f3, f4, f5⟩ := f2 b hb
    exact ⟨f3, f1, f4, f5⟩
   have neL : C ≠ X.env.locals := fun z => by
    obtain ⟨m', ⟨o, _, _, ho, _⟩, _⟩ := I2.loc
    exact ltC _ o ho z.symm
   have neCell : ∀ y c, X.env.cells.lookup y = some c → c ≠ C := fun y c e => by
    obtain ⟨v', o, ho, _⟩ := I2.cell y c e
    exact ltC c o ho
   show wpAny (model X.prog X.w) X.A (assign (.Name x p1) X.env (.ref s2.heap.objs.size)) _ _ s4
   refine wpAny_assign_Name (store_ok2 J hN hix (.inl hxl) (show RelV (.ref s2.heap.objs.size) (.ref s2.heap.objs.size) from rfl) (fun s5 J5 hsb => ?_) (.inr hxl))
   obtain ⟨a, sb, ha⟩ := hsb
   have neA : C ≠ a := by
    rcases ha with z | z
    ·rw [z]; exact neL
    ·exact fun q => neCell _ _ z q.symm
   refine ⟨m, hn.sameBut sb neA, fun h' hs' => ?_⟩
   refine ⟨_, H3, J5.turned (t' := s5.toks) (it := C) (fun b o hb e => (hs'.2 b hb).trans e) freeC neL (.inr ?_) neCell (fun p hp => ltC p.1 p.2 (I2.pin p hp).1), qn⟩
   exact Nat.le_trans I2.sz (show @LE.le Nat instLENat s2.heap.objs.size C by omega)
  ·refine bZ (T.item ((gf X sc N fp C s2 H2).wish XE) rfl rfl rfl hc i [] s3 σ3 H3 _ I3 (stat fr3) st3 go) fun r s4 ⟨u, hr, h4⟩ => ?_
   subst hr
   refine bZ h4 fun _ s5 ⟨x, H5, I5, r5, y5, st5, fr5⟩ => ?_
   have I5' := I5.pinned (stat fr5) (T.obj _ _ st5)
   have again : ∀ {s7 : Shared} {σ7 : St} {H7 : Hp}, Inv ((gf X sc N fp C s2 H2).wish XE) ([] ++ pinsAt fp s5.heap) σ7 H7 s7 → N' σ7 H7 → ∃ m, m < n ∧ ∃ i σ' H', Inv ((gf X sc N fp C s2 H2).wish XE) [] σ' H' s7 ∧ tn i s7.heap ∧ (∀ b ∈ fp, H' b = none) ∧ W i m σ' H' := fun {s7 σ7 H7} I7 n7 => by
    obtain ⟨m', hm, w7⟩ := hN σ7 H7 n7
    refine ⟨m', hm, i + 1, σ7, H7, I7.unpinned, T.keep _ _ _ st5 fun b hb o e => (I7.pin (b, o) (List.mem_append_right _ (List.mem_append_right _ (dz hb e)))).1, fun b hb => ?_, w7⟩
    obtain ⟨o, e, d⟩ := T.obj _ _ st5 b hb
    exact (I7.pin (b, o) (List.mem_append_right _ (List.mem_append_right _ (dz hb e)))).2.1
   refine bZ (hg s2 H2 C fp _ hpB _ s5 σ3 H5 x u _ I5' r5 (step x H5 y5)) fun _ s6 ⟨σ6, H6, I6, q6⟩ => ?_
   refine bZ (ht s2 H2 C fp _ hpB _ s6 σ6 H6 _ I6 q6) fun b s7 ⟨H7, I7, q7⟩ => ?_
   cases b with
   | false =>
    rw [if_neg Bool.false_ne_true] at q7 ⊢
    exact again I7 q7
   | true =>
    rw [if_pos rfl] at q7 ⊢
    refine bZ (he s2 H2 C fp _ hpB _ s7 σ6 H7 _ I7 q7) fun u8 s8 ⟨v8, H8, I8, r8, xs, hD, hz, n8⟩ => ?_
    exact bZ (cH (X := (gf X sc N fp C s2 H2).wish XE) _ s8 σ6 H8 (.ref s2.heap.objs.size) [v8] (.ref s2.heap.objs.size) [u8] (fun _ H => N' σ6 H) I8 rfl (.cons r8 .nil) ⟨_, xs, v8, rfl, rfl, hD, hz, n8⟩) fun _ s9 ⟨_, H9, I9, _, n9⟩ => again I9 n9
 exact codeAny_compStart_list loop (T.self _ 0 _ _ _ stB loop)
end
end L2
namespace L2
open PySem PySem.Spec PyProof.Rows
noncomputable def g2 (K : PySem.W.Frag) (k1 k2 : Nat) : TG := gTup K 2 (gCons (dG k1) (gCons (dG k2) gNil))
section
variable {K : PySem.W.Frag} {H : Hp} {k1 k2 : Nat}
noncomputable def enumL (xs : List V) : List (V × V) := (List.range xs.length).map fun (i : Nat) => (V.int (i : Int), xs.getD i .non)
end
end L2
namespace PySem
open Sem (wp)
open AutoSeq1 (wpAny_loadPart')
end PySem
namespace L2
open PySem PySem.Spec PyProof.Rows
section
variable {K : PySem.W.Frag} {H : Hp} {k1 k2 : Nat}
theorem aB.seqT {K : PySem.W.Frag} {H H' : Hp} {a : Addr} {xs : List V} (e : aB H H') (h : dC K H a xs) : dC K H' a xs := by
 rcases h with (h | ⟨o, h⟩) | h
 ·exact .inl (.inl (e _ _ h))
 ·exact .inl (.inr ⟨o, e _ _ h⟩)
 ·exact .inr h
end
noncomputable def Hd (H : Hp) (ea : Addr) : Prop := ∃ C, H ea = some (iY ea C)
theorem Hd.mono {H H' : Hp} {ea : Addr} (h : Hd H ea) (s : aB H H') : Hd H' ea := by
 obtain ⟨C, e⟩ := h
 exact ⟨C, s _ _ e⟩
theorem Inv.noctx {X : Cx} {pins : List (Addr × Obj)} {σ : St} {H : Hp} {s : Shared} {ea : Addr} (I : Inv X pins σ H s) (h : Hd H ea) : bu s.heap ea := by
 obtain ⟨C, e⟩ := h
 obtain ⟨⟨o, vs, p1, _, p3, p4⟩, _⟩ := (show dU X.prog X.w H s.heap ea (iY ea C) from I.hok ea _ e)
 exact ⟨o, vs, p1, p3, p4⟩
noncomputable abbrev Marked (ea : Addr) : Cx → Prop := fun X => X.A.handled = some (.ref ea)
noncomputable def ItlM (K : PySem.W.Frag) (a ea : Addr) : It := ⟨(Itl K a).go, (Itl K a).yld, fun i H => (Itl K a).stop i H ∧ Hd H ea⟩
theorem turn_listM {P : Program} {w : World} {K : PySem.W.Frag} {tg : Expr} {ea : Addr} (a it : Addr) : TurnG (Marked ea) P w K tg (ItlM K a ea) [it] it (fun i h => h.IsListIter it a i) where
 mem := List.mem_singleton.mpr rfl
 obj := fun i h st b hb => by
  rw [List.mem_singleton.mp hb]
  obtain ⟨o, e, _, d⟩ := st
  exact ⟨o, e, fun v z => by rw [d] at z; cases z⟩
 keep := fun i h h' st k => st.at fun o e => k it (List.mem_singleton.mpr rfl) o e
 item := by
  rintro X rfl rfl rfl hc i pins s σ H E I hf st ⟨xs, x, hq, hx⟩
  obtain ⟨its, rv, p, _⟩ := I.list hq
  obtain ⟨u, hu, ru⟩ := rv.get hx
  obtain ⟨f0, f1, f2, f3, f4, f5⟩ := hf it (List.mem_singleton.mpr rfl)
  refine wpAny_pyNext_list_item st p.isList (x := u) (by simpa using hu) fun h' st' sb => ⟨u, rfl, ?_⟩
  have J : Inv X pins σ H { s with heap := h' } := I.turned (t' := s.toks) (fun b o hb e => (sb.2 b hb).trans e) f0 f1 f3 f4 f5
  obtain ⟨o, e, c, d⟩ := id st'
  exact go_of (s := { s with heap := h' }) e c d (by decide) ⟨x, H, J, ru, ⟨rfl, fun ys hy => by rw [I.list_inj hy hq]; exact hx⟩, st', fun b hb => (hf b hb).1⟩
 done := by
  rintro X rfl rfl rfl hc i pins s σ H E I hf st ⟨⟨xs, hq, hx⟩, he⟩
  obtain ⟨its, rv, p, _⟩ := I.list hq
  obtain ⟨f0, f1, f2, f3, f4, f5⟩ := hf it (List.mem_singleton.mpr rfl)
  have hl := rv.length
  obtain ⟨C, e⟩ := id he
  exact next_list_endM hc (I.noctx he) (aK e f0) st p.isList (by simp; omega) fun h' eb => ⟨rfl, I.turned (t' := s.toks) (fun b o hb e => eb b o hb e) f0 f1 f3 f4 f5⟩
 self := fun _ _ _ _ _ st h => wpAny_pyIter_listiter st h
noncomputable def iListM (K : PySem.W.Frag) (ea : Addr) (tl : TE) : TI := fun σ H R => tl σ H fun x H1 => ∃ a, x = .ref a ∧ (∃ xs, aU K H1 a xs) ∧ R (ItlM K a ea) H1
section
variable {X : Cx} {ea : Addr}
theorem pi_listM {tg l : Expr} {tl : TE} (K : PySem.W.Frag) (hK : X.K = K) (hl : PE X l tl) : PIG (Marked ea) X tg l (iListM K ea tl) := by
 subst hK
 intro pins s σ H R I h
 refine bZ (hl pins s σ H _ I h) fun v s1 ⟨x, H1, J, r1, a, e, ⟨xs, hq⟩, q⟩ => ?_
 subst e
 cases r1
 obtain ⟨its, rv, p, _⟩ := J.list hq
 refine wpAny_pyIter_list p.isList ⟨s1.heap.objs.size, [s1.heap.objs.size], _, _, H1, rfl, J.kept (t' := s1.toks) fun b o e => Heap.get?_push_of_some _ e, turn_listM a _, ⟨_, Heap.get?_push_size _ rfl, rfl, rfl⟩, fun b hb => ?_, q⟩
 rw [List.mem_singleton.mp hb]
 exact J.fpOk (Nat.le_refl _) (J.hok.fresh (Nat.le_refl _))
noncomputable def gTupM (K : PySem.W.Frag) (ea : Addr) (n : Nat) (t : TGs) : TG := fun v σ H Q => Hd H ea ∧ gTup K n t v σ H Q
theorem pg_tupM {es : List Expr} {k n : Nat} {pos : Pos} {t : TGs} (K : PySem.W.Frag) (hK : X.K = K) (hc : Marked ea X) (h : PGs X es t) (hn : (assignEach es X.env).length = n := by rfl) (hst : (assignEach es X.env).findIdx? (·.1) = none := by rfl) : PG X (.Tuple es k pos) (gTupM K ea n t) := by
 subst hK
 intro pins s σ H v u Q I r ⟨he, a, xs, e1, hq, hl, hw⟩
 subst e1
 cases r
 obtain ⟨its, rv, ht, _⟩ := I.tuple hq
 refine assign_TupleM hc (I.noctx he) ht (by simp [hn, ← hl, rv.length]) hst fun h' hx => ?_
 exact h pins _ σ H xs _ Q (I.kept (t' := s.toks) fun b o e => hx b o (Nat.ne_of_lt (Heap.lt_size e)) e) (by simpa using rv) hw
end
theorem comp_word {K : PySem.W.Frag} {a ea D : Addr} {L : List (Addr × Str × Bool)} {σ0 : St} {H : Hp} {Fn : Hp → Prop} (hS : aU K H a (L.map fun t => V.ref t.1)) (hT : ∀ t ∈ L, dC K H t.1 [.str t.2.1, .bl t.2.2]) (hE : Hd H ea) (hn : L.length ≤ sizeLine) (h2 : σ0.length = 2) (hD : H D = none)
  (hd : ∀ H', aB H H' → H' D = some (.lst ((L.filter fun t => t.2.2).map fun t => V.str t.2.1)) → Fn H') :
  ∃ W : Nat → Nat → St → Hp → Prop, (∃ m, W 0 m σ0 (upd H D (.lst []))) ∧ ∀ i m σ' H', W i m σ' H' →
   ((ItlM K a ea).stop i H' ∧ Fn H') ∨ ((ItlM K a ea).go i H' ∧ ∃ N : St → Hp → Prop, (∀ σ2 H2, N σ2 H2 → ∃ m', m' < m ∧ W (i + 1) m' σ2 H2) ∧ ∀ x H2, (ItlM K a ea).yld i H' x H2 → gTupM K ea 2 (gCons (dG 0) (gCons (dG 1) gNil)) x σ' H2 fun σ3 H3 => tB (tVar 1) σ3 H3 fun b H4 =>
    if b = true then tVar 0 σ3 H4 fun v H5 => ∃ xs, H5 D = some (.lst xs) ∧ xs.length < sizeLine ∧ N σ3 (upd H5 D (.lst (xs ++ [v]))) else N σ3 H4) := by
 refine ⟨fun i m σ' H' => m = L.length - i ∧ i ≤ L.length ∧ σ'.length = 2 ∧ aB H H' ∧ H' D = some (.lst (((L.take i).filter fun t => t.2.2).map fun t => V.str t.2.1)), ⟨L.length, rfl, Nat.zero_le _, h2, az hD, by rw [ak]; rfl⟩, ?_⟩
 rintro i m σ' H' ⟨rfl, hi, hσ, sm, hH⟩
 by_cases hlt : i < L.length
 ·have hx : L[i]? = some L[i] := List.getElem?_eq_getElem hlt
  have hx' : (L.map fun t => V.ref t.1)[i]? = some (.ref L[i].1) := by rw [List.getElem?_map, hx]; rfl
  have hS' := sm.seq hS
  refine .inr ⟨⟨_, _, hS', hx'⟩, fun σ2 H2 => σ2.length = 2 ∧ aB H H2 ∧ H2 D = some (.lst (((L.take (i + 1)).filter fun t => t.2.2).map fun t => V.str t.2.1)), fun σ2 H2 ⟨q1, q2, q3⟩ => ⟨L.length - (i + 1), by omega, rfl, hlt, q1, q2, q3⟩, ?_⟩
  rintro x H2 ⟨rfl, hy⟩
  have e := hy _ hS'
  rw [hx'] at e
  cases e
  have tk : (L.take (i + 1)).filter (fun t => t.2.2) = (L.take i).filter (fun t => t.2.2) ++ [L[i]].filter fun t => t.2.2 := by rw [List.take_succ_eq_append_getElem hlt, List.filter_append]
  obtain ⟨v0, v1, rfl⟩ : ∃ v0 v1, σ' = [v0, v1] := by
   match σ', hσ with
   | [a, b], _ => exact ⟨a, b, rfl⟩
  refine ⟨hE.mono sm, _, _, rfl, sm.seqT (hT _ (List.getElem_mem hlt)), rfl, _, _, rfl, _, _, rfl, rfl, _, rfl, _, rfl, ?_⟩
  have lf : ((L.take i).filter fun t => t.2.2).length ≤ i := Nat.le_trans (List.length_filter_le _ _) (by rw [List.length_take]; omega)
  cases hb : L[i].2.2 with
  | false =>
   refine iteF ?_
   refine ⟨rfl, sm, ?_⟩
   rw [tk, List.filter_cons_of_neg (by simp [hb]), List.filter_nil, List.append_nil]
   exact hH
  | true =>
   refine iteT ?_
   refine ⟨_, rfl, _, hH, by rw [List.length_map]; omega, rfl, aY sm hD, ?_⟩
   rw [ak, tk, List.filter_cons_of_pos (by simp [hb]), List.filter_nil, List.map_append]
   rfl
 ·have e : i = L.length := by omega
  subst e
  rw [List.take_length] at hH
  exact .inl ⟨⟨⟨_, sm.seq hS, by rw [List.length_map]; exact Nat.le_refl _⟩, hE.mono sm⟩, hd H' sm hH⟩
noncomputable def signsOf (x : Str) : List V := x.cps.toList.map fun c => .str ⟨#[c]⟩
end L2
namespace L2
open PySem
end L2
namespace L2
open PySem PySem.Spec PyProof.Rows
theorem pe_bmK {X : Cx} {T : String} {name : Str} {id : String} {r : V → List V → Hp → VK → Prop} {o e : Expr} {es : List Expr} {to : TE} {t : TA} {apos cpos : Pos} (K : PySem.W.Frag) (hK : X.K = K) (pa : PlainAttrs T) (slot : Slot T name id) (hty : typeOf (.builtin id) = pure (.type "method_descriptor")) (hm : MtR X id r) (ho : PE X o to) (ha : PA X (e :: es) t)
  (hbase : attributeBase o name X.env (eval o X.env) = eval o X.env := by rfl)
  (hfew : ((backTo cpos (starEach (e :: es) X.env)).all (fun x => !x.1) && (backToKw cpos (keywordEach [] X.env)).all (fun x => x.1.isSome) && decide ((e :: es).length + ([] : List Keyword).length + (if ([] : List Keyword).isEmpty then 0 else 1) < 30)) = true := by rfl)
  (hline : (apos.endLine == cpos.line) = true := by rfl) (hs : starEach (e :: es) X.env = (false, eval e X.env) :: starEach es X.env := by rfl) (hplain : (backTo cpos (starEach es X.env)).any (·.1) = false := by rfl) :
  PE X (.Call (.Attribute o name apos) (e :: es) [] cpos) (tBM K T r to t) := by
 subst hK; exact pe_bm pa slot hty hm ho ha hbase hfew hline hs hplain
section
variable {X : Cx} {pins pn : List (Addr × Obj)} {σ : St} {H : Hp} {s : Shared} {XE : Value → Shared → Prop}
noncomputable def catchXG (K : PySem.W.Frag) (CF : Addr) (i : Nat) (ts : Addr → TS) (D : Ends) (σ : St) : XK := fun cls _ H1 =>
 ∃ C, cls = .ref C ∧ PySem.W.exmOne K (.ref C) (.ref CF) = some true ∧ ∀ ea, H1 ea = none → ts ea (endsX i D) (σ.set i (some (.ref ea))) (upd H1 ea (iY ea C))
noncomputable def tTryG (K : PySem.W.Frag) (CF : Addr) (i : Nat) (tb : (St → XK) → TS) (ts : Addr → TS) : TS := fun D σ H => tb (fun σ' => catchXG K CF i ts D σ') D σ H
theorem ps_tryG {body : List Stmt} {cx n : Str} {CF : Addr} {i : Nat} {b0 : Stmt} {suite : List Stmt} {np hpos pos : Pos} {tb : (St → XK) → TS} {ts : Addr → TS}
  (hN : X.N.Nodup) (hi : X.N[i]? = some n) (hl : X.env.scope.names.lookup n = some .local) (hg : Gl X cx) (hm : X.mg cx = some (.ref CF)) (hst : X.stack = X.env :: X.outer) (hf : X.env.frame = some X.env.locals)
  (hb : ∀ (pn : List (Addr × Obj)) (XE : Value → Shared → Prop) (R : St → XK), iK (CX1 X.prog X.w) (X.at pn XE) R → PSs (X.at pn XE) body (tb R))
  (hs : ∀ ea, PSs (X.marked ea) (b0 :: suite) (ts ea)) (hdb : (cx == ("__debug__" : Str)) = false := by decide) :
  PS X (.Try body [.ExceptHandler (some (.Name cx np)) (some n) (b0 :: suite) hpos] [] [] pos) (tTryG X.K CF i tb ts) := by
 intro pins s σ H D I hq
 refine wpAny_Try_except (wpAny_mono (hb (X.pn ++ pins) _ (fun σ' => catchXG X.K CF i ts D σ') ?_ [] s σ H D I.at hq) (fun f s1 q => ?_) fun e s1 q => q)
 ·intro pins0 σ0 H0 s0 e s' I0' hc
  have I0 : Inv X pins σ0 H0 s0 := I0'.unat
  obtain ⟨ea, cls, a0, H', B, rfl, fl, nc, os, bare, fw, C, rfl, hex, q⟩ := hc
  replace fl : Heap.FlyingW B (X.env :: X.outer) ea (.ref C) a0 s'.heap := by rw [← hst]; exact fl
  replace fw : Flew X.prog X.w (X.env :: X.outer) H0 H' s0.heap B s'.heap ea := by rw [← hst]; exact fw
  have fr0 : X.A.frames = some (X.env :: X.outer) := by rw [I0.ok.frames, hst]
  have new0 : s0.heap.get? ea = none := by
   cases g : s0.heap.get? ea with
   | none => rfl
   | some o =>
    by_cases hb : ea ∈ frs (X.env :: X.outer)
    ·obtain ⟨_, o1, e1, nf⟩ := fl.2.2.1.mem hb
     obtain ⟨oe, vs, e2, _, d2, _⟩ := fl.first
     rw [e1] at e2; cases e2
     exact absurd d2 (nf vs)
    ·obtain ⟨o', e1⟩ := fw.there ea o g hb
     rw [fl.2.1] at e1; cases e1
  refine looks_onC fr0 hf fl nc fun h4 held4 nc4 up4 => ?_
  refine landsC held4 nc4 fun h5 fl5 nc5 up5 => ?_
  have inv : ∀ {h6 : Heap} {tk : Nat}, Heap.FlyingW B (X.env :: X.outer) ea (.ref C) a0 h6 → bu h6 ea → s'.heap.UpToSlots h6 → Inv X pins σ0 (upd H' ea (iY ea C)) { s' with heap := h6, toks := tk } := fun {h6 tk} fl6 nc6 up6 => by
   have f6 := fw.up fl up6
   have u6 := f6.un fl6.1
   obtain ⟨oe, vs, e6, c6, d6, _⟩ := fl6.first
   obtain ⟨on, wn, en, dn, nn⟩ := nc6
   rw [e6] at en; cases en
   rw [d6] at dn; cases dn
   refine I0.call' (s' := { s' with heap := h6, toks := tk }) (ch := []) os (by
    rw [hst]
    exact ⟨u6.keep, u6.slot, fun b o e n hx => by
     rw [aJ (fun z => by rw [z, new0] at e; cases e)]
     exact u6.free b o e n hx, u6.there, fun b xs e => by
     have z := u6.tups b xs e
     rw [aJ (aK z fw.exc)]; exact z, fun b o u e => by
     have z := u6.frzs b o u e
     rw [aJ (aK z fw.exc)]; exact z, fun b ps e => by
     obtain ⟨more, z⟩ := u6.tbls b ps e
     exact ⟨more, by rw [aJ (aK z fw.exc)]; exact z⟩⟩) (fun b u e => ?_) bare (fun b hb => absurd hb (by simp))
   by_cases hbe : b = ea
   ·subst hbe
    rw [ak] at e
    cases e
    refine ⟨⟨oe, vs, e6, c6, d6, nn⟩, ⟨oe, e6⟩, fun h1 h2 p k => ?_⟩
    obtain ⟨o, ws, p1, p2, p3, p4⟩ := p
    exact ⟨o, ws, k o p1, p2, p3, p4⟩
   ·rw [aJ hbe] at e
    refine (f6.ok fl6.1 b u e).stay (fun _ _ _ g => g) (fun c g => ?_) fun c xs g => ?_
    ·rw [aJ (aK g fw.exc)]; exact g
    ·rw [aJ (aK g fw.exc)]; exact g
  have I5 := inv (tk := s'.toks) fl5 nc5 (up4.trans up5)
  refine wpAny_handleBy_cons (codeAny_handlers_test (ld_glob (X := X.marked ea) (I5.marked ea) hg hm ?_ hdb)) (by intro z; cases z)
  obtain ⟨ob, hob, hobc⟩ := fl5.there
  have LT : PySem.W.Looks (model X.prog X.w) h5 (typeOf (.ref ea)) (.ref C) := by
   rw [← hobc]
   exact (PySem.W.Looks.ld hob).andThen .now
  refine (PySem.W.exm_one (h := h5) I5.kIn LT hex).here ?_
  refine codeAny_handlers_suite_as ?_
  refine lands_againC fl5 nc5 fun h6 fl6 nc6 up6 => ?_
  have I6 := inv (tk := s'.toks) fl6 nc6 ((up4.trans up5).trans up6)
  refine store_ok I6 hN hi (Or.inl hl) (show RelV (.ref ea) (.ref ea) from rfl) (fun s7 I7 => ?_) (.inr hl)
  refine wpAny_mono (hs ea pins s7 _ _ _ (I7.marked ea) (q ea fw.exc)) (fun f s8 sp => ?_) fun _ _ z => z.elim
  have fin : ∀ {σ8 : St} {H8 : Hp} {Q8 : Shared → Prop}, Inv (X.marked ea) pins σ8 H8 s8 → (∀ s9, Inv X pins (σ8.set i none) H8 s9 → Q8 s9) →
    wpAny (model X.prog X.w) X.A (do bindName X.env n .none; unbindBehindTheSuite X.env n hpos) (fun _ s9 => Q8 s9) X.xe s8 := fun {σ8 H8 Q8} J k => by
   have J' := J.unmarked I0.ok
   obtain ⟨m, hn, hlk⟩ := J'.loc
   refine wpAny_nameGoes_keeps hl hn (by rw [I0.ok.kind]; rfl) fun h9 v hn9 sb9 => k _ ?_
   exact J'.gone hN hi hl hlk hn9 sb9
  cases f with
  | next =>
   obtain ⟨σ8, H8, J, z⟩ := sp
   exact fin J fun s9 I9 => ⟨_, H8, I9, z⟩
  | brk =>
   obtain ⟨σ8, H8, J, z⟩ := sp
   exact fin J fun s9 I9 => ⟨_, H8, I9, z⟩
  | cont =>
   obtain ⟨σ8, H8, J, z⟩ := sp
   exact fin J fun s9 I9 => ⟨_, H8, I9, z⟩
  | ret u =>
   obtain ⟨v, σ8, H8, J, r, z⟩ := sp
   exact fin J fun s9 I9 => ⟨v, _, H8, I9, r, z⟩
 ·cases f with
  | next => obtain ⟨σ1, H1, J, z⟩ := q; exact wpAny_execs_nil ⟨σ1, H1, J.unat, z⟩
  | brk => obtain ⟨σ1, H1, J, z⟩ := q; exact ⟨σ1, H1, J.unat, z⟩
  | cont => obtain ⟨σ1, H1, J, z⟩ := q; exact ⟨σ1, H1, J.unat, z⟩
  | ret u => obtain ⟨v, σ1, H1, J, r, z⟩ := q; exact ⟨v, σ1, H1, J.unat, r, z⟩
end
end L2
namespace STb
open PySem PySem.SetTable
noncomputable def meets (m e : Nat) : Nat → Nat → Nat → Bool
 | 0, i, _ => i == e
 | k + 1, i, p => i == e || meets m e k (leap m i p).1 (leap m i p).2
theorem meets_zero7 : ∀ e : Fin 8, ∀ i : Fin 8, meets 7 e.val 31 i.val 0 = true := by decide +kernel
theorem meets_zero31 : ∀ e : Fin 32, ∀ i : Fin 32, meets 31 e.val 31 i.val 0 = true := by decide +kernel
noncomputable def GoodM (m : Nat) : Prop := m = 7 ∨ m = 31
theorem meets_zero {m e i : Nat} (hm : GoodM m) (he : e ≤ m) (hi : i ≤ m) : meets m e 31 i 0 = true := by
 rcases hm with rfl | rfl
 ·exact meets_zero7 ⟨e, by omega⟩ ⟨i, by omega⟩
 ·exact meets_zero31 ⟨e, by omega⟩ ⟨i, by omega⟩
theorem leap_le (m i p : Nat) : (leap m i p).1 ≤ m := by
 unfold leap
 exact Nat.le_of_lt_succ (Nat.mod_lt _ (Nat.succ_pos m))
theorem meets_pre {m e : Nat} (hm : GoodM m) (he : e ≤ m) : ∀ (k i p : Nat), i ≤ m → p < 32 ^ k → meets m e (31 + k) i p = true
 | 0, i, p, hi, hp => by
  have : p = 0 := by simpa using hp
  subst this
  exact meets_zero hm he hi
 | k + 1, i, p, hi, hp => by
  show (i == e || meets m e (31 + k) (leap m i p).1 (leap m i p).2) = true
  rw [meets_pre hm he k _ _ (leap_le m i p) (by
   show p / 32 < 32 ^ k
   rw [Nat.pow_succ] at hp
   exact Nat.div_lt_of_lt_mul (by rw [Nat.mul_comm]; exact hp))]
  simp
theorem bits_lt (h : Int) : bits h < 32 ^ 13 := by
 unfold bits
 have h1 : h % (2 ^ 64 : Int) < 2 ^ 64 := Int.emod_lt_of_pos _ (by decide)
 have h0 : 0 ≤ h % (2 ^ 64 : Int) := Int.emod_nonneg _ (by decide)
 have : (32 : Nat) ^ 13 = 36893488147419103232 := by decide
 omega
theorem meets_all {m e i : Nat} (h : Int) (hm : GoodM m) (he : e ≤ m) (hi : i ≤ m) : meets m e 44 i (bits h) = true := meets_pre hm he 13 i _ hi (bits_lt h)
noncomputable def adv (m : Nat) (p : Probe) : Probe :=
 if p.more > 0 then { p with j := p.j + 1, more := p.more - 1 } else
 { p with j := (leap m p.i p.perturb).1, more := runEnd m (leap m p.i p.perturb).1 - (leap m p.i p.perturb).1, i := (leap m p.i p.perturb).1, perturb := (leap m p.i p.perturb).2 }
theorem advance_eq (t : SetTable) (p : Probe) : t.advance p = adv t.mask p := rfl
noncomputable def blk (m i p : Nat) : Probe := ⟨i, runEnd m i - i, i, p, none⟩
theorem start_eq (t : SetTable) (h : Int) : t.probeStart h = blk t.mask (bits h % (t.mask + 1)) (bits h) := rfl
inductive Way (m : Nat) (sl : Nat → Option Nat) : Probe → List Nat → Nat → Prop
 | stop {p : Probe} : sl p.j = none → Way m sl p [] p.j
 | live {p : Probe} {i : Nat} {l : List Nat} {e : Nat} : sl p.j = some i → Way m sl (adv m p) l e → Way m sl p (i :: l) e
variable {m : Nat} {sl : Nat → Option Nat}
theorem Way.free {p : Probe} {l : List Nat} {e : Nat} (w : Way m sl p l e) : sl e = none := by
 induction w with
 | stop h => exact h
 | live _ _ ih => exact ih
theorem run {i q : Nat} : ∀ (r j : Nat), (∃ l e, Way m sl ⟨j, r, i, q, none⟩ l e ∧ l.length ≤ r) ∨
  ((∀ k, k ≤ r → ∃ x, sl (j + k) = some x) ∧ ∀ l e, Way m sl (blk m (leap m i q).1 (leap m i q).2) l e → ∃ l2, Way m sl ⟨j, r, i, q, none⟩ l2 e ∧ l2.length = l.length + r + 1)
 | 0, j => by
  cases hs : sl j with
  | none => exact .inl ⟨[], j, .stop (p := ⟨j, 0, i, q, none⟩) hs, Nat.le_refl _⟩
  | some x =>
   refine .inr ⟨fun k hk => ?_, fun l e w => ⟨x :: l, .live (p := ⟨j, 0, i, q, none⟩) hs w, rfl⟩⟩
   have : k = 0 := by omega
   subst this
   exact ⟨x, hs⟩
 | r + 1, j => by
  cases hs : sl j with
  | none => exact .inl ⟨[], j, .stop (p := ⟨j, r + 1, i, q, none⟩) hs, Nat.zero_le _⟩
  | some x =>
   rcases run (i := i) (q := q) r (j + 1) with ⟨l, e, w, hl⟩ | ⟨hk, h⟩
   ·exact .inl ⟨x :: l, e, .live (p := ⟨j, r + 1, i, q, none⟩) hs w, Nat.succ_le_succ hl⟩
   ·refine .inr ⟨fun k hk' => ?_, fun l e w => ?_⟩
    ·cases k with
     | zero => exact ⟨x, hs⟩
     | succ k => have := hk k (by omega); rwa [show j + 1 + k = j + (k + 1) by omega] at this
    ·obtain ⟨l2, w2, h2⟩ := h l e w
     exact ⟨x :: l2, .live (p := ⟨j, r + 1, i, q, none⟩) hs w2, by simp [h2]; omega⟩
theorem runEnd_le (m i : Nat) : runEnd m i - i ≤ 9 := by unfold runEnd; split <;> omega
theorem way_ex {e0 c : Nat} (hc : ∀ i, runEnd m i - i ≤ c) (hf : sl e0 = none) : ∀ (k i q : Nat), meets m e0 k i q = true → ∃ l e, Way m sl (blk m i q) l e ∧ l.length ≤ k * (c + 1) + c
 | 0, i, q, h => by
  have : i = e0 := by simpa [meets] using h
  subst this
  exact ⟨[], i, .stop (p := blk m i q) hf, Nat.zero_le _⟩
 | k + 1, i, q, h => by
  rcases run (m := m) (sl := sl) (i := i) (q := q) (runEnd m i - i) i with ⟨l, e, w, hl⟩ | ⟨hk, hw⟩
  ·exact ⟨l, e, w, by have := hc i; omega⟩
  ·have h' : (i == e0 || meets m e0 k (leap m i q).1 (leap m i q).2) = true := h
   rw [Bool.or_eq_true] at h'
   rcases h' with h' | h'
   ·obtain ⟨x, hx⟩ := hk 0 (Nat.zero_le _)
    have : i = e0 := by simpa using h'
    rw [Nat.add_zero, this, hf] at hx; cases hx
   ·obtain ⟨l, e, w, hl⟩ := way_ex hc hf k _ _ h'
    obtain ⟨l2, w2, h2⟩ := hw l e w
    exact ⟨l2, e, w2, by have := hc i; rw [Nat.succ_mul]; omega⟩
theorem way_start {e0 : Nat} (hm : GoodM m) (he : e0 ≤ m) (hf : sl e0 = none) (h : Int) :
  ∃ l e, Way m sl (blk m (bits h % (m + 1)) (bits h)) l e ∧ l.length < 10 * turns m := by
 have hx := meets_all (i := bits h % (m + 1)) h hm he (Nat.le_of_lt_succ (Nat.mod_lt _ (Nat.succ_pos m)))
 rcases hm with rfl | rfl
 ·obtain ⟨l, e, w, hl⟩ := way_ex (c := 0) (fun i => by unfold runEnd; split <;> omega) hf 44 _ _ hx
  exact ⟨l, e, w, by unfold turns; omega⟩
 ·obtain ⟨l, e, w, hl⟩ := way_ex (c := 9) (fun i => runEnd_le 31 i) hf 44 _ _ hx
  exact ⟨l, e, w, by unfold turns; omega⟩
theorem Way.le {p : Probe} {l : List Nat} {e : Nat} (w : Way m sl p l e) (hp : p.j + p.more ≤ m) : e ≤ m := by
 induction w with
 | @stop p _ => omega
 | @live p i l e h _ ih =>
  refine ih ?_
  unfold adv
  split
  ·show p.j + 1 + (p.more - 1) ≤ m; omega
  ·show (leap m p.i p.perturb).1 + (runEnd m (leap m p.i p.perturb).1 - (leap m p.i p.perturb).1) ≤ m
   have := leap_le m p.i p.perturb
   unfold runEnd; split <;> omega
theorem blk_le {i q : Nat} (hi : i ≤ m) : (blk m i q).j + (blk m i q).more ≤ m := by
 show i + (runEnd m i - i) ≤ m
 unfold runEnd; split <;> omega
theorem Way.ren {sl' : Nat → Option Nat} {ρ : Nat → Nat} (hs : ∀ j, sl' j = (sl j).map ρ) {p : Probe} {l : List Nat} {e : Nat} (w : Way m sl p l e) : Way m sl' p (l.map ρ) e := by
 induction w with
 | stop h => exact .stop (by rw [hs, h]; rfl)
 | live h _ ih => exact .live (by rw [hs, h]; rfl) ih
theorem Way.more {sl' : Nat → Option Nat} {ρ : Nat → Nat} {e0 x : Nat} (h0 : sl e0 = none) (h1 : sl' e0 = some x) (hs : ∀ j, j ≠ e0 → sl' j = (sl j).map ρ) {p : Probe} {l l' : List Nat} {e e' : Nat}
  (w : Way m sl p l e) (w' : Way m sl' p l' e') : (∀ i ∈ l, ρ i ∈ l') ∧ (e = e0 → x ∈ l') := by
 induction w generalizing l' e' with
 | @stop p h =>
  refine ⟨fun i hi => (by cases hi), fun he => ?_⟩
  cases w' with
  | stop h' => rw [he, h1] at h'; cases h'
  | live h' _ => rw [he, h1] at h'; cases h'; exact List.mem_cons_self
 | @live p i l e h _ ih =>
  have hne : p.j ≠ e0 := fun z => by rw [z, h0] at h; cases h
  have hq := hs p.j hne
  rw [h] at hq
  cases w' with
  | stop h' => rw [hq] at h'; cases h'
  | live h' t =>
   rw [hq] at h'; cases h'
   obtain ⟨a, b⟩ := ih t
   exact ⟨fun k hk => by
    rcases List.mem_cons.mp hk with rfl | hk
    ·exact List.mem_cons_self
    ·exact List.mem_cons_of_mem _ (a k hk), fun he => List.mem_cons_of_mem _ (b he)⟩
end STb
namespace STb
open PySem PySem.SetTable
noncomputable def Ris (xs : Array Nat) : Prop := ∀ i k u v : Nat, i < k → xs[i]? = some u → xs[k]? = some v → u < v
theorem get_lt {α : Type} {xs : Array α} {i : Nat} {v : α} (h : xs[i]? = some v) : i < xs.size := by
 rcases Nat.lt_or_ge i xs.size with q | q
 ·exact q
 ·rw [Array.getElem?_eq_none q] at h; cases h
theorem below_go {xs : Array Nat} {j : Nat} (hr : Ris xs) : ∀ (fuel lo hi : Nat), lo ≤ hi → hi ≤ xs.size → hi - lo ≤ fuel →
  (∀ i u, i < lo → xs[i]? = some u → u < j) → (∀ i u, hi ≤ i → xs[i]? = some u → j ≤ u) →
  below.go xs j fuel lo hi ≤ xs.size ∧ (∀ i u, i < below.go xs j fuel lo hi → xs[i]? = some u → u < j) ∧ ∀ i u, below.go xs j fuel lo hi ≤ i → xs[i]? = some u → j ≤ u
 | 0, lo, hi, h1, h2, h3, a, b => by
  have : lo = hi := by omega
  subst this
  exact ⟨h2, a, b⟩
 | fuel + 1, lo, hi, h1, h2, h3, a, b => by
  unfold below.go
  by_cases hl : lo < hi
  ·rw [if_pos hl]
   dsimp only
   have hmid : (lo + hi) / 2 < xs.size := by omega
   obtain ⟨v, hv⟩ : ∃ v, xs[(lo + hi) / 2]? = some v := ⟨_, Array.getElem?_eq_getElem hmid⟩
   have hg : xs.getD ((lo + hi) / 2) j = v := by rw [Array.getD_eq_getD_getElem?, hv]; rfl
   rw [hg]
   by_cases hc : v < j
   ·rw [if_pos hc]
    refine below_go hr fuel _ _ (by omega) h2 (by omega) (fun i u hi' hu => ?_) b
    rcases Nat.lt_or_ge i ((lo + hi) / 2) with q | q
    ·exact Nat.lt_trans (hr i _ u v q hu hv) hc
    ·have : i = (lo + hi) / 2 := by omega
     subst this
     rw [hv] at hu; cases hu; exact hc
   ·rw [if_neg hc]
    refine below_go hr fuel _ _ (by omega) (by omega) (by omega) a (fun i u hi' hu => ?_)
    rcases Nat.lt_or_ge ((lo + hi) / 2) i with q | q
    ·have := hr _ i v u q hv hu; omega
    ·have : i = (lo + hi) / 2 := by omega
     subst this
     rw [hv] at hu; cases hu; omega
  ·rw [if_neg hl]
   have : lo = hi := by omega
   subst this
   exact ⟨h2, a, b⟩
theorem below_ok {xs : Array Nat} (hr : Ris xs) (j : Nat) : below xs j ≤ xs.size ∧ (∀ i u, i < below xs j → xs[i]? = some u → u < j) ∧ ∀ i u, below xs j ≤ i → xs[i]? = some u → j ≤ u :=
 below_go hr xs.size 0 xs.size (Nat.zero_le _) (Nat.le_refl _) (Nat.le_refl _) (fun i u h => absurd h (Nat.not_lt_zero _)) (fun i u h q => by have := get_lt q; omega)
theorem Ris.inj {xs : Array Nat} (hr : Ris xs) {i k u : Nat} (a : xs[i]? = some u) (b : xs[k]? = some u) : i = k := by
 rcases Nat.lt_trichotomy i k with q | q | q
 ·have := hr _ _ _ _ q a b; omega
 ·exact q
 ·have := hr _ _ _ _ q b a; omega
theorem below_at {xs : Array Nat} (hr : Ris xs) {i j : Nat} (h : xs[i]? = some j) : below xs j = i := by
 obtain ⟨h1, h2, h3⟩ := below_ok hr j
 rcases Nat.lt_trichotomy (below xs j) i with q | q | q
 ·obtain ⟨v, hv⟩ : ∃ v, xs[below xs j]? = some v := ⟨_, Array.getElem?_eq_getElem (Nat.lt_trans q (get_lt h))⟩
  have := h3 _ _ (Nat.le_refl _) hv
  have := hr _ _ _ _ q hv h
  omega
 ·exact q
 ·have := h2 _ _ q h; omega
noncomputable def sl (t : SetTable) (j : Nat) : Option Nat := match t.slot j with | .live i => some i | _ => none
theorem has_none (j : Nat) : has #[] j = false := by
 unfold has
 simp
theorem slot_of {t : SetTable} (hd : t.dummies = #[]) (hr : Ris t.place) (j : Nat) :
  (∃ i : Nat, t.place[i]? = some j ∧ t.slot j = .live i ∧ sl t j = some i) ∨ ((∀ i : Nat, t.place[i]? ≠ some j) ∧ t.slot j = .empty ∧ sl t j = none) := by
 by_cases h : ∃ i : Nat, t.place[i]? = some j
 ·obtain ⟨i, hi⟩ := h
  have e : t.slot j = .live i := by
   unfold slot
   rw [below_at hr hi]
   dsimp only
   rw [hi]
   simp
  exact .inl ⟨i, hi, e, by unfold sl; rw [e]⟩
 ·have h' : ∀ i : Nat, t.place[i]? ≠ some j := fun i q => h ⟨i, q⟩
  have e : t.slot j = .empty := by
   unfold slot
   have : (t.place[below t.place j]? == some j) = false := by
    cases q : (t.place[below t.place j]? == some j)
    ·rfl
    ·exact absurd (eq_of_beq q) (h' _)
   simp only [this, hd, has_none]
   simp
  exact .inr ⟨h', e, by unfold sl; rw [e]⟩
theorem sl_some {t : SetTable} (hd : t.dummies = #[]) (hr : Ris t.place) {j i : Nat} : sl t j = some i ↔ t.place[i]? = some j := by
 rcases slot_of hd hr j with ⟨k, a, _, b⟩ | ⟨a, _, b⟩
 ·rw [b]
  constructor
  ·intro q; cases q; exact a
  ·intro q; rw [hr.inj q a]
 ·rw [b]
  constructor
  ·intro q; cases q
  ·intro q; exact absurd q (a i)
theorem slot_live {t : SetTable} (hd : t.dummies = #[]) (hr : Ris t.place) {j i : Nat} (h : sl t j = some i) : t.slot j = .live i := by
 rcases slot_of hd hr j with ⟨k, a, c, b⟩ | ⟨a, _, b⟩
 ·rw [b] at h; cases h; exact c
 ·rw [b] at h; cases h
theorem slot_empty {t : SetTable} (hd : t.dummies = #[]) (hr : Ris t.place) {j : Nat} (h : sl t j = none) : t.slot j = .empty := by
 rcases slot_of hd hr j with ⟨k, a, c, b⟩ | ⟨a, c, b⟩
 ·rw [b] at h; cases h
 ·exact c
structure Tab (es : Array (Int × Value)) (t : SetTable) : Prop where
 sz : t.place.size = es.size
 dm : t.dummies = #[]
 ris : Ris t.place
 le : ∀ i j : Nat, t.place[i]? = some j → j ≤ t.mask
 m : GoodM t.mask
 room : es.size * 5 < t.mask * 3
 reach : ∀ (i : Nat) (h : Int) (x : Value), es[i]? = some (h, x) → ∀ l e, Way t.mask (sl t) (t.probeStart h) l e → i ∈ l
theorem Tab.fill {es : Array (Int × Value)} {t : SetTable} (T : Tab es t) : t.fill = es.size := by
 unfold SetTable.fill; rw [T.dm, T.sz]; rfl
theorem Tab.fits {es : Array (Int × Value)} {t : SetTable} (T : Tab es t) : t.fits es.size = true := by
 unfold SetTable.fits
 rw [T.fill, T.sz]
 have := T.room
 simp
 omega
theorem Tab.odd {es : Array (Int × Value)} {t : SetTable} (T : Tab es t) : t.gaveWay = false := by
 unfold SetTable.gaveWay
 rcases T.m with h | h <;> rw [h] <;> rfl
theorem free_ex {t : SetTable} (hd : t.dummies = #[]) (hr : Ris t.place) (hs : t.place.size ≤ t.mask) : ∃ e, e ≤ t.mask ∧ sl t e = none := by
 apply Classical.byContradiction
 intro hn
 have all : ∀ e, e ≤ t.mask → ∃ i : Nat, t.place[i]? = some e := fun e he => by
  rcases slot_of hd hr e with ⟨k, a, _, _⟩ | ⟨_, _, b⟩
  ·exact ⟨k, a⟩
  ·exact absurd ⟨e, he, b⟩ hn
 have up : ∀ e, e ≤ t.mask → ∃ i : Nat, e ≤ i ∧ t.place[i]? = some e := by
  intro e
  induction e with
  | zero => intro he; obtain ⟨i, hi⟩ := all 0 he; exact ⟨i, Nat.zero_le _, hi⟩
  | succ e ih =>
   intro he
   obtain ⟨i, h1, h2⟩ := ih (by omega)
   obtain ⟨k, hk⟩ := all (e + 1) he
   refine ⟨k, ?_, hk⟩
   rcases Nat.lt_trichotomy k i with q | q | q
   ·have := hr _ _ _ _ q hk h2; omega
   ·subst q; rw [h2] at hk; cases hk
   ·omega
 obtain ⟨i, h1, h2⟩ := up t.mask (Nat.le_refl _)
 have := get_lt h2
 omega
theorem Tab.way {es : Array (Int × Value)} {t : SetTable} (T : Tab es t) (h : Int) : ∃ l e, Way t.mask (sl t) (t.probeStart h) l e ∧ l.length < 10 * turns t.mask := by
 obtain ⟨e, he, hf⟩ := free_ex T.dm T.ris (by rw [T.sz]; have := T.room; omega)
 exact way_start T.m he hf h
theorem start_le (t : SetTable) (h : Int) : (t.probeStart h).j + (t.probeStart h).more ≤ t.mask := by
 rw [start_eq]
 exact blk_le (Nat.le_of_lt_succ (Nat.mod_lt _ (Nat.succ_pos _)))
theorem ig {α : Type} {xs : Array α} {p : Nat} {x : α} (hp : p ≤ xs.size) (i : Nat) :
  (insertAt xs p x)[i]? = if i < p then xs[i]? else if i = p then some x else xs[i - 1]? := by
 have e : (insertAt xs p x)[i]? = (xs.toList.take p ++ x :: xs.toList.drop p)[i]? := by
  rw [← Array.getElem?_toList]
  congr 1
  simp [insertAt, List.extract_eq_take_drop, List.take_of_length_le]
 rw [e]
 have hl : (xs.toList.take p).length = p := by rw [List.length_take]; simp; omega
 by_cases h1 : i < p
 ·rw [if_pos h1, List.getElem?_append_left (by rw [hl]; exact h1), List.getElem?_take_of_lt h1, Array.getElem?_toList]
 ·rw [if_neg h1, List.getElem?_append_right (by rw [hl]; omega), hl]
  by_cases h2 : i = p
  ·rw [if_pos h2, h2, Nat.sub_self]; rfl
  ·rw [if_neg h2]
   obtain ⟨k, hk⟩ : ∃ k, i - p = k + 1 := ⟨i - p - 1, by omega⟩
   rw [hk, List.getElem?_cons_succ, List.getElem?_drop, Array.getElem?_toList]
   congr 1; omega
theorem gJ {α : Type} {xs : Array α} {p : Nat} {x : α} (hp : p ≤ xs.size) : (insertAt xs p x).size = xs.size + 1 := by
 have e : (insertAt xs p x).toList = xs.toList.take p ++ x :: xs.toList.drop p := by
  simp [insertAt, List.extract_eq_take_drop, List.take_of_length_le]
 rw [← Array.length_toList, e]
 simp; omega
structure Tab0 (es : Array (Int × Value)) (t : SetTable) : Prop where
 sz : t.place.size = es.size
 dm : t.dummies = #[]
 ris : Ris t.place
 le : ∀ i j : Nat, t.place[i]? = some j → j ≤ t.mask
 m : GoodM t.mask
 reach : ∀ (i : Nat) (h : Int) (x : Value), es[i]? = some (h, x) → ∀ l e, Way t.mask (sl t) (t.probeStart h) l e → i ∈ l
theorem Tab0.tab {es : Array (Int × Value)} {t : SetTable} (T : Tab0 es t) (h : es.size * 5 < t.mask * 3) : Tab es t := ⟨T.sz, T.dm, T.ris, T.le, T.m, h, T.reach⟩
theorem put_eq {es : Array (Int × Value)} {t : SetTable} (T : Tab es t) (e : Nat) : t.put e = ({ t with place := insertAt t.place (below t.place e) e }, below t.place e) := by
 unfold put
 rw [T.dm, has_none]
 cases t
 have := T.dm
 dsimp only at this
 subst this
 rfl
theorem Tab.put {es : Array (Int × Value)} {t : SetTable} (T : Tab es t) {h : Int} {x : Value} {l : List Nat} {e : Nat} (w : Way t.mask (sl t) (t.probeStart h) l e) :
  Tab0 (insertAt es (below t.place e) (h, x)) { t with place := insertAt t.place (below t.place e) e } := by
 obtain ⟨b1, b2, b3⟩ := below_ok T.ris e
 have hfree := w.free
 have hno : ∀ i : Nat, t.place[i]? ≠ some e := fun i q => by rw [(sl_some T.dm T.ris).2 q] at hfree; cases hfree
 have hle : e ≤ t.mask := w.le (start_le t h)
 have hpe : below t.place e ≤ es.size := by rw [← T.sz]; exact b1
 have hris : Ris (insertAt t.place (below t.place e) e) := by
  intro i k u v hik hu hv
  rw [ig b1] at hu hv
  by_cases i1 : i < below t.place e
  ·rw [if_pos i1] at hu
   by_cases k1 : k < below t.place e
   ·rw [if_pos k1] at hv; exact T.ris _ _ _ _ hik hu hv
   ·rw [if_neg k1] at hv
    by_cases k2 : k = below t.place e
    ·rw [if_pos k2] at hv; cases hv; exact b2 _ _ i1 hu
    ·rw [if_neg k2] at hv; exact T.ris _ _ _ _ (by omega) hu hv
  ·rw [if_neg i1] at hu
   rw [if_neg (by omega)] at hv
   rw [if_neg (by omega)] at hv
   by_cases i2 : i = below t.place e
   ·rw [if_pos i2] at hu; cases hu
    have := b3 _ _ (by omega) hv
    rcases Nat.lt_or_ge e v with q | q
    ·exact q
    ·have : e = v := by omega
     subst this
     exact absurd hv (hno _)
   ·rw [if_neg i2] at hu
    exact T.ris _ _ _ _ (by omega) hu hv
 refine ⟨?_, T.dm, hris, ?_, T.m, ?_⟩
 ·show (insertAt t.place _ e).size = _
  rw [gJ b1, gJ hpe, T.sz]
 ·intro i j hj
  have hj' : (insertAt t.place (below t.place e) e)[i]? = some j := hj
  rw [ig b1] at hj'
  split at hj'
  ·exact T.le _ _ hj'
  ·split at hj'
   ·cases hj'; exact hle
   ·exact T.le _ _ hj'
 ·intro i h' x' hi l' e' w'
  have hs1 : sl { t with place := insertAt t.place (below t.place e) e } e = some (below t.place e) :=
   (sl_some (t := { t with place := insertAt t.place (below t.place e) e }) T.dm hris).2 (by
    show (insertAt t.place (below t.place e) e)[below t.place e]? = some e
    rw [ig b1, if_neg (Nat.lt_irrefl _), if_pos rfl])
  have hs2 : ∀ j, j ≠ e → sl { t with place := insertAt t.place (below t.place e) e } j = (sl t j).map fun i => if i < below t.place e then i else i + 1 := by
   intro j hj
   rcases slot_of T.dm T.ris j with ⟨k, a, _, b⟩ | ⟨a, _, b⟩
   ·rw [b]
    refine (sl_some (t := { t with place := insertAt t.place (below t.place e) e }) T.dm hris).2 ?_
    show (insertAt t.place (below t.place e) e)[if k < below t.place e then k else k + 1]? = some j
    rw [ig b1]
    split
    ·exact a
    ·rename_i hk; rw [if_neg (by omega), if_neg (by omega)]; exact a
   ·rw [b]
    rcases slot_of (t := { t with place := insertAt t.place (below t.place e) e }) T.dm hris j with ⟨k, a', _, b'⟩ | ⟨a', _, b'⟩
    ·exfalso
     have a2 : (insertAt t.place (below t.place e) e)[k]? = some j := a'
     rw [ig b1] at a2
     split at a2
     ·exact a _ a2
     ·split at a2
      ·cases a2; exact hj rfl
      ·exact a _ a2
    ·rw [b']; rfl
  rw [ig hpe] at hi
  by_cases i1 : i < below t.place e
  ·rw [if_pos i1] at hi
   obtain ⟨l0, e0, w0, _⟩ := T.way h'
   have := (w0.more hfree hs1 hs2 w').1 i (T.reach i h' x' hi _ _ w0)
   rwa [if_pos i1] at this
  ·rw [if_neg i1] at hi
   by_cases i2 : i = below t.place e
   ·rw [if_pos i2] at hi
    cases hi
    rw [i2]
    exact (w.more hfree hs1 hs2 w').2 rfl
   ·rw [if_neg i2] at hi
    obtain ⟨l0, e0, w0, _⟩ := T.way h'
    have := (w0.more hfree hs1 hs2 w').1 (i - 1) (T.reach (i - 1) h' x' hi _ _ w0)
    rw [if_neg (by omega)] at this
    rwa [show i - 1 + 1 = i by omega] at this
end STb
namespace STb
open PySem PySem.SetTable
theorem pigeon : ∀ (n : Nat) (f : Nat → Nat), (∀ i j, i ≤ n → j ≤ n → f i = f j → i = j) → (∀ i, i ≤ n → f i < n) → False
 | 0, f, _, hl => absurd (hl 0 (Nat.le_refl _)) (Nat.not_lt_zero _)
 | n + 1, f, hi, hl => by
  refine pigeon n (fun i => if f i = n then f (n + 1) else f i) (fun i j h1 h2 h => ?_) (fun i h1 => ?_)
  ·have a1 : f i ≠ f (n + 1) := fun q => by have := hi i (n + 1) (by omega) (by omega) q; omega
   have a2 : f j ≠ f (n + 1) := fun q => by have := hi j (n + 1) (by omega) (by omega) q; omega
   have a3 := hi i j (by omega) (by omega)
   split at h
   ·split at h
    ·exact a3 (by omega)
    ·exact absurd h.symm a2
   ·split at h
    ·exact absurd h a1
    ·exact a3 h
  ·have a1 : f i ≠ f (n + 1) := fun q => by have := hi i (n + 1) (by omega) (by omega) q; omega
   have a2 := hl i (by omega)
   have a3 := hl (n + 1) (by omega)
   split <;> omega
noncomputable def osl (ow : Array (Option Nat)) (j : Nat) : Option Nat := ow.getD j none
structure Own (m : Nat) (hs : List Int) (ow : Array (Option Nat)) : Prop where
 sz : ow.size = m + 1
 lt : ∀ j k : Nat, osl ow j = some k → k < hs.length
 inj : ∀ j j' k : Nat, osl ow j = some k → osl ow j' = some k → j = j'
 ex : ∀ k : Nat, k < hs.length → ∃ j, osl ow j = some k
 reach : ∀ (k : Nat) (h : Int), hs[k]? = some h → ∀ l e, Way m (osl ow) (blk m (bits h % (m + 1)) (bits h)) l e → k ∈ l
theorem osl_le {m : Nat} {ow : Array (Option Nat)} (hs : ow.size = m + 1) {j k : Nat} (h : osl ow j = some k) : j ≤ m := by
 unfold osl at h
 rcases Nat.lt_or_ge j ow.size with q | q
 ·omega
 ·rw [Array.getD_eq_getD_getElem?, Array.getElem?_eq_none q] at h; cases h
theorem own_free {m : Nat} {hs : List Int} {ow : Array (Option Nat)} (O : Own m hs ow) (hl : hs.length ≤ m) : ∃ e, e ≤ m ∧ osl ow e = none := by
 apply Classical.byContradiction
 intro hn
 have all : ∀ e, e ≤ m → ∃ k, osl ow e = some k := fun e he => by
  cases q : osl ow e with
  | none => exact absurd ⟨e, he, q⟩ hn
  | some k => exact ⟨k, rfl⟩
 refine pigeon m (fun e => (osl ow e).getD 0) (fun i j hi hj h => ?_) (fun i hi => ?_)
 ·obtain ⟨k, hk⟩ := all i hi
  obtain ⟨k', hk'⟩ := all j hj
  rw [hk, hk'] at h
  have : k = k' := h
  subst this
  exact O.inj _ _ _ hk hk'
 ·obtain ⟨k, hk⟩ := all i hi
  rw [hk]
  exact Nat.lt_of_lt_of_le (O.lt _ _ hk) hl
theorem iC {ow : Array (Option Nat)} {j : Nat} (h : j < ow.size) : (ow.getD j (some 0)).isNone = (osl ow j).isNone := by
 unfold osl
 rw [Array.getD_eq_getD_getElem?, Array.getD_eq_getD_getElem?, Array.getElem?_eq_getElem h]; rfl
theorem free_way {m : Nat} {ow : Array (Option Nat)} (hz : ow.size = m + 1) : ∀ (fuel i q j : Nat), i ≤ m → layClean.free m ow fuel i q = some j → ∃ l, Way m (osl ow) (blk m i q) l j
 | 0, i, q, j, hi, h => by unfold layClean.free at h; cases h
 | fuel + 1, i, q, j, hi, h => by
  unfold layClean.free at h
  have hrun : ∀ r j0 : Nat, j0 + r ≤ m → ∀ k, (List.range (r + 1)).find? (fun k => (ow.getD (j0 + k) (some 0)).isNone) = some k → ∃ l, Way m (osl ow) ⟨j0, r, i, q, none⟩ l (j0 + k) := by
   intro r
   induction r with
   | zero =>
    intro j0 hj k hk
    have h1 := List.find?_some hk
    have h2 : k ∈ List.range (0 + 1) := List.mem_of_find?_eq_some hk
    rw [List.mem_range] at h2
    have : k = 0 := by omega
    subst this
    rw [iC (by rw [hz]; omega)] at h1
    exact ⟨[], .stop (p := ⟨j0, 0, i, q, none⟩) (by simpa using h1)⟩
   | succ r ih =>
    intro j0 hj k hk
    rw [List.range_succ_eq_map, List.find?_cons] at hk
    cases hs : osl ow j0 with
    | none =>
     rw [iC (by rw [hz]; omega), Nat.add_zero, hs] at hk
     cases hk
     exact ⟨[], .stop (p := ⟨j0, r + 1, i, q, none⟩) hs⟩
    | some x =>
     rw [iC (by rw [hz]; omega), Nat.add_zero, hs] at hk
     simp only [Option.isNone_some, List.find?_map] at hk
     cases hf : (List.range (r + 1)).find? (fun k => (ow.getD (j0 + 1 + k) (some 0)).isNone) with
     | none =>
      have : (List.range (r + 1)).find? ((fun k => (ow.getD (j0 + k) (some 0)).isNone) ∘ Nat.succ) = none := by
       rw [← hf]; congr 1; funext k; show (ow.getD (j0 + (k + 1)) (some 0)).isNone = _; rw [show j0 + (k + 1) = j0 + 1 + k by omega]
      rw [this] at hk; cases hk
     | some k' =>
      have : (List.range (r + 1)).find? ((fun k => (ow.getD (j0 + k) (some 0)).isNone) ∘ Nat.succ) = some k' := by
       rw [← hf]; congr 1; funext k; show (ow.getD (j0 + (k + 1)) (some 0)).isNone = _; rw [show j0 + (k + 1) = j0 + 1 + k by omega]
      rw [this] at hk
      have : k = k' + 1 := by cases hk; rfl
      subst this
      obtain ⟨l, w⟩ := ih (j0 + 1) (by omega) k' hf
      exact ⟨x :: l, .live (p := ⟨j0, r + 1, i, q, none⟩) hs (by rw [show j0 + (k' + 1) = j0 + 1 + k' by omega]; exact w)⟩
  have hre : i ≤ runEnd m i := by unfold runEnd; split <;> omega
  have hrm : runEnd m i ≤ m := by unfold runEnd; split <;> omega
  have hn : runEnd m i + 1 - i = (runEnd m i - i) + 1 := by omega
  rw [hn] at h
  cases hf : (List.range (runEnd m i - i + 1)).find? (fun k => (ow.getD (i + k) (some 0)).isNone) with
  | some k =>
   rw [hf] at h
   have : j = i + k := by cases h; rfl
   subst this
   exact hrun _ i (by omega) k hf
  | none =>
   rw [hf] at h
   obtain ⟨l, w⟩ := free_way hz fuel _ _ j (leap_le m i q) h
   rcases run (m := m) (sl := osl ow) (i := i) (q := q) (runEnd m i - i) i with ⟨l', e', w', hl'⟩ | ⟨_, hw⟩
   ·exfalso
    have key : ∀ (r j0 : Nat) (l' : List Nat) (e' : Nat), j0 + r ≤ m → (∀ k, k ≤ r → (osl ow (j0 + k)).isNone = false) → Way m (osl ow) ⟨j0, r, i, q, none⟩ l' e' → r + 1 ≤ l'.length := by
     intro r
     induction r with
     | zero =>
      intro j0 l' e' _ ha w
      cases w with
      | stop hs => have := ha 0 (Nat.le_refl _); rw [Nat.add_zero, hs] at this; cases this
      | live _ _ => simp
     | succ r ih =>
      intro j0 l' e' hj ha w
      cases w with
      | stop hs => have := ha 0 (Nat.zero_le _); rw [Nat.add_zero, hs] at this; cases this
      | live _ w2 =>
       have := ih (j0 + 1) _ _ (by omega) (fun k hk => by have := ha (k + 1) (by omega); rwa [show j0 + 1 + k = j0 + (k + 1) by omega]) w2
       simp; omega
    have := key _ i l' e' (by omega) (fun k hk => by
     rw [← iC (by rw [hz]; omega)]
     have := List.find?_eq_none.mp hf k (List.mem_range.mpr (by omega))
     exact Bool.eq_false_iff.mpr this) w'
    omega
   ·obtain ⟨l2, w2, _⟩ := hw l j w
    exact ⟨l2, w2⟩
theorem free_ex2 {m e0 : Nat} {ow : Array (Option Nat)} (hz : ow.size = m + 1) (hf : osl ow e0 = none) (he : e0 ≤ m) : ∀ (k fuel i q : Nat), k < fuel → meets m e0 k i q = true → ∃ j, layClean.free m ow fuel i q = some j
 | k, 0, i, q, hk, h => absurd hk (Nat.not_lt_zero _)
 | k, fuel + 1, i, q, hk, h => by
  unfold layClean.free
  cases hs : (List.range (runEnd m i + 1 - i)).find? (fun k => (ow.getD (i + k) (some 0)).isNone) with
  | some k => exact ⟨i + k, rfl⟩
  | none =>
   dsimp only
   have hne : i ≠ e0 := fun z => by
    subst z
    have := List.find?_eq_none.mp hs 0 (List.mem_range.mpr (by unfold runEnd; split <;> omega))
    rw [Nat.add_zero, iC (by rw [hz]; omega), hf] at this
    exact this rfl
   cases k with
   | zero => exact absurd (by simpa [meets] using h) hne
   | succ k =>
    have h' : (i == e0 || meets m e0 k (leap m i q).1 (leap m i q).2) = true := h
    rw [Bool.or_eq_true] at h'
    rcases h' with h' | h'
    ·exact absurd (by simpa using h') hne
    ·exact free_ex2 hz hf he k fuel _ _ (by omega) h'
theorem osl_set {ow : Array (Option Nat)} {j k : Nat} (hj : j < ow.size) (j' : Nat) : osl (ow.setIfInBounds j (some k)) j' = if j' = j then some k else osl ow j' := by
 unfold osl
 rw [Array.getD_eq_getD_getElem?, Array.getD_eq_getD_getElem?, Array.getElem?_setIfInBounds]
 by_cases h : j' = j
 ·subst h; simp [hj]
 ·rw [if_neg (fun z => h z.symm), if_neg h]
theorem own_step {m : Nat} {hs : List Int} {ow : Array (Option Nat)} (hm : m = 31) (O : Own m hs ow) (hl : hs.length ≤ m) (h : Int) :
  ∃ j, layClean.free m ow (turns m) (bits h % (m + 1)) (bits h) = some j ∧ Own m (hs ++ [h]) (ow.setIfInBounds j (some hs.length)) := by
 obtain ⟨e, he, hf⟩ := own_free O hl
 have hi : bits h % (m + 1) ≤ m := Nat.le_of_lt_succ (Nat.mod_lt _ (Nat.succ_pos m))
 obtain ⟨j, hj⟩ := free_ex2 O.sz hf he 44 (turns m) _ _ (by unfold turns; omega) (meets_all h (.inr hm) he hi)
 obtain ⟨l, w⟩ := free_way O.sz _ _ _ _ hi hj
 have hjm : j ≤ m := w.le (blk_le hi)
 have hjs : j < ow.size := by rw [O.sz]; omega
 have hfr := w.free
 have hset := fun j' => osl_set (k := hs.length) hjs j'
 refine ⟨j, hj, ⟨by simp [O.sz], ?_, ?_, ?_, ?_⟩⟩
 ·intro j' k hk
  rw [hset] at hk
  rw [List.length_append]
  show k < hs.length + 1
  split at hk
  ·cases hk; omega
  ·have := O.lt _ _ hk; omega
 ·intro a b k ha hb
  rw [hset] at ha hb
  split at ha
  ·split at hb
   ·omega
   ·cases ha; have := O.lt _ _ hb; omega
  ·split at hb
   ·cases hb; have := O.lt _ _ ha; omega
   ·exact O.inj _ _ _ ha hb
 ·intro k hk
  rw [List.length_append] at hk
  have hk' : k < hs.length + 1 := hk
  by_cases q : k = hs.length
  ·exact ⟨j, by rw [hset, if_pos rfl, q]⟩
  ·obtain ⟨j', hj'⟩ := O.ex k (by omega)
   refine ⟨j', ?_⟩
   rw [hset, if_neg (fun z => by rw [z, hfr] at hj'; cases hj')]
   exact hj'
 ·intro k h' hk l' e' w'
  have hs1 : osl (ow.setIfInBounds j (some hs.length)) j = some hs.length := by rw [hset, if_pos rfl]
  have hs2 : ∀ j', j' ≠ j → osl (ow.setIfInBounds j (some hs.length)) j' = (osl ow j').map id := fun j' q => by rw [hset, if_neg q, Option.map_id]; rfl
  by_cases q : k < hs.length
  ·rw [List.getElem?_append_left q] at hk
   obtain ⟨l0, e0, w0, _⟩ := way_start (m := m) (sl := osl ow) (.inr hm) he hf h'
   exact (w0.more hfr hs1 hs2 w').1 k (O.reach k h' hk _ _ w0)
  ·rw [List.getElem?_append_right (by omega)] at hk
   have hkk : k = hs.length := by
    rcases Nat.lt_or_ge (k - hs.length) 1 with z | z
    ·omega
    ·rw [List.getElem?_eq_none (by simpa using z)] at hk; cases hk
   subst hkk
   rw [Nat.sub_self] at hk
   cases hk
   exact (w.more hfr hs1 hs2 w').2 rfl
theorem own_nil (m : Nat) : Own m [] (Array.replicate (m + 1) none) := by
 have h0 : ∀ j, osl (Array.replicate (m + 1) none) j = none := fun j => by
  unfold osl
  rw [Array.getD_eq_getD_getElem?, Array.getElem?_replicate]
  split <;> rfl
 refine ⟨by simp, fun j k h => ?_, fun j j' k h => ?_, fun k hk => ?_, fun k h hk => ?_⟩
 ·rw [h0] at h; cases h
 ·rw [h0] at h; cases h
 ·exact absurd hk (Nat.not_lt_zero _)
 ·cases hk
theorem lay_fold {m : Nat} (hm : m = 31) : ∀ (todo done : List Int) (ow : Array (Option Nat)), Own m done ow → done.length + todo.length ≤ m →
  ∃ ow', todo.foldl (fun acc h => do
   let (owner, k) ← acc
   let j ← layClean.free m owner (turns m) (bits h % (m + 1)) (bits h)
   pure (owner.setIfInBounds j (some k), k + 1)) (some (ow, done.length)) = some (ow', done.length + todo.length) ∧ Own m (done ++ todo) ow'
 | [], done, ow, O, _ => ⟨ow, rfl, by rw [List.append_nil]; exact O⟩
 | h :: todo, done, ow, O, hl => by
  rw [List.length_cons] at hl
  obtain ⟨j, hj, O'⟩ := own_step hm O (by omega) h
  obtain ⟨ow', e, O2⟩ := lay_fold hm todo (done ++ [h]) _ O' (by rw [List.length_append, List.length_singleton]; omega)
  refine ⟨ow', ?_, by rw [List.append_assoc] at O2; exact O2⟩
  rw [List.foldl_cons]
  simp only [Option.bind_eq_bind, Option.bind_some, hj, List.length_append, List.length_singleton, Option.pure_def] at e ⊢
  rw [e, List.length_cons]
  congr 2; omega
theorem layClean_ok {m : Nat} (hm : m = 31) (hs : Array Int) (hl : hs.size ≤ m) : ∃ ow, layClean m hs = some ow ∧ Own m hs.toList ow := by
 obtain ⟨ow, e, O⟩ := lay_fold hm hs.toList [] _ (own_nil m) (by simpa using hl)
 refine ⟨ow, ?_, by simpa using O⟩
 unfold layClean
 rw [← Array.foldl_toList]
 have e' := e
 simp only [List.length_nil] at e'
 rw [e']
 rfl
end STb
namespace STb
open PySem PySem.SetTable
noncomputable def lives (m : Nat) (ow : Array (Option Nat)) : List (Nat × Nat) := (List.range (m + 1)).filterMap fun j => (ow.getD j none).map (j, ·)
theorem mem_lives {m : Nat} {ow : Array (Option Nat)} (hz : ow.size = m + 1) (j k : Nat) : (j, k) ∈ lives m ow ↔ osl ow j = some k := by
 unfold lives
 rw [List.mem_filterMap]
 constructor
 ·rintro ⟨i, _, h⟩
  cases q : ow.getD i none with
  | none => rw [q] at h; cases h
  | some x =>
   rw [q] at h
   have h1 : i = j := congrArg Prod.fst (Option.some.inj h)
   have h2 : x = k := congrArg Prod.snd (Option.some.inj h)
   rw [← h1, ← h2]; exact q
 ·intro h
  refine ⟨j, List.mem_range.mpr (by have := osl_le hz h; omega), ?_⟩
  have : ow.getD j none = some k := h
  rw [this]; rfl
theorem lives_rise (m : Nat) (ow : Array (Option Nat)) : (lives m ow).Pairwise (fun a b => a.1 < b.1) := by
 unfold lives
 rw [List.pairwise_filterMap]
 refine List.Pairwise.imp ?_ (List.pairwise_lt_range (n := m + 1))
 intro a b hab x hx y hy
 cases q : ow.getD a none with
 | none => rw [q] at hx; cases hx
 | some u =>
  cases q' : ow.getD b none with
  | none => rw [q'] at hy; cases hy
  | some v =>
   rw [q] at hx; rw [q'] at hy
   have h1 : (a, u) = x := Option.some.inj hx
   have h2 : (b, v) = y := Option.some.inj hy
   rw [← h1, ← h2]; exact hab
theorem lives_order {m : Nat} {hs : List Int} {ow : Array (Option Nat)} (O : Own m hs ow) : List.Perm ((lives m ow).map (·.2)) (List.range hs.length) := by
 rw [List.perm_ext_iff_of_nodup]
 ·intro k
  rw [List.mem_map, List.mem_range]
  constructor
  ·rintro ⟨⟨j, k'⟩, h, rfl⟩
   exact O.lt j k' ((mem_lives O.sz j k').mp h)
  ·intro h
   obtain ⟨j, hj⟩ := O.ex k h
   exact ⟨(j, k), (mem_lives O.sz j k).mpr hj, rfl⟩
 ·unfold List.Nodup
  rw [List.pairwise_map]
  refine List.Pairwise.imp_of_mem ?_ (lives_rise m ow)
  rintro ⟨a, k⟩ ⟨b, k'⟩ ha hb hab z
  have z' : k = k' := z
  subst z'
  have := O.inj _ _ _ ((mem_lives O.sz _ _).mp ha) ((mem_lives O.sz _ _).mp hb)
  have hab' : a < b := hab
  omega
 ·exact List.nodup_range
theorem Way.mem {m : Nat} {sl : Nat → Option Nat} {p : Probe} {l : List Nat} {e : Nat} (w : Way m sl p l e) : ∀ i ∈ l, ∃ j, sl j = some i := by
 induction w with
 | stop _ => intro i hi; cases hi
 | live h _ ih =>
  intro i hi
  rcases List.mem_cons.mp hi with rfl | hi
  ·exact ⟨_, h⟩
  ·exact ih i hi
theorem relaid_ok {es : Array (Int × Value)} {t : SetTable} (hsz : es.size ≤ 18) (wanted : Nat) (hw : sizeAbove wanted = 32) :
  ∃ t' order, t.relaid (es.map (·.1)) wanted = some (t', order) ∧ (order.filterMap (es[·]?)).size = es.size ∧ List.Perm (order.filterMap (es[·]?)).toList es.toList ∧
   Tab (order.filterMap (es[·]?)) t' ∧ t'.mask = 31 ∧ t'.led = t.led ∧ t'.plain = t.plain := by
 obtain ⟨ow, hlay, O⟩ := layClean_ok rfl (es.map (·.1)) (by simp; omega)
 have hlen : (es.map (·.1)).toList.length = es.size := by simp
 have hp := lives_order O
 rw [hlen] at hp
 have hmem := fun j k => mem_lives O.sz j k
 have hris := lives_rise 31 ow
 generalize hL : lives 31 ow = L at hp hmem hris
 have hLlen : L.length = es.size := by have := hp.length_eq; simpa using this
 have hat : ∀ n j k : Nat, L[n]? = some (j, k) → osl ow j = some k := fun n j k h => (hmem j k).mp (List.mem_of_getElem? h)
 have hval : ∀ k, k ∈ L.map (·.2) → k < es.size := fun k hk => List.mem_range.mp (hp.mem_iff.mp hk)
 have hfm : (L.map (·.2)).filterMap (fun k => es[k]?) = (L.map (·.2)).map (fun k => (es[k]?).getD (0, .none)) := by
  have : ∀ l : List Nat, (∀ k ∈ l, k < es.size) → l.filterMap (fun k => es[k]?) = l.map (fun k => (es[k]?).getD (0, .none)) := by
   intro l
   induction l with
   | nil => intro _; rfl
   | cons a l ih =>
    intro h
    rw [List.map_cons, ← ih (fun k hk => h k (List.mem_cons_of_mem _ hk)), List.filterMap_cons_some (b := (es[a]?).getD (0, .none))]
    rw [Array.getElem?_eq_getElem (h a List.mem_cons_self)]; rfl
  exact this _ hval
 have hes : ((L.map (·.2)).toArray.filterMap (es[·]?)).toList = L.map (fun q => (es[q.2]?).getD (0, .none)) := by
  rw [Array.toList_filterMap]
  show (L.map (·.2)).filterMap (fun k => es[k]?) = _
  rw [hfm, List.map_map]; rfl
 have hss : ((L.map (·.2)).toArray.filterMap (es[·]?)).size = es.size := by
  rw [← Array.length_toList, hes, List.length_map, hLlen]
 have hget : ∀ (n : Nat) (q : Int × Value), ((L.map (·.2)).toArray.filterMap (es[·]?))[n]? = some q → ∃ j k : Nat, L[n]? = some (j, k) ∧ es[k]? = some q := by
  intro n q h
  rw [← Array.getElem?_toList, hes, List.getElem?_map] at h
  cases hq : L[n]? with
  | none => rw [hq] at h; cases h
  | some jk =>
   obtain ⟨j, k⟩ := jk
   rw [hq] at h
   have hk : k < es.size := hval k (List.mem_map.mpr ⟨(j, k), List.mem_of_getElem? hq, rfl⟩)
   have h' : (es[k]?).getD (0, .none) = q := Option.some.inj h
   rw [Array.getElem?_eq_getElem hk] at h'
   exact ⟨j, k, rfl, by rw [Array.getElem?_eq_getElem hk]; exact congrArg some h'⟩
 have hpl : ∀ n j : Nat, (L.map (·.1)).toArray[n]? = some j ↔ ∃ k, L[n]? = some (j, k) := by
  intro n j
  rw [← Array.getElem?_toList]
  show (L.map (·.1))[n]? = some j ↔ _
  rw [List.getElem?_map]
  cases hq : L[n]? with
  | none => exact ⟨fun h => (by cases h), fun ⟨k, h⟩ => (by cases h)⟩
  | some jk =>
   obtain ⟨j', k⟩ := jk
   exact ⟨fun h => by have : j' = j := Option.some.inj h; exact ⟨k, by rw [this]⟩, fun ⟨k', h⟩ => by cases h; rfl⟩
 have hR : Ris (L.map (·.1)).toArray := by
  intro i k u v hik hu hv
  obtain ⟨a, ha⟩ := (hpl _ _).mp hu
  obtain ⟨b, hb⟩ := (hpl _ _).mp hv
  have hi := List.getElem?_eq_some_iff.mp ha
  have hk := List.getElem?_eq_some_iff.mp hb
  obtain ⟨h1, e1⟩ := hi
  obtain ⟨h2, e2⟩ := hk
  have := List.pairwise_iff_getElem.mp hris i k h1 h2 hik
  rw [e1, e2] at this
  exact this
 refine ⟨{ mask := 31, place := (L.map (·.1)).toArray, dummies := #[], finger := t.finger, led := t.led, moves := t.movedTo 31, plain := t.plain }, (L.map (·.2)).toArray, ?_, hss, ?_, ?_, rfl, rfl, rfl⟩
 ·unfold relaid laid
  rw [hw, hlay]
  have : (List.range (32 - 1 + 1)).filterMap (fun j => (ow.getD j none).map (j, ·)) = L := hL
  simp only [Option.bind_eq_bind, Option.bind_some, Option.pure_def]
  rw [this]
 ·rw [hes]
  have h1 : L.map (fun q => (es[q.2]?).getD (0, .none)) = (L.map (·.2)).map (fun k => (es[k]?).getD (0, .none)) := by rw [List.map_map]; rfl
  rw [h1]
  refine (hp.map _).trans ?_
  have : (List.range es.size).map (fun k => (es[k]?).getD (0, Value.none)) = es.toList := by
   refine List.ext_getElem? fun n => ?_
   rw [List.getElem?_map, Array.getElem?_toList (xs := es)]
   rcases Nat.lt_or_ge n es.size with q | q
   ·rw [List.getElem?_range q, Array.getElem?_eq_getElem q]
    show some ((es[n]?).getD (0, .none)) = _
    rw [Array.getElem?_eq_getElem q]; rfl
   ·rw [List.getElem?_eq_none (by simpa using q), Array.getElem?_eq_none q]; rfl
  rw [this]
 ·refine ⟨by rw [hss]; simp [hLlen], rfl, hR, ?_, .inr rfl, by rw [hss]; show es.size * 5 < 31 * 3; omega, ?_⟩
  ·intro i j h
   obtain ⟨k, hk⟩ := (hpl _ _).mp h
   exact osl_le O.sz (hat _ _ _ hk)
  ·intro n h x hn l e w
   obtain ⟨j, k, hLn, hek⟩ := hget n _ hn
   have hren : ∀ j', osl ow j' = (sl { mask := 31, place := (L.map (·.1)).toArray, dummies := #[], finger := t.finger, led := t.led, moves := t.movedTo 31, plain := t.plain } j').map (fun n => ((L[n]?).map (·.2)).getD 0) := by
    intro j'
    rcases slot_of (t := { mask := 31, place := (L.map (·.1)).toArray, dummies := #[], finger := t.finger, led := t.led, moves := t.movedTo 31, plain := t.plain }) rfl hR j' with ⟨i, a, _, b⟩ | ⟨a, _, b⟩
    ·rw [b]
     obtain ⟨k', hk'⟩ := (hpl _ _).mp a
     rw [hat _ _ _ hk', Option.map_some, hk']; rfl
    ·rw [b]
     cases hq : osl ow j' with
     | none => rfl
     | some k' =>
      obtain ⟨n', hn'⟩ := List.getElem?_of_mem ((hmem j' k').mpr hq)
      exact absurd ((hpl _ _).mpr ⟨k', hn'⟩) (a n')
   have w2 := w.ren hren
   have hin := O.reach k h (by
    rw [Array.getElem?_toList, Array.getElem?_map, hek]; rfl) _ _ w2
   obtain ⟨n', hn', hk'⟩ := List.mem_map.mp hin
   obtain ⟨j', hj'⟩ := w.mem n' hn'
   have hp' := (sl_some (t := { mask := 31, place := (L.map (·.1)).toArray, dummies := #[], finger := t.finger, led := t.led, moves := t.movedTo 31, plain := t.plain }) rfl hR).mp hj'
   obtain ⟨k2, hk2⟩ := (hpl _ _).mp hp'
   rw [hk2] at hk'
   have : k2 = k := hk'
   subst this
   have ej : j' = j := O.inj _ _ _ (hat _ _ _ hk2) (hat _ _ _ hLn)
   subst ej
   have : n' = n := hR.inj ((hpl _ _).mpr ⟨_, hk2⟩) ((hpl _ _).mpr ⟨_, hLn⟩)
   rw [← this]; exact hn'
theorem tab_fresh (led : Bool) : Tab #[] (.fresh 0 0 led) :=
 ⟨rfl, rfl, fun i k u v _ h => (by cases h), fun i j h => (by cases h), .inl rfl, (by show 0 * 5 < 7 * 3; decide), fun i h x hi => (by cases hi)⟩
end STb
namespace STb
open PySem PySem.SetTable
theorem probe_way {t : SetTable} (hd : t.dummies = #[]) (hr : Ris t.place) {f : Nat → Int} {h : Int} : ∀ {l : List Nat} {p : Probe} {e : Nat} (fuel : Nat), Way t.mask (sl t) p l e → p.dummy = none → l.length < fuel →
  (probe.go t f h fuel p = some (.empty e none) ∧ ∀ i ∈ l, f i ≠ h) ∨
  ∃ l1 i l2 q, l = l1 ++ i :: l2 ∧ (∀ k ∈ l1, f k ≠ h) ∧ f i = h ∧ sl t q.j = some i ∧ q.dummy = none ∧ Way t.mask (sl t) (t.advance q) l2 e ∧ probe.go t f h fuel p = some (.candidate q.j i (t.advance q)) := by
 intro l
 induction l with
 | nil =>
  intro p e fuel w hp hf
  cases fuel with
  | zero => exact absurd hf (Nat.not_lt_zero _)
  | succ fuel =>
   cases w with
   | stop hs =>
    refine .inl ⟨?_, fun i hi => (by cases hi)⟩
    unfold probe.go
    rw [slot_empty hd hr hs, hp]
 | cons i l ih =>
  intro p e fuel w hp hf
  cases fuel with
  | zero => exact absurd hf (Nat.not_lt_zero _)
  | succ fuel =>
   cases w with
   | live hs w2 =>
    have hdum : (t.advance p).dummy = none := by
     rw [advance_eq]; unfold adv; split <;> exact hp
    by_cases hh : f i = h
    ·refine .inr ⟨[], i, l, p, rfl, fun k hk => (by cases hk), hh, hs, hp, w2, ?_⟩
     unfold probe.go
     rw [slot_live hd hr hs]
     simp [hh]
    ·have hgo : probe.go t f h (fuel + 1) p = probe.go t f h fuel (t.advance p) := by
      rw [probe.go, slot_live hd hr hs]
      simp [hh]
     rcases ih fuel w2 hdum (by simpa using hf) with ⟨a, b⟩ | ⟨l1, k, l2, q, a, b, c, d, d2, e', g⟩
     ·refine .inl ⟨by rw [hgo]; exact a, fun k hk => ?_⟩
      rcases List.mem_cons.mp hk with rfl | hk
      ·exact hh
      ·exact b k hk
     ·refine .inr ⟨i :: l1, k, l2, q, by rw [a]; rfl, fun k' hk => ?_, c, d, d2, e', by rw [hgo]; exact g⟩
      rcases List.mem_cons.mp hk with rfl | hk
      ·exact hh
      ·exact b k' hk
section
variable {prog : Program} {w : World} {K : Type} [DecidableEq K] {knd : KeyKind prog w K} {A : Around} {E : Value → Shared → Prop} {s : Shared}
noncomputable def Tups (knd : KeyKind prog w K) (h : Heap) (es : Array (Int × Value)) : Prop := ∀ (i : Nat) (c : Int) (x : Value), es[i]? = some (c, x) → ∃ k b, c = tupleKeyHash knd k ∧ x = .ref b ∧ IsTupleKey knd h k b
theorem not_class {k : List K} {a : Addr} {Q : Bool → Shared → Prop} (hk : IsTupleKey knd s.heap k a) (h : Q false s) : wpAny (model prog w) A (ofAClassStatement 8 (.ref a)) Q E s := by
  have hT := hk.typeIs
  obtain ⟨o, items, n, ho, _, hd, hi⟩ := hk
  unfold ofAClassStatement
  refine wpAny_bind (wpAny_typeOf hT ?_)
  dsimp only
  refine wpAny_bind (wpAny_pure ?_)
  simp only [Bool.not_true, Bool.false_eq_true, if_false]
  refine wpAny_bind (wpAny_seqItems ho hd ?_)
  refine wpAny_bind ?_
  show wpAny _ _ (forIn items _ _) _ _ s
  rw [← Array.forIn_toList]
  refine wpAny_forIn_list _ (fun rest r s' => r.1 = none ∧ s' = s ∧ ∀ v ∈ rest, carriedByValue v = true) _ ?_ ?_ _ _ ⟨rfl, rfl, hi.byValue⟩
  · rintro v rest r s' ⟨hr, rfl, hall⟩
    have hv : ofAClassStatement 7 v = pure false := by
      have := hall v List.mem_cons_self
      cases v with
      | ref a => simp [carriedByValue] at this
      | _ => first | rfl | simp [ofAClassStatement] | (unfold ofAClassStatement; rfl)
    rw [hv]
    refine wpAny_bind (wpAny_pure ?_)
    simp only [Bool.false_eq_true, if_false]
    exact wpAny_pure ⟨rfl, rfl, fun u hu' => hall u (List.mem_cons_of_mem _ hu')⟩
  · rintro ⟨r1, r2⟩ s' ⟨hr, rfl, _⟩
    simp only at hr
    subst hr
    exact wpAny_pure h
theorem not_seen {k : List K} {a : Addr} {Q : Bool → Shared → Prop} (hk : IsTupleKey knd s.heap k a) (ys : List Value) (hy : ∀ y ∈ ys, ∃ k b, y = .ref b ∧ IsTupleKey knd s.heap k b) (h : Q false s) :
  wpAny (model prog w) A (searchCouldBeSeen (.ref a) ys) Q E s := by
 unfold searchCouldBeSeen
 refine wpAny_bind ?_
 refine wpAny_forIn_list _ (fun rest r s' => r.1 = none ∧ s' = s ∧ ∀ y ∈ rest, y ∈ ys) _ ?_ ?_ _ _ ⟨rfl, rfl, fun y hy => hy⟩
 ·rintro v rest r s' ⟨hr, rfl, hall⟩
  obtain ⟨k', b, rfl, hb⟩ := hy v (hall v List.mem_cons_self)
  simp only [carriedByValue, Bool.false_and, Bool.or_false]
  have fin : (⟨none, ()⟩ : Option Bool × Unit).fst = none ∧ s' = s' ∧ ∀ y ∈ rest, y ∈ ys := ⟨rfl, rfl, fun y hy => hall y (List.mem_cons_of_mem _ hy)⟩
  split
  ·exact wpAny_pure fin
  ·refine wpAny_bind (wpAny_eqIsQuiet_tuple hk ?_)
   simp only [Bool.not_true, Bool.false_eq_true, if_false]
   refine wpAny_bind (wpAny_eqIsQuiet_tuple hb ?_)
   simp only [Bool.not_true, Bool.false_eq_true, if_false]
   refine wpAny_bind (not_class hk ?_)
   simp only [Bool.false_eq_true, if_false]
   refine wpAny_bind (not_class hb ?_)
   simp only [Bool.false_eq_true, if_false]
   exact wpAny_pure fin
 ·rintro ⟨r1, r2⟩ s' ⟨hr, rfl, _⟩
  simp only at hr
  subst hr
  exact wpAny_pure h
theorem search {a b : Addr} {o : Obj} {es : Array (Int × Value)} {ep : Nat} {t : SetTable} {k : List K} {Q : SetFound → Shared → Prop} {e : Nat}
  (hu : A.units < cLine) (ho : s.heap.get? a = some o) (hd : o.data = .set es ep t) (T : Tab es t) (hE : Tups knd s.heap es) (hk : IsTupleKey knd s.heap k b) :
  ∀ (n : Nat) (l : List Nat) (stand : Option Probe) (fuel : Nat), l.length < n → Way t.mask (sl t) (stand.getD (t.probeStart (tupleKeyHash knd k))) l e → (stand.getD (t.probeStart (tupleKeyHash knd k))).dummy = none →
   n ≤ fuel → l.length < 10 * turns t.mask →
   ((∃ i ∈ l, ∃ c, es[i]? = some (tupleKeyHash knd k, .ref c) ∧ IsTupleKey knd s.heap k c) → Q (.there none) s) →
   ((∀ i ∈ l, ∀ c, es[i]? = some (tupleKeyHash knd k, .ref c) → ¬ IsTupleKey knd s.heap k c) → Q (.free e false) s) →
   wpAny (model prog w) A (setSearchFrom a (.ref b) (tupleKeyHash knd k) true fuel stand) Q E s := by
 intro n
 induction n with
 | zero => intro l _ _ h; exact absurd h (Nat.not_lt_zero _)
 | succ n ih =>
  intro l stand fuel hl hw hdum hf hn h1 h2
  cases fuel with
  | zero => exact absurd hf (Nat.not_succ_le_zero _)
  | succ fuel =>
   unfold setSearchFrom
   refine wpAny_bind (wpAny_setState_of ho hd T.fits ?_)
   dsimp only
   rw [T.odd]
   simp only [Bool.false_eq_true, if_false]
   have hlive : ∀ i ∈ l, ∃ k' c, es[i]? = some (tupleKeyHash knd k', .ref c) ∧ IsTupleKey knd s.heap k' c := by
    intro i hi
    obtain ⟨j, hj⟩ := hw.mem i hi
    have hlt : i < es.size := by rw [← T.sz]; exact get_lt ((sl_some T.dm T.ris).mp hj)
    obtain ⟨⟨c, x⟩, hq⟩ : ∃ q, es[i]? = some q := ⟨_, Array.getElem?_eq_getElem hlt⟩
    obtain ⟨k', b', rfl, rfl, hb⟩ := hE i c x hq
    exact ⟨k', b', hq, hb⟩
   rcases probe_way (f := fun i => (es[i]?.map (·.1)).getD 0) (h := tupleKeyHash knd k) T.dm T.ris (10 * turns t.mask) hw hdum hn with ⟨hp, hno⟩ | ⟨l1, i, l2, q, hl12, hno, hfi, hsl, hqd, hw2, hp⟩
   ·split
    ·rename_i met hm
     have hm' : some (Met.empty e none) = some met := hp.symm.trans hm
     cases hm'
     dsimp only
     refine wpAny_pure (h2 fun i hi c hc hkc => hno i hi ?_)
     rw [hc]; rfl
    ·rename_i x hm
     exact (hm _ hp).elim
   ·split
    ·rename_i met hm
     have hm' : some (Met.candidate q.j i (t.advance q)) = some met := hp.symm.trans hm
     cases hm'
     dsimp only
     have hil : i ∈ l := by rw [hl12]; exact List.mem_append_right _ List.mem_cons_self
     obtain ⟨k', c, hei, hck⟩ := hlive i hil
     have hslot := slot_live T.dm T.ris hsl
     have hsame : t.sameMemory t.moves t.mask = some true := by unfold sameMemory; simp
     have hdq : (t.advance q).dummy = none := by rw [advance_eq]; unfold adv; split <;> exact hqd
     have hseen : ∀ y ∈ (es.filter (·.1 == tupleKeyHash knd k)).toList.map (·.2), ∃ k b, y = .ref b ∧ IsTupleKey knd s.heap k b := by
      intro y hy
      obtain ⟨⟨c', y'⟩, hq, rfl⟩ := List.mem_map.mp hy
      have hq' : (c', y') ∈ es := (Array.mem_filter.mp (Array.mem_toList_iff.mp hq)).1
      obtain ⟨n', hn'⟩ := Array.getElem?_of_mem hq'
      obtain ⟨k2, b2, _, hb2, hb3⟩ := hE _ _ _ hn'
      exact ⟨k2, b2, hb2, hb3⟩
     split
     all_goals try (refine wpAny_bind (not_seen hk _ hseen ?_); simp only [Bool.false_eq_true, if_false])
     all_goals
      rw [hei]
      dsimp only
      refine wpAny_bind (wpAny_holding (wpAny_eqBool_tuple hu hck hk ?_))
      refine wpAny_bind (wpAny_setState_of ho hd T.fits ?_)
      dsimp only
      rw [Bool.true_and]
      split
      ·rename_i hdec
       have hkk : k' = k := of_decide_eq_true hdec
       subst hkk
       exact wpAny_pure (h1 ⟨i, hil, c, hei, hck⟩)
      ·rename_i hdec
       have hkk : k' ≠ k := fun z => hdec (decide_eq_true z)
       rw [hsame]
       dsimp only
       rw [if_pos rfl, hslot]
       dsimp only
       rw [hei]
       dsimp only
       refine wpAny_bind (wpAny_isSame_ref_self ?_)
       refine wpAny_bind (wpAny_pure ?_)
       simp only [if_true]
       have hll : l2.length < l.length := by rw [hl12, List.length_append, List.length_cons]; omega
       refine ih l2 (some (t.advance q)) fuel (by omega) hw2 hdq (by omega) (by omega) (fun ⟨i', hi', hx⟩ => h1 ⟨i', by rw [hl12]; exact List.mem_append_right _ (List.mem_cons_of_mem _ hi'), hx⟩) (fun hx => h2 fun i' hi' c' hc' hkc => ?_)
       rw [hl12] at hi'
       rcases List.mem_append.mp hi' with hi' | hi'
       ·refine hno i' hi' ?_
        rw [hc']; rfl
       ·rcases List.mem_cons.mp hi' with rfl | hi'
        ·rw [hei] at hc'
         have hcc : c = c' := Value.ref.inj (congrArg Prod.snd (Option.some.inj hc'))
         rw [← hcc] at hkc
         exact hkk (hck.inj hkc)
        ·exact hx i' hi' c' hc' hkc
    ·rename_i x hm
     exact (hm _ hp).elim
end
end STb
namespace STb
open PySem PySem.SetTable
section
variable {prog : Program} {w : World} {K : Type} [DecidableEq K] {knd : KeyKind prog w K} {A : Around} {E : Value → Shared → Prop} {s : Shared}
noncomputable def gb (σ : List (List K)) (k : List K) : List (List K) := if k ∈ σ then σ else σ ++ [k]
noncomputable def SetT (knd : KeyKind prog w K) (h : Heap) (a : Addr) (ks : List (List K)) : Prop :=
 ∃ o es ep t, h.get? a = some o ∧ o.ExactSet ∧ o.data = .set es ep t ∧ Tab es t ∧ Tups knd h es ∧ es.size = ks.length ∧
  ∀ k, k ∈ ks ↔ ∃ (i : Nat) (c : Addr), es[i]? = some (tupleKeyHash knd k, .ref c) ∧ IsTupleKey knd h k c
theorem IsTupleKey.kept {h h' : Heap} {k : List K} {b : Addr} (x : IsTupleKey knd h k b) (q : ∀ o, h.get? b = some o → h'.get? b = some o) : IsTupleKey knd h' k b := by
 obtain ⟨o, items, n, ho, hc, hd, hi⟩ := x
 exact ⟨o, items, n, q o ho, hc, hd, hi⟩
theorem IsTupleKey.ne {h : Heap} {k : List K} {a b : Addr} {o : Obj} {es ep t} (x : IsTupleKey knd h k b) (ho : h.get? a = some o) (hd : o.data = .set es ep t) : b ≠ a := by
 rintro rfl
 obtain ⟨o', items, n, ho', _, hd', _⟩ := x
 rw [ho] at ho'
 cases ho'
 rw [hd] at hd'; cases hd'
theorem by_value {k : List K} {a : Addr} {Q : Bool → Shared → Prop} (hk : IsTupleKey knd s.heap k a) (h : ∀ b, Q b s) : wpAny (model prog w) A (hashByValue 8 (.ref a)) Q E s := by
 have hT := hk.typeIs
 obtain ⟨o, items, n, ho, _, hd, hi⟩ := hk
 unfold hashByValue
 refine wpAny_bind (wpAny_specialOf hT F.slot_tuple_hash.lookup ?_)
 show wpAny _ _ (seqItems? (.ref a) >>= _) _ _ s
 refine wpAny_bind (wpAny_seqItems ho hd ?_)
 refine wpAny_bind ?_
 show wpAny _ _ (forIn items _ _) _ _ s
 rw [← Array.forIn_toList]
 refine wpAny_forIn_list _ (fun rest r s' => r.1 = none ∧ s' = s ∧ ∀ v ∈ rest, carriedByValue v = true) _ ?_ ?_ _ _ ⟨rfl, rfl, hi.byValue⟩
 ·rintro v rest r s' ⟨hr, rfl, hall⟩
  have hv : ∃ q, hashByValue 7 v = pure q := by
   have := hall v List.mem_cons_self
   cases v with
   | ref a => simp [carriedByValue] at this
   | _ => first | exact ⟨_, rfl⟩ | exact ⟨_, by unfold hashByValue; rfl⟩
  obtain ⟨q, hv⟩ := hv
  rw [hv]
  refine wpAny_bind (wpAny_pure ?_)
  split
  ·refine wpAny_pure ?_
   exact wpAny_pure (h _)
  ·exact wpAny_pure ⟨rfl, rfl, fun u hu' => hall u (List.mem_cons_of_mem _ hu')⟩
 ·rintro ⟨r1, r2⟩ s' ⟨hr, rfl, _⟩
  simp only at hr
  subst hr
  exact wpAny_pure (h _)
theorem relay {a : Addr} {o : Obj} {es : Array (Int × Value)} {ep : Nat} {t : SetTable} {Q : Unit → Shared → Prop} (ho : s.heap.get? a = some o) (hd : o.data = .set es ep t)
  (T : Tab0 es t) (hz : es.size ≤ 18) (hf : t.fits es.size = true) (wanted : Nat) (hw : sizeAbove wanted = 32)
  (h : ∀ es' t', List.Perm es'.toList es.toList → es'.size = es.size → Tab es' t' → Q () { s with heap := s.heap.update a (Obj.putSet es' t') }) :
  wpAny (model prog w) A (setRelay a wanted) Q E s := by
 obtain ⟨t', order, hrel, hsz, hperm, T', _⟩ := relaid_ok (t := t) hz wanted hw
 unfold setRelay
 refine wpAny_bind (wpAny_setState_of ho hd hf ?_)
 dsimp only
 rw [hw, if_neg (by rw [sizeLine_eq]; decide), hrel]
 have hif : ((order.filterMap (es[·]?)).size != es.size) = false := by rw [hsz]; simp
 refine wpAny_bind ?_
 show wpAny _ _ (if ((order.filterMap (es[·]?)).size != es.size) = true then _ else pure (order.filterMap (es[·]?), t')) _ _ _
 rw [hif]
 simp only [Bool.false_eq_true, if_false]
 refine wpAny_pure ?_
 exact wpAny_storeSet_of ho hd (h _ _ hperm hsz T') (by rw [hsz, sizeLine_eq]; omega)
theorem Tups.kept {h h' : Heap} {es : Array (Int × Value)} {a : Addr} {o : Obj} {es0 ep t} (ho : h.get? a = some o) (hd : o.data = .set es0 ep t) (hs : Heap.SameBut a h h') (x : Tups knd h es) : Tups knd h' es := fun i c v hi => by
 obtain ⟨k, b, e1, e2, hb⟩ := x i c v hi
 exact ⟨k, b, e1, e2, IsTupleKey.kept hb fun o' ho' => by rw [hs.2 b (IsTupleKey.ne hb ho hd)]; exact ho'⟩
theorem eV {α : Type} {xs : Array α} {x : α} : (∃ i : Nat, xs[i]? = some x) ↔ x ∈ xs.toList := by
 constructor
 ·rintro ⟨i, h⟩
  rw [← Array.getElem?_toList] at h
  exact List.mem_of_getElem? h
 ·intro h
  obtain ⟨i, hi⟩ := List.getElem?_of_mem h
  exact ⟨i, by rw [← Array.getElem?_toList]; exact hi⟩
theorem Tups.perm {h : Heap} {es es' : Array (Int × Value)} (p : List.Perm es'.toList es.toList) (x : Tups knd h es) : Tups knd h es' := fun i c v hi => by
 obtain ⟨j, hj⟩ := eV.mpr (p.mem_iff.mp (eV.mp ⟨i, hi⟩))
 exact x j c v hj
theorem add {a b : Addr} {ks : List (List K)} {k : List K} {Q : Bool → Shared → Prop} (hu : A.units < cLine) (hS : SetT knd s.heap a ks) (hk : IsTupleKey knd s.heap k b) (hz : ks.length < 18)
  (h : ∀ h' r, Heap.SameBut a s.heap h' → SetT knd h' a (gb ks k) → Q r { s with heap := h' }) :
  wpAny (model prog w) A (setAddHashed a (.ref b) (tupleKeyHash knd k)) Q E s := by
 obtain ⟨o, es, ep, t, ho, hex, hd, T, hE, hn, hm⟩ := hS
 unfold setAddHashed setAddHashedIn
 refine wpAny_holding (wpAny_bind (wpAny_setState_of ho hd T.fits ?_))
 dsimp only
 have hbs : byScan (.ref b) es = false := by unfold byScan; simp [Value.scannable]
 rw [hbs]
 simp only [Bool.false_eq_true, if_false]
 unfold setSearch
 obtain ⟨l, e, hw, hl⟩ := T.way (tupleKeyHash knd k)
 have ht460 : 10 * turns t.mask ≤ 460 := by rcases T.m with z | z <;> rw [z] <;> decide
 refine wpAny_bind (search hu ho hd T hE hk 1000 l none 100000 (by omega) hw rfl (by omega) hl (fun ⟨i, hi, c, hc, hkc⟩ => ?_) (fun hno => ?_))
 ·dsimp only
  refine wpAny_pure ?_
  have hin : k ∈ ks := (hm k).mpr ⟨i, c, hc, hkc⟩
  have := h s.heap false (Heap.SameBut.refl a s.heap) (by
   unfold gb; rw [if_pos hin]; exact ⟨o, es, ep, t, ho, hex, hd, T, hE, hn, hm⟩)
  exact this
 ·dsimp only
  have hnin : k ∉ ks := fun hin => by
   obtain ⟨i, c, hc, hkc⟩ := (hm k).mp hin
   exact hno i (T.reach i _ _ hc _ _ hw) c hc hkc
  refine wpAny_bind (wpAny_setState_of ho hd T.fits ?_)
  dsimp only
  rw [put_eq T]
  dsimp only
  obtain ⟨b1, _, _⟩ := below_ok T.ris e
  have b1' : below t.place e ≤ es.size := by rw [← T.sz]; exact b1
  have T0 := T.put (x := .ref b) hw
  have hsz : (insertAt es (below t.place e) (tupleKeyHash knd k, Value.ref b)).size = es.size + 1 := gJ b1'
  have hperm := SetTable.insertAt_perm es (below t.place e) (tupleKeyHash knd k, Value.ref b)
  rw [Array.toList_push] at hperm
  have hfit0 : ({ t with place := insertAt t.place (below t.place e) e } : SetTable).fits (es.size + 1) = true := by
   unfold SetTable.fits SetTable.fill
   simp only [T.dm, gJ b1, T.sz]
   have := T.room
   simp
   omega
  generalize hes1 : insertAt es (below t.place e) (tupleKeyHash knd k, Value.ref b) = es1 at T0 hsz hperm
  have hE1 : Tups knd s.heap es1 := fun i c v hi => by
   rcases List.mem_append.mp (hperm.mem_iff.mp (eV.mp ⟨i, hi⟩)) with q | q
   ·obtain ⟨j, hj⟩ := eV.mpr q
    exact hE j c v hj
   ·rw [List.mem_singleton] at q
    cases q
    exact ⟨k, b, rfl, rfl, hk⟩
  have hm1 : ∀ k', k' ∈ gb ks k ↔ ∃ (i : Nat) (c : Addr), es1[i]? = some (tupleKeyHash knd k', .ref c) ∧ IsTupleKey knd s.heap k' c := by
   intro k'
   unfold gb
   rw [if_neg hnin, List.mem_append, List.mem_singleton, hm k']
   constructor
   ·rintro (⟨i, c, hc, hkc⟩ | rfl)
    ·obtain ⟨j, hj⟩ := eV.mpr (hperm.mem_iff.mpr (List.mem_append_left _ (eV.mp ⟨i, hc⟩)))
     exact ⟨j, c, hj, hkc⟩
    ·obtain ⟨j, hj⟩ := eV.mpr (hperm.mem_iff.mpr (List.mem_append_right _ List.mem_cons_self))
     exact ⟨j, b, hj, hk⟩
   ·rintro ⟨i, c, hc, hkc⟩
    rcases List.mem_append.mp (hperm.mem_iff.mp (eV.mp ⟨i, hc⟩)) with q | q
    ·obtain ⟨j, hj⟩ := eV.mpr q
     exact .inl ⟨j, c, hj, hkc⟩
    ·rw [List.mem_singleton] at q
     have : c = b := Value.ref.inj (congrArg Prod.snd q)
     subst this
     exact .inr (hkc.inj hk)
  have hdl : (gb ks k).length = es1.size := by unfold gb; rw [if_neg hnin, hsz, hn]; simp
  have hfin : ∀ (pl : Bool), wpAny (model prog w) A (do
    storeSet a es1 { t with place := insertAt t.place (below t.place e) e, plain := pl }
    if (!false && ({ t with place := insertAt t.place (below t.place e) e, plain := pl } : SetTable).tooFull) = true then do
     setRelay a (SetTable.grown (es.size + 1))
     pure true
    else pure true) Q E s := by
   intro pl
   have T1 : Tab0 es1 { t with place := insertAt t.place (below t.place e) e, plain := pl } := ⟨T0.sz, T0.dm, T0.ris, T0.le, T0.m, T0.reach⟩
   have hf1 : ({ t with place := insertAt t.place (below t.place e) e, plain := pl } : SetTable).fits es1.size = true := by rw [hsz]; exact hfit0
   refine wpAny_bind (wpAny_storeSet_of ho hd ?_ (by rw [hsz, sizeLine_eq, hn]; omega))
   have hsb1 := Heap.SameBut.update s.heap a (Obj.putSet es1 { t with place := insertAt t.place (below t.place e) e, plain := pl })
   have hg : (s.heap.update a (Obj.putSet es1 { t with place := insertAt t.place (below t.place e) e, plain := pl })).get? a = some { o with data := .set es1 (ep + 1) { t with place := insertAt t.place (below t.place e) e, plain := pl } } := by
    have := Heap.get?_update_self (Obj.putSet es1 { t with place := insertAt t.place (below t.place e) e, plain := pl }) ho (by rw [putSet_of _ _ hd]; rfl)
    rw [putSet_of _ _ hd] at this; exact this
   have hfill : ({ t with place := insertAt t.place (below t.place e) e, plain := pl } : SetTable).fill = es.size + 1 := by
    unfold SetTable.fill
    simp only [T.dm, gJ b1, T.sz]
    rfl
   have hk1 : ∀ k' c, IsTupleKey knd s.heap k' c → ∀ h', Heap.SameBut a s.heap h' → IsTupleKey knd h' k' c := fun k' c hc h' hs => IsTupleKey.kept hc fun o' ho' => by rw [hs.2 c (IsTupleKey.ne hc ho hd)]; exact ho'
   have hback : ∀ k' c, ∀ h', Heap.SameBut a s.heap h' → c ≠ a → IsTupleKey knd h' k' c → IsTupleKey knd s.heap k' c := fun k' c h' hs hne hc => IsTupleKey.kept hc fun o' ho' => by rw [hs.2 c hne] at ho'; exact ho'
   have hmk : ∀ (es2 : Array (Int × Value)) (h' : Heap), List.Perm es2.toList es1.toList → Heap.SameBut a s.heap h' → ∀ k', k' ∈ gb ks k ↔ ∃ (i : Nat) (c : Addr), es2[i]? = some (tupleKeyHash knd k', .ref c) ∧ IsTupleKey knd h' k' c := by
    intro es2 h' hp hs k'
    rw [hm1 k']
    constructor
    ·rintro ⟨i, c, hc, hkc⟩
     obtain ⟨j, hj⟩ := eV.mpr (hp.mem_iff.mpr (eV.mp ⟨i, hc⟩))
     exact ⟨j, c, hj, hk1 _ _ hkc _ hs⟩
    ·rintro ⟨i, c, hc, hkc⟩
     obtain ⟨j, hj⟩ := eV.mpr (hp.mem_iff.mp (eV.mp ⟨i, hc⟩))
     obtain ⟨k2, b2, _, e2, hb2⟩ := hE1 _ _ _ hj
     have : c = b2 := Value.ref.inj e2
     subst this
     exact ⟨j, c, hj, hback _ _ _ hs (IsTupleKey.ne hb2 ho hd) hkc⟩
   split
   ·rename_i hfull
    have hfull' : (es.size + 1) * 5 ≥ t.mask * 3 := by
     simp only [Bool.not_false, Bool.true_and] at hfull
     unfold SetTable.tooFull at hfull
     rw [hfill] at hfull
     simpa using hfull
    have hsz5 : es.size + 1 = 5 := by
     have := T.room
     rcases T.m with z | z
     ·rw [z] at this hfull'; omega
     ·rw [z] at this hfull'; omega
    refine wpAny_bind (relay hg rfl T1 (by omega) hf1 _ (by rw [hsz5]; decide) fun es' t' hp' hs' T' => ?_)
    refine wpAny_pure ?_
    have hsb2 := hsb1.trans (Heap.SameBut.update _ a (Obj.putSet es' t'))
    refine h _ true hsb2 ?_
    have hg2 : ((s.heap.update a (Obj.putSet es1 { t with place := insertAt t.place (below t.place e) e, plain := pl })).update a (Obj.putSet es' t')).get? a = some { o with data := .set es' (ep + 1 + 1) t' } := by
     have := Heap.get?_update_self (Obj.putSet es' t') hg (by rw [putSet_of _ _ rfl]; rfl)
     rw [putSet_of _ _ rfl] at this; exact this
    exact ⟨_, es', ep + 1 + 1, t', hg2, hex, rfl, T', (Tups.perm hp' hE1).kept ho hd hsb2, by rw [hdl, hs'], hmk es' _ hp' hsb2⟩
   ·rename_i hfull
    have hfull' : ¬ (es.size + 1) * 5 ≥ t.mask * 3 := by
     simp only [Bool.not_false, Bool.true_and] at hfull
     unfold SetTable.tooFull at hfull
     rw [hfill] at hfull
     simpa using hfull
    refine wpAny_pure (h _ true hsb1 ?_)
    exact ⟨_, es1, ep + 1, _, hg, hex, rfl, T1.tab (by rw [hsz]; show (es.size + 1) * 5 < t.mask * 3; omega), hE1.kept ho hd hsb1, hdl.symm, hmk es1 _ .rfl hsb1⟩
  split
  ·refine wpAny_bind (by_value hk fun q => ?_)
   cases q
   ·exact hfin false
   ·exact hfin t.plain
  ·refine wpAny_bind (wpAny_pure ?_)
   exact hfin t.plain
end
end STb
namespace STb
open PySem PySem.SetTable PySem.Spec PyProof.Rows
noncomputable def keysTo {K : Type} [DecidableEq K] (key : Nat → List K) : Nat → List (List K)
 | 0 => []
 | i + 1 => gb (keysTo key i) (key i)
theorem keysTo_len {K : Type} [DecidableEq K] (key : Nat → List K) : ∀ i, (keysTo key i).length ≤ i
 | 0 => Nat.le_refl _
 | i + 1 => by
  have := keysTo_len key i
  show (gb _ _).length ≤ _
  unfold gb
  split
  ·omega
  ·rw [List.length_append, List.length_singleton]; omega
noncomputable abbrev eE (led : Bool) : Obj :=
 { cls := .type "set", dict := none, data := .set #[] 0 (.fresh 0 0 led) }
section
variable {prog : Program} {w : World} {K : Type} [DecidableEq K] {knd : KeyKind prog w K} {A : Around}
theorem SetT.kept {h h' : Heap} {a : Addr} {ks : List (List K)} (hS : SetT knd h a ks) (q : ∀ o, h.get? a = some o → h'.get? a = some o)
  (ht : ∀ k c, IsTupleKey knd h k c → ∀ o, h.get? c = some o → h'.get? c = some o) : SetT knd h' a ks := by
 obtain ⟨o, es, ep, t, ho, hex, hd, T, hE, hn, hm⟩ := hS
 refine ⟨o, es, ep, t, q o ho, hex, hd, T, fun i c v hi => ?_, hn, fun k => (hm k).trans ⟨fun ⟨i, c, a1, a2⟩ => ⟨i, c, a1, STb.IsTupleKey.kept a2 (ht k c a2)⟩, fun ⟨i, c, a1, a2⟩ => ⟨i, c, a1, ?_⟩⟩⟩
 ·obtain ⟨k, b, e1, e2, hb⟩ := hE i c v hi
  exact ⟨k, b, e1, e2, STb.IsTupleKey.kept hb (ht k b hb)⟩
 ·obtain ⟨k', b, _, e2, hb⟩ := hE i _ _ a1
  have : c = b := Value.ref.inj e2
  subst this
  have := (STb.IsTupleKey.kept hb (ht k' c hb)).inj a2
  rw [← this]; exact hb
theorem add_loop {R : Result → Shared → Prop} {I S : Addr} {fp wr : List Addr} {G : Array GenState → Array GenState → Prop} {n : Nat} {P : Nat → Value → Prop} {St : Nat → Shared → Prop}
  (W : WalksS prog w A.in1 I fp wr G n P St) (hSf : S ∉ fp) (hu : A.in1.units < cLine) (key : Nat → List K) (hn : n ≤ 18) (hwr : ∀ i s, St i s → ∀ b ∈ wr, ∀ k, ¬ IsTupleKey knd s.heap k b) :
  ∀ (k i : Nat) (s : Shared), n - i = k → i ≤ n → St i s → SetT knd s.heap S (keysTo key i) → (∀ j v, P j v → ∃ b, v = .ref b ∧ IsTupleKey knd s.heap (key j) b) →
   (∀ s', Moved (S :: wr) G s s' → SetT knd s'.heap S (keysTo key n) → R (.ok (.ret .none)) s') →
   codeAny (model prog w) A (.builtin "set.update.loop" ⟨[.ref S, .ref I], []⟩) R s := by
 have hSw : S ∉ wr := fun q => hSf (W.sub _ q)
 have up : ∀ b ∈ wr, b ∈ S :: wr := fun b q => List.mem_cons_of_mem _ q
 intro k
 induction k with
 | zero =>
  intro i s hk hi hst hS hP hR
  have e : i = n := by omega
  subst e
  refine codeAny_builtin F.entry_set_update_loop ?_
  rw [Around.under_plainId F.plain_set_update_loop _]
  refine wpAny_bind (W.done s _ _ hst fun s' hm => ?_)
  exact wpAny_pure (hR s' (hm.mono up) (hS.kept (fun o => hm.heap S o hSw) fun k c hc o => hm.heap c o fun q => hwr i s hst c q k hc))
 | succ k ih =>
  intro i s hk hi hst hS hP hR
  have hlt : i < n := by omega
  refine codeAny_builtin F.entry_set_update_loop ?_
  rw [Around.under_plainId F.plain_set_update_loop _]
  refine wpAny_bind (W.item i s _ _ hlt hst fun v s' hv hst' hm => ?_)
  obtain ⟨b, rfl, hb⟩ := hP i v hv
  have stay : ∀ k c, IsTupleKey knd s.heap k c → ∀ o, s.heap.get? c = some o → s'.heap.get? c = some o := fun k c hc o => hm.heap c o fun q => hwr i s hst c q k hc
  have hS' : SetT knd s'.heap S (keysTo key i) := hS.kept (fun o => hm.heap S o hSw) stay
  have hb' : IsTupleKey knd s'.heap (key i) b := STb.IsTupleKey.kept hb (stay _ _ hb)
  refine wpAny_bind (wpAny_holding ?_)
  unfold setAdd
  refine wpAny_holding (wpAny_bind (wpAny_pyHash_tuple hu hb' ?_))
  refine STb.add (s := { s' with toks := s'.toks + ((key i).length + 1) }) hu hS' hb' (by have := keysTo_len key i; omega) fun h' r hsb hS2 => ?_
  obtain ⟨oS, _, _, _, hoS, _, hdS, _⟩ := hS'
  have tk : ∀ k c, IsTupleKey knd s.heap k c → IsTupleKey knd h' k c := fun k c hc => by
   have h1 := STb.IsTupleKey.kept hc (stay k c hc)
   exact STb.IsTupleKey.kept h1 fun o ho => by rw [hsb.2 c (STb.IsTupleKey.ne h1 hoS hdS)]; exact ho
  refine wpAny_pure ⟨plainId_quiet F.plain_set_update_loop _, ih (i + 1) _ (by omega) hlt
   (W.frame _ s' _ _ hst' (Nat.le_add_right _ _) fun b hb o e => ?_) hS2 (fun j v hv => ?_) fun s'' hm'' hS'' => ?_⟩
  ·rw [hsb.2 b (fun q : b = S => hSf (q ▸ hb))]; exact e
  ·obtain ⟨b, e, hb⟩ := hP j v hv
   exact ⟨b, e, tk _ _ hb⟩
  ·refine hR s'' (Moved.trans W.gtrans ((hm.mono up).then_heap (Nat.le_add_right _ _) fun b o hb e => ?_) hm'') hS''
   rw [hsb.2 b (fun q : b = S => hb (q ▸ List.mem_cons_self))]; exact e
end
end STb
namespace STb
open PySem PySem.SetTable PySem.Spec PyProof.Rows
section
variable {prog : Program} {w : World} {K : Type} [DecidableEq K] {knd : KeyKind prog w K} {A : Around} {E : Value → Shared → Prop} {s : Shared}
set_option maxHeartbeats 3200000 in
theorem set_tuples {l : Addr} {items : Array Value} {key : Nat → List K} {Q : Value → Shared → Prop} (hh : A.handled = none) (hu : A.units + 8 < cLine) (hl : s.heap.IsList l items) (hn : items.size ≤ 18)
  (hi : ∀ (j : Nat) v, items[j]? = some v → ∃ b, v = .ref b ∧ IsTupleKey knd s.heap (key j) b)
  (h : ∀ (h' : Heap) (tk : Nat), SetT knd h' s.heap.objs.size (keysTo key items.size) → (∀ b o, b < s.heap.objs.size → s.heap.get? b = some o → h'.get? b = some o) →
   Q (.ref s.heap.objs.size) { s with heap := h', toks := tk }) :
  wpAny (model prog w) A (call (.type "set") [.ref l]) Q E s := by
 obtain ⟨c, tl, hmro⟩ := F.called_set.mro
 have hmade := F.called_set.made
 have hsub := F.called_set.sub
 have h1 := F.called_set.notType
 have h2 := F.called_set.canCreate
 have hct := F.typeCall_set_1 (.ref l)
 refine wpAny_call (codeAny_of_tree ?_)
 show wpAny _ _ (callAny (.type "set") _) _ _ _
 refine wpAny_pure ⟨Code.quiet_builtin _ (by decide +kernel), codeAny_builtin F.entry_type_call ?_⟩
 rw [Around.under_plain (weight_type_call_type "set" [.ref l] []) rfl]
 repeat (any_goals (first | assumption | wp_step))
 have new := code_set_new_1 (prog := prog) (w := w) (A := A.in1) (s := s) (E := E) (.ref l)
  (Q₁ := fun x s₁ => ∃ led : Bool, x = .ref s.heap.objs.size ∧ s₁ = { s with heap := s.heap.push (eE led) }) fun led => ⟨led, rfl, rfl⟩
 refine codeAny_mono new fun r s₁ hr => ?_
 match r, hr with
 | .error e, hr => exact hr
 | .ok (.ret x), hr =>
  obtain ⟨led, rfl, rfl⟩ := hr
  have hS : (s.heap.push (eE led)).get? s.heap.objs.size = some (eE led) := Heap.get?_push_size _ rfl
  have hT : Shared.TypeIs { s with heap := s.heap.push (eE led) } (.ref s.heap.objs.size) "set" := ⟨_, hS, rfl⟩
  have hli := F.called_set.init.lookup
  have hbi := F.called_set.init.bind (.ref s.heap.objs.size)
  repeat (any_goals (first | assumption | wp_step))
  refine codeAny_mono (codeAny_call_builtin (R := wants (fun r s₂ => r = .none ∧ ∃ h' tk, s₂ = { s with heap := h', toks := tk } ∧ SetT knd h' s.heap.objs.size (keysTo key items.size) ∧
    (∀ b o, b < s.heap.objs.size → s.heap.get? b = some o → h'.get? b = some o)) E) F.called_set.init.plain F.entry_set_init
   (check_set_init_1 hT ?_)) fun r₂ s₂ hr₂ => ?_
  ·obtain ⟨⟨_, odict, _, oslots⟩, hol, hcl, nl, hdl⟩ := hl
   dsimp only at hcl hdl
   subst hcl hdl
   have hol' : (s.heap.push (eE led)).get? l = some { cls := .type "list", dict := odict, data := .seq items nl, slots := oslots } :=
    Heap.get?_push_of_some _ hol
   have hl1 : (s.heap.push (eE led)).IsList l items := ⟨_, hol', rfl, nl, rfl⟩
   have hsls := F.sub_list_set
   have hslf := F.sub_list_frozenset
   have hne : (Value.type "list" == Value.type "dict") = false := by decide
   unfold Builtin.«set.__init__»
   unfold noKeywords
   unfold Builtin.Frozenset.updateFrom
   generalize hPI : pyIter = PI
   wp_walk
   subst hPI
   refine wpAny_pyIter_list hl1 ?_
   refine wpAny_bind (wpAny_runValue ?_)
   have hlS : l < s.heap.objs.size := Heap.lt_size hol
   have hsz : (s.heap.push (eE led)).objs.size = s.heap.objs.size + 1 := Heap.size_push _ _
   have hneI : l ≠ (s.heap.push (eE led)).objs.size := by
    rw [hsz]; exact Nat.ne_of_lt (Nat.lt_succ_of_lt hlS)
   have hSf : s.heap.objs.size ∉ [(s.heap.push (eE led)).objs.size, l] := by
    rw [hsz]
    intro q
    rcases List.mem_cons.mp q with q | q
    ·exact absurd q (Nat.ne_of_lt (Nat.lt_succ_self _))
    ·exact absurd (List.mem_singleton.mp q) (Nat.ne_of_gt hlS)
   have W := (Walks.list (prog := prog) (w := w) (A := A.in1.in1.in1) (by simp [hh]) _ l hneI items).toS
   refine add_loop (knd := knd) W hSf (by simp; omega) key hn ?wr (items.size - 0) 0 _ (by omega) (Nat.zero_le _) ⟨⟨_, Heap.get?_push_size _ rfl, rfl, rfl⟩, hl1.push _⟩ ?S0 ?P0 ?R0
   case wr =>
    intro i s0 hst b hb k hk
    have hbI := List.mem_singleton.mp hb
    subst hbI
    obtain ⟨oI, hoI, hcI, hdI⟩ := hst.1
    obtain ⟨o2, it2, n2, ho2, hc2, _⟩ := hk
    rw [hoI] at ho2
    cases ho2
    rw [hcI] at hc2
    exact absurd hc2 (by decide)
   case S0 =>
    have hg : ((s.heap.push (eE led)).push { cls := .type "list_iterator", data := .fields #[.ref l, .int 0 0] }).get? s.heap.objs.size = some (eE led) := Heap.get?_push_of_some _ hS
    exact ⟨_, #[], 0, _, hg, ⟨rfl, rfl, rfl⟩, rfl, tab_fresh led, fun i c v hi => (by cases hi), rfl, fun k => ⟨fun q => (by cases q), fun ⟨i, c, q, _⟩ => (by cases q)⟩⟩
   case P0 =>
    intro j v hv
    obtain ⟨b, e, hb⟩ := hi j v hv
    exact ⟨b, e, STb.IsTupleKey.kept hb fun o ho => Heap.get?_push_of_some _ (Heap.get?_push_of_some _ ho)⟩
   case R0 =>
    intro s' hm hS'
    obtain ⟨h', g', d', tk', os'⟩ := s'
    have e1 : g' = s.gens := hm.gens
    have e2 : d' = s.drawn := hm.drawn
    have e3 : os' = s.os := hm.os
    subst e1 e2 e3
    show wpAny _ _ _ _ _ _
    refine wpAny_pure ?_
    refine wpAny_pure ⟨rfl, h', tk', rfl, hS', fun b o hb e => ?_⟩
    refine hm.heap b o (fun q => ?_) (Heap.get?_push_of_some _ (Heap.get?_push_of_some _ e))
    rcases List.mem_cons.mp q with q | q
    ·exact Nat.ne_of_lt hb q
    ·have := List.mem_singleton.mp q
     rw [hsz] at this
     exact Nat.ne_of_lt (Nat.lt_succ_of_lt hb) this
  ·match r₂, hr₂ with
   | .error e, hr₂ => exact hr₂
   | .ok (.ret r), hr₂ =>
    obtain ⟨rfl, h', tk, rfl, hS', hk'⟩ := hr₂
    repeat (any_goals (first | assumption | wp_step))
    exact h _ _ hS' hk'
end
end STb
namespace L2
open PySem PySem.Spec PyProof.Rows
noncomputable def SetN (a : Addr) (n : Nat) : HO := .ext fun h => ∃ o es ep t, h.get? a = some o ∧ o.ExactSet ∧ o.data = .set es ep t ∧ t.fits es.size = true ∧ es.size = n ∧ n ≤ 18
inductive TupsOf (H : Hp) : List V → List (List Int) → Prop
 | nil : TupsOf H [] []
 | cons {b : Addr} {k : List Int} {vs : List V} {ks : List (List Int)} : H b = some (.tup (k.map .int)) → TupsOf H vs ks → TupsOf H (.ref b :: vs) (k :: ks)
theorem TupsOf.length {H : Hp} {vs : List V} {ks : List (List Int)} (t : TupsOf H vs ks) : vs.length = ks.length := by
 induction t with
 | nil => rfl
 | cons _ _ ih => simp [ih]
theorem TupsOf.at {H : Hp} {vs : List V} {ks : List (List Int)} (t : TupsOf H vs ks) : ∀ (j : Nat) (v : V), vs[j]? = some v → ∃ b, v = .ref b ∧ H b = some (.tup ((ks.getD j []).map .int)) := by
 induction t with
 | nil => intro j v h; cases h
 | @cons b k vs ks h _ ih =>
  intro j v hv
  cases j with
  | zero => cases hv; exact ⟨b, rfl, h⟩
  | succ j => exact ih j v hv
noncomputable def dd (ks : List (List Int)) : List (List Int) := ks.foldl STb.gb []
theorem keysTo_take (ks : List (List Int)) : ∀ i, i ≤ ks.length → STb.keysTo (fun j => ks.getD j []) i = dd (ks.take i)
 | 0, _ => rfl
 | i + 1, h => by
  show STb.gb _ _ = _
  rw [keysTo_take ks i (by omega)]
  have hk : ks[i]? = some (ks.getD i []) := by
   rw [List.getElem?_eq_getElem (by omega), List.getD_eq_getElem?_getD, List.getElem?_eq_getElem (by omega)]; rfl
  unfold dd
  rw [List.take_add_one, hk, List.foldl_append]
  rfl
theorem items_are {P : Program} {w : World} : ∀ {ks : List Int} {its : List Value}, Vals (ks.map V.int) its → ItemsAre (intKind P w) ks its
 | [], _, r => by cases r; exact .nil
 | k :: ks, _, r => by
  cases r with
  | cons h t =>
   obtain ⟨t', rfl⟩ := h
   exact .cons (intKind_is _ _ _ _) (items_are t)
theorem call_setT {X : Cx} (hc : X.calm = true) (hu : X.A.units + 8 < cLine) : gU X (.type "set") (fun xs H Q => ∃ p ys ks, xs = [.ref p] ∧ aU X.K H p ys ∧ ys.length ≤ 18 ∧ TupsOf H ys ks ∧
  ∀ l, H l = none → Q (.ref l) (upd H l (SetN l (dd ks).length))) := by
 intro pins s σ H xs us Q I r h
 obtain ⟨p, ys, ks, rfl, hq, h18, ht, q⟩ := h
 obtain ⟨u, rfl, rx⟩ := vals1 r
 cases rx
 obtain ⟨its, r', pl, hz⟩ := I.list hq
 have hlen := r'.length
 refine STb.set_tuples (knd := intKind X.prog X.w) (key := fun j => ks.getD j []) (I.ok.hd hc) hu pl.isList (by simp; omega) (fun j v hv => ?_) (fun h' tk hS kp => ?_)
 ·have hv' : its[j]? = some v := by simpa using hv
  cases hy : ys[j]? with
  | none => rw [r'.none_of hy] at hv'; cases hv'
  | some y =>
   obtain ⟨u, hu', ru⟩ := r'.get hy
   rw [hv'] at hu'
   cases hu'
   obtain ⟨b, rfl, hb⟩ := ht.at j y hy
   cases ru
   obtain ⟨_, it2, r2, o2, ho2, hc2, n2, hd2⟩ := I.hok b _ hb
   exact ⟨b, rfl, o2, it2.toArray, n2, ho2, hc2, hd2, by simpa using items_are r2⟩
 ·have hl : (STb.keysTo (fun j => ks.getD j []) its.toArray.size).length = (dd ks).length := by
   have e : its.toArray.size = ks.length := by rw [← ht.length, hlen]; simp
   rw [e, keysTo_take ks _ (Nat.le_refl _), List.take_length]
  have hn : H s.heap.objs.size = none := I.hok.fresh (Nat.le_refl _)
  refine ⟨.ref s.heap.objs.size, _, I.laid (t' := tk) (fun b o e => kp b o (Heap.lt_size e) e) (Nat.le_refl _) ?_, rfl, q _ hn⟩
  obtain ⟨o, es, ep, t, ho, hex, hd, T, _, hsz, _⟩ := hS
  have h18' : (dd ks).length ≤ 18 := by
   rw [← hl]
   have := STb.keysTo_len (fun j => ks.getD j []) its.toArray.size
   have : its.toArray.size ≤ 18 := by simp; omega
   omega
  refine ⟨⟨o, es, ep, t, ho, hex, hd, T.fits, by rw [hsz, hl], h18'⟩, ⟨o, ho⟩, ?_⟩
  rintro h1 h2 ⟨o', es', ep', t', ho', rest⟩ kk
  exact ⟨o', es', ep', t', kk _ ho', rest⟩
theorem call_lenN {X : Cx} : gU X (.builtin "len") (fun xs H Q => ∃ p n, xs = [.ref p] ∧ H p = some (SetN p n) ∧ Q (.int n) H) := by
 intro pins s σ H xs us Q I r h
 obtain ⟨p, n, rfl, hp, q⟩ := h
 obtain ⟨u, rfl, rx⟩ := vals1 r
 cases rx
 obtain ⟨⟨o, es, ep, t, ho, hex, hd, hf, hsz, h18⟩, _⟩ := I.hok p _ hp
 exact call_len_set ho hex hd hf (by rw [hsz]; omega) ⟨.int n, H, I.tok _, ⟨s.toks + 1, by rw [hsz]⟩, q⟩
theorem dd_nodup_aux : ∀ (ks σ : List (List Int)), (ks.foldl STb.gb σ).length ≤ σ.length + ks.length ∧ ((ks.foldl STb.gb σ).length = σ.length + ks.length ↔ ks.Nodup ∧ ∀ k ∈ ks, k ∉ σ)
 | [], σ => ⟨Nat.le_refl _, ⟨fun _ => ⟨List.nodup_nil, fun k h => (by cases h)⟩, fun _ => rfl⟩⟩
 | k :: ks, σ => by
  rw [List.foldl_cons, List.length_cons]
  by_cases h : k ∈ σ
  ·have e : STb.gb σ k = σ := by unfold STb.gb; rw [if_pos h]
   rw [e]
   obtain ⟨a, b⟩ := dd_nodup_aux ks σ
   refine ⟨by omega, ⟨fun q => by omega, fun q => absurd h (q.2 k List.mem_cons_self)⟩⟩
  ·have e : STb.gb σ k = σ ++ [k] := by unfold STb.gb; rw [if_neg h]
   rw [e]
   obtain ⟨a, b⟩ := dd_nodup_aux ks (σ ++ [k])
   rw [List.length_append, List.length_singleton] at a b
   refine ⟨by omega, ?_⟩
   rw [show σ.length + (ks.length + 1) = σ.length + 1 + ks.length by omega, b, List.nodup_cons]
   constructor
   ·rintro ⟨h1, h2⟩
    refine ⟨⟨fun q => h2 k q (List.mem_append_right _ List.mem_cons_self), h1⟩, fun k' hk' => ?_⟩
    rcases List.mem_cons.mp hk' with rfl | hk'
    ·exact h
    ·exact fun q => h2 k' hk' (List.mem_append_left _ q)
   ·rintro ⟨⟨h1, h2⟩, h3⟩
    refine ⟨h2, fun k' hk' q => ?_⟩
    rcases List.mem_append.mp q with q | q
    ·exact h3 k' (List.mem_cons_of_mem _ hk') q
    ·rw [List.mem_singleton] at q; subst q; exact h1 hk'
theorem dd_nodup (ks : List (List Int)) : (dd ks).length = ks.length ↔ ks.Nodup := by
 have := (dd_nodup_aux ks []).2
 simp only [List.length_nil, Nat.zero_add] at this
 rw [dd, this]
 exact ⟨fun h => h.1, fun h => ⟨h, fun k _ q => (by cases q)⟩⟩
structure MetD (P : Program) (w : World) (K : PySem.W.Frag) (mg : Str → Option Value) (base : Heap) (C : Addr) (k : Nat) (m : Str) (ps : List Str) (sp : Sp) : Prop where
 ex : ∃ (f : Addr) (fd : FuncData), bB P w K mg base gh k f fd ps sp ∧ Meth K C m f ∧ Binds K fd ps []
structure MetX (P : Program) (w : World) (K : PySem.W.Frag) (mg : Str → Option Value) (base : Heap) (C : Addr) (k : Nat) (m : Str) (ps : List Str) (sp : Sp) : Prop where
 ex : ∃ (f : Addr) (fd : FuncData), bB P w K mg base (CX1 P w) k f fd ps sp ∧ Meth K C m f ∧ Binds K fd ps []
structure MakX (P : Program) (w : World) (K : PySem.W.Frag) (mg : Str → Option Value) (base : Heap) (C : Addr) (k : Nat) (x : Str) (ps : List Str) (sp : Sp) : Prop where
 ex : ∃ (f : Addr) (fd : FuncData), bB P w K mg base (CX1 P w) k f fd ps sp ∧ Mk K C f ∧ mg x = some (.ref C) ∧ Binds K fd ps []
noncomputable def tMethR (C : Addr) (m : Str) (sp : Sp) (R : St → XK) (ta : TE) (t : TA) : TE := fun σ H Q => ta σ H fun x H1 => ∃ a dx fs, x = .ref a ∧ H1 a = some (.ins C dx fs) ∧ fs.lookup m = none ∧
 t σ H1 fun vs H2 => sp (x :: vs) H2 Q (R σ)
noncomputable def tMakeR (C : Addr) (sp : Sp) (R : St → XK) (t : TA) : TE := fun σ H Q => t σ H fun vs H1 => ∀ x dx, H1 x = none → H1 dx = none → dx ≠ x →
 sp (.ref x :: vs) (upd (upd H1 dx (.own x)) x (.ins C dx [])) (fun v H2 => v = .non ∧ Q (.ref x) H2) (R σ)
section
variable {X : Cx} {k : Nat} {C : Addr} {m x : Str} {ps : List Str} {sp : Sp} {o e : Expr} {es : List Expr} {ta : TE} {t : TA} {p pos apos : Pos} {R : St → XK}
theorem iz {pl : Sem Bool} (he : PE X o ta) (c : Cls X.K C) (D : MetD X.prog X.w X.K X.mg X.base C k m ps sp) (hr : fB k X.A)
  (ht : eval (.Call (.Attribute o m apos) [] [] pos) X.env = (do
   let ov ← eval o X.env
   standAt apos.atName
   let (f, first) ← holding [ov] (getMethod ov m pl)
   callWith pos f first (backTo pos (starEach [] X.env)) (backToKw pos (keywordEach [] X.env))) := by rfl) :
  PE X (.Call (.Attribute o m apos) [] [] pos) (tMeth C m sp [] E0 ta tNil) := by
 obtain ⟨f, fd, F, hm, hb⟩ := D.ex
 exact pe_meth0 he c hm F hr hb .nil pass0 ht
theorem run_fnR {f : Addr} {fd : FuncData} {pins : List (Addr × Obj)} {σ : St} {H : Hp} {s : Shared} {Q : VK} {us : List Value} {vs : List V} (F : bB X.prog X.w X.K X.mg X.base (CX1 X.prog X.w) k f fd ps sp) (hr : fB k X.A) (hb : Binds X.K fd ps []) (hx : iK (CX1 X.prog X.w) X R)
  (I : Inv X pins σ H s) (r : Vals vs us) (h : sp vs H Q (R σ)) : wpAny (model X.prog X.w) X.A (call (.ref f) us) (EP X pins σ Q) X.xe s := by
 have hl : us.length = ps.length := by rw [← r.length]; exact F.len _ _ _ _ h
 have hb' := hb s us I.kIn (by rw [List.append_nil]; exact hl)
 rw [List.append_nil] at hb'
 refine wpAny_call (codeAny_mono (F.run X.A X.stack s H ⟨us, []⟩ us vs Q (R σ) hr I.env0 hb' r h) fun res s' hq => ?_)
 cases res with
 | error er => exact hx pins σ H s er s' I hq
 | ok fl =>
  cases fl with
  | ret u => exact I.after hq
  | _ => exact False.elim hq
theorem pe_metX {pl : Sem Bool} (he : PE X o ta) (c : Cls X.K C) (D : MetX X.prog X.w X.K X.mg X.base C k m ps sp) (hr : fB k X.A) (hx : iK (CX1 X.prog X.w) X R) (ha : PA X (e :: es) t)
  (hst : starEach (e :: es) X.env = (false, eval e X.env) :: starEach es X.env := by rfl) (hpl : (backTo pos (starEach es X.env)).any (·.1) = false := by rfl)
  (ht : eval (.Call (.Attribute o m apos) (e :: es) [] pos) X.env = (do
   let ov ← eval o X.env
   standAt apos.atName
   let (f, first) ← holding [ov] (getMethod ov m pl)
   callWith pos f first (backTo pos (starEach (e :: es) X.env)) (backToKw pos (keywordEach [] X.env))) := by rfl) :
  PE X (.Call (.Attribute o m apos) (e :: es) [] pos) (tMethR C m sp R ta t) := by
 obtain ⟨f, fd, F, hm, hb⟩ := D.ex
 intro pins s σ H Q I h
 refine PySem.W.methodCall_KW (pl := pl) (bZ (he pins s σ H _ I h) fun u s1 ⟨x, H1, I1, rx, a, dx, fs, ex, ea, l, q⟩ => ?_) ht
 subst ex
 obtain rfl : u = Value.ref a := rx
 refine getmeth_ok I1 ea c hm l ?_
 refine PySem.W.callWith_K (first := [.ref a]) (h₀ := X.base) I.ok.mod.kin hm.kp (bZ (ha pos pins s1 σ H1 _ I1 q) fun us s2 ⟨vs, H2, I2, r, q2⟩ => ⟨I2.kIn, ?_⟩) hst hpl
 exact run_fnR (us := .ref a :: us) (vs := .ref a :: vs) F hr hb hx I2 (.cons rfl r) q2
theorem pe_makX (D : MakX X.prog X.w X.K X.mg X.base C k x ps sp) (hr : fB (k + 1) X.A) (hx : iK (CX1 X.prog X.w) X R) (hg : Gl X x)
  (ha : PA X (e :: es) t) (hdb : (x == ("__debug__" : Str)) = false := by decide) (he : starEach (e :: es) X.env = (false, eval e X.env) :: starEach es X.env := by rfl) (hpl : (backTo pos (starEach es X.env)).any (·.1) = false := by rfl) :
  PE X (.Call (.Name x p) (e :: es) [] pos) (tMakeR C sp R t) := by
 obtain ⟨f, fd, F, M, hm, hb⟩ := D.ex
 intro pins s0 σ H0 Q I0 h0
 refine wpAny_Call_Name_kw (ld_glob I0 hg hm ?_ hdb)
 refine PySem.W.callWith_K (h₀ := X.base) I0.ok.mod.kin M.kp (bZ (ha pos pins s0 σ H0 _ I0 h0) fun us s ⟨vs, H, I, r, h⟩ => ⟨I.kIn, ?_⟩) he hpl
 have hq := h (s.heap.objs.size + 1) s.heap.objs.size (I.hok.fresh (Nat.le_succ _)) (I.hok.fresh (Nat.le_refl _)) (Nat.ne_of_lt (Nat.lt_succ_self _))
 have I2 := Inv.made (C := C) I
 have r2 : Vals (V.ref (s.heap.objs.size + 1) :: vs) (Value.ref (s.heap.objs.size + 1) :: us) := .cons rfl r
 have hl : (Value.ref (s.heap.objs.size + 1) :: us).length = ps.length := by
  have e := r2.length
  rw [F.len _ _ _ _ hq] at e
  exact e.symm
 have hb' := hb _ (Value.ref (s.heap.objs.size + 1) :: us) I2.kIn (by rw [List.append_nil]; exact hl)
 rw [List.append_nil] at hb'
 refine wpAny_call (make_map (f := f) I.kIn M.makes M.init (beq_iff_eq.mp M.fn) (codeAny_mono (F.run _ X.stack _ _ ⟨Value.ref (s.heap.objs.size + 1) :: us, []⟩ (Value.ref (s.heap.objs.size + 1) :: us) _ _ (R σ) (hr.make C us [])
  (I2.env0.make C us []) hb' r2 hq) fun r s' hq' => ?_))
 cases r with
 | error e => exact hx pins σ _ _ e s' I2 hq'
 | ok fl =>
  cases fl with
  | ret u =>
   obtain ⟨v, H', I3, rv, ev, q3⟩ := I2.after hq'
   subst ev
   exact ⟨rv, ⟨V.ref (s.heap.objs.size + 1), H', I3, rfl, q3⟩⟩
  | _ => exact False.elim hq'
end
theorem comp_st {K : PySem.W.Frag} {a : Addr} {L : List V} {k : Nat} {te : TE} {D : Addr} {σ0 : St} {H : Hp} {Fn : Hp → Prop} (Pv : Nat → Hp → Prop) (h0 : Pv 0 (upd H D (.lst []))) (hS : ∀ i H', Pv i H' → aU K H' a L)
  (turn : ∀ i x H', L[i]? = some x → Pv i H' → te (σ0.set k (some x)) H' fun v H5 => ∃ xs, H5 D = some (.lst xs) ∧ xs.length < sizeLine ∧ Pv (i + 1) (upd H5 D (.lst (xs ++ [v]))))
  (hd : ∀ H', Pv L.length H' → Fn H') :
  ∃ W : Nat → Nat → St → Hp → Prop, (∃ m, W 0 m σ0 (upd H D (.lst []))) ∧ ∀ i m σ' H', W i m σ' H' →
   ((Itl K a).stop i H' ∧ Fn H') ∨ ((Itl K a).go i H' ∧ ∃ N : St → Hp → Prop, (∀ σ2 H2, N σ2 H2 → ∃ m', m' < m ∧ W (i + 1) m' σ2 H2) ∧ ∀ x H2, (Itl K a).yld i H' x H2 → dG k x σ' H2 fun σ3 H3 => tTrue σ3 H3 fun b H4 =>
    if b = true then te σ3 H4 fun v H5 => ∃ xs, H5 D = some (.lst xs) ∧ xs.length < sizeLine ∧ N σ3 (upd H5 D (.lst (xs ++ [v]))) else N σ3 H4) := by
 refine ⟨fun i m σ' H' => m = L.length - i ∧ i ≤ L.length ∧ (∀ y, σ'.set k y = σ0.set k y) ∧ Pv i H', ⟨L.length, rfl, Nat.zero_le _, fun _ => rfl, h0⟩, ?_⟩
 rintro i m σ' H' ⟨rfl, hi, hσ, pv⟩
 have sq := hS i H' pv
 by_cases hlt : i < L.length
 ·have hx : L[i]? = some L[i] := List.getElem?_eq_getElem hlt
  refine .inr ⟨⟨L, _, sq, hx⟩, fun σ2 H2 => (∀ y, σ2.set k y = σ0.set k y) ∧ Pv (i + 1) H2, ?_, ?_⟩
  ·rintro σ2 H2 ⟨q1, q2⟩
   exact ⟨L.length - (i + 1), by omega, rfl, hlt, q1, q2⟩
  ·rintro x H2 ⟨rfl, q⟩
   have ex := q L sq
   rw [hx] at ex
   cases ex
   simp only [dG, tTrue, if_true]
   rw [hσ]
   have t := turn i _ H2 hx pv
   have e : (fun (v : V) (H5 : Hp) => ∃ xs, H5 D = some (.lst xs) ∧ xs.length < sizeLine ∧ ((∀ y, (σ0.set k (some L[i])).set k y = σ0.set k y) ∧ Pv (i + 1) (upd H5 D (.lst (xs ++ [v]))))) = fun v H5 => ∃ xs, H5 D = some (.lst xs) ∧ xs.length < sizeLine ∧ Pv (i + 1) (upd H5 D (.lst (xs ++ [v]))) := by
    funext v H5
    refine propext ⟨fun ⟨xs, a, b, _, c⟩ => ⟨xs, a, b, c⟩, fun ⟨xs, a, b, c⟩ => ⟨xs, a, b, fun y => by rw [List.set_set], c⟩⟩
   show te (σ0.set k (some L[i])) H2 fun v H5 => ∃ xs, H5 D = some (.lst xs) ∧ xs.length < sizeLine ∧ ((∀ y, (σ0.set k (some L[i])).set k y = σ0.set k y) ∧ Pv (i + 1) (upd H5 D (.lst (xs ++ [v]))))
   rw [e]
   exact t
 ·have : i = L.length := by omega
  subst this
  exact .inl ⟨⟨L, sq, Nat.le_refl _⟩, hd H' pv⟩
noncomputable def toV : Value → V
 | .none => .non
 | .bool b => .bl b
 | .int i _ => .int i
 | .str x _ => .str x
 | .bytes b _ => .byt b
 | .float b _ => .flt b
 | .ref a => .ref a
 | .type n => .ty n
 | _ => .non
theorem toV_rel : ∀ {x : V} {u : Value}, RelV x u → toV u = x
 | .non, _, r => by cases r; rfl
 | .bl b, _, r => by cases r; rfl
 | .int i, _, ⟨t, e⟩ => by cases e; rfl
 | .str x, _, ⟨t, e⟩ => by cases e; rfl
 | .byt b, _, ⟨t, e⟩ => by cases e; rfl
 | .flt b, _, ⟨t, e⟩ => by cases e; rfl
 | .ref a, _, r => by cases r; rfl
 | .ty n, _, r => by cases r; rfl
noncomputable def rIndexL (K : PySem.W.Frag) (n : Nat) : V → List V → Hp → VK → Prop := fun x vs H Q => ∃ (l : Addr) (xs : List V) (y : V) (be : V → Bool) (j : Nat) (z : V), x = .ref l ∧ vs = [y] ∧ H l = some (.lst xs) ∧ (∀ z ∈ xs, EqD K H n z y (be z)) ∧ xs[j]? = some z ∧ be z = true ∧ (∀ (i : Nat) z, i < j → xs[i]? = some z → be z = false) ∧ Q (.int (j : Int)) H
section
variable {X : Cx}
theorem mt_indexL (K : PySem.W.Frag) (hK : X.K = K) (n : Nat) (hn : n ≤ 30) (hu : X.A.units + 64 < cLine) : MtR X "list.index" (rIndexL K n) := by
 subst hK
 intro pins s σ H x vs v us Q I rx rv h
 obtain ⟨l, xs, y, be, j, z, rfl, rfl, hH, he, hz, hb, hno, q⟩ := h
 cases rx
 obtain ⟨u, rfl, ru⟩ := rv.one
 obtain ⟨zz, its, m, r, hl, e⟩ := I.lstM hH
 have hj : j < xs.length := (List.getElem?_eq_some_iff.mp hz).1
 have at' : ∀ (i : Nat) (hi : i < its.length), ∃ x, xs[i]? = some x ∧ toV its[i] = x := fun i hi => by
  have hx : xs[i]? = some (xs[i]'(by omega)) := List.getElem?_eq_getElem _
  obtain ⟨w, hw, rw'⟩ := r.get hx
  rw [List.getElem?_eq_getElem hi] at hw
  cases hw
  exact ⟨_, hx, toV_rel rw'⟩
 have hsl : sizeLine ≤ 2 ^ 40 := by decide
 refine call_meets F.slot_list_index ⟨_, e, rfl⟩ F.entry_list_index (F.args_list_index_2 _ _) (SeqAt.list_indexAt l its.toArray m none #[] u (fun w => be (toV w)) j (by simpa [← hl] using hj) (by omega) ?_ ?_) ⟨e, fun w hw => ?_, ⟨.int _, H, I.tok _, ⟨_, rfl⟩, q⟩⟩
 ·obtain ⟨x, h1, h2⟩ := at' j (by omega)
  rw [hz] at h1; cases h1
  show be (toV its[j]) = true
  rw [h2]; exact hb
 ·intro i hi hlt
  have hi' : i < its.length := by simpa using hi
  obtain ⟨x, h1, h2⟩ := at' i hi'
  show be (toV its[i]) = false
  rw [h2]; exact hno i x hlt h1
 ·have hw' : w ∈ its := by simpa using hw
  obtain ⟨i, hi⟩ := List.mem_iff_getElem?.mp hw'
  have hil : i < its.length := (List.getElem?_eq_some_iff.mp hi).1
  have hx : xs[i]? = some (xs[i]'(by omega)) := List.getElem?_eq_getElem _
  obtain ⟨w2, hw2, rw2⟩ := r.get hx
  rw [hi] at hw2; cases hw2
  have ev := toV_rel rw2
  show SeqAt.EqAt X.A.in1 s w u (be (toV w))
  rw [ev]
  refine eqD_at I n X.A.in1 ?_ _ _ _ _ _ (he _ (List.mem_of_getElem? hx)) rw2 ru
  show X.A.units + 1 + n < cLine
  omega
theorem argBest_le (bt : Nat → Nat → Bool) : ∀ n, argBest bt n ≤ n
 | 0 => Nat.le_refl _
 | n + 1 => by
  unfold argBest
  split
  ·exact Nat.le_refl _
  ·exact Nat.le_succ_of_le (argBest_le bt n)
end
noncomputable def isT (H : Hp) : V → Bool
 | .ref a => match H a with
  | some (.tup _) => true
  | _ => false
 | _ => false
section
variable {K : PySem.W.Frag}
theorem k_nt : PySem.W.kitOne K (.type "NoneType") (.type "tuple") = some false := by kernel_rfl
theorem k_bt : PySem.W.kitOne K (.type "bool") (.type "tuple") = some false := by kernel_rfl
theorem k_it : PySem.W.kitOne K (.type "int") (.type "tuple") = some false := by kernel_rfl
theorem k_st : PySem.W.kitOne K (.type "str") (.type "tuple") = some false := by kernel_rfl
theorem k_lt : PySem.W.kitOne K (.type "list") (.type "tuple") = some false := by kernel_rfl
theorem k_tt : PySem.W.kitOne K (.type "tuple") (.type "tuple") = some true := by kernel_rfl
theorem k_dt : PySem.W.kitOne K (.type "dict") (.type "tuple") = some false := by kernel_rfl
variable {H : Hp} {x : V}
theorem Kd.isTuple (k : Kd K H x) : IsX K H x (.type "tuple") (isT H x) := by
 cases k with
 | non => exact ⟨_, .of .non, k_nt⟩
 | bl b => exact ⟨_, .of (.bl b), k_bt⟩
 | int i => exact ⟨_, .of (.int i), k_it⟩
 | str y => exact ⟨_, .of (.str y), k_st⟩
 | lst e => refine ⟨_, .of (.lst e), ?_⟩; simp only [isT, e]; exact k_lt
 | tup e => refine ⟨_, .of (.tup e), ?_⟩; simp only [isT, e]; exact k_tt
 | dict e => refine ⟨_, .dict e, ?_⟩; simp only [isT, e, gH]; exact k_dt
end
structure DefA (P : Program) (w : World) (K : PySem.W.Frag) (mg : Str → Option Value) (base : Heap) (k : Nat) (f : Addr) (ps : List Str) (ds : List V) (sp : Sp) : Prop where
 ex : ∃ (fd : FuncData) (dvs : List Value), bB P w K mg base gh k f fd ps sp ∧ PySem.W.keepIn K (.ref f) = true ∧ Binds K fd ps dvs ∧ Vals ds dvs
section
variable {P : Program} {w : World} {K : PySem.W.Frag} {mg : Str → Option Value} {base : Heap}
theorem bI.defA {x qual : Str} {st : Stmt} {f : Addr} {fd : FuncData} {ps : List Str} {k : Nat} {sp : Sp} (F : bI K x qual st .none f fd) (G : bB P w K mg base gh k f fd ps sp)
  (h : ∀ (kV doc pm : Value) (an : Option Addr) (cdv ct : Value) (us : List Value), us.length = ps.length → bindArgs (PySem.W.fnOf x qual (aL st) (aF st) (ao st) .none kV doc pm an cdv ct) ⟨us, []⟩ = pure (ps.zip us)) : DefA P w K mg base k f ps [] sp := by
 obtain ⟨oc, od, kV, doc, pm, an, cdv, ct, osl, rfl, lk, hcd⟩ := F.ex
 exact ⟨_, [], G, F.kp, .all (h kV doc pm an cdv ct), .nil⟩
end
section
variable {X : Cx}
theorem ld_var {E : Value → Shared → Prop} {pins : List (Addr × Obj)} {s : Shared} {σ : St} {H : Hp} {i : Nat} {x : Str} {v : V} {pos : Pos} {Q : Value → Shared → Prop} (I : Inv X pins σ H s) (hN : X.N[i]? = some x) (hv : Vis X.env.scope x) (e : σ[i]? = some (some v)) (h : ∀ u, RelV v u → Q u s)
  (hd : (x == ("__debug__" : Str)) = false := by decide) (hcd : (x == ("__classdict__" : Str)) = false := by decide) : wpAny (model X.prog X.w) X.A (eval (.Name x pos) X.env) Q E s := by
 obtain ⟨m, hn, hl⟩ := I.loc
 obtain ⟨u, r, l⟩ := hl i x v hN e hv
 have fin := h u r
 rcases l with ⟨hk, hm⟩ | ⟨hk, c, hc, hcell⟩
 ·exact wpAny_Name (wpAny_loadName_local I.ok.kind hk hn hm fin) hd
 ·rcases hk with hk | hk
  ·exact wpAny_Name (wpAny_loadName_cell I.ok.kind hk hc hcell fin) hd
  ·exact wpAny_Name (wpAny_loadName_free I.ok.kind hk hc hcell fin hcd) hd
noncomputable def tCallV (i : Nat) (f : Addr) (sp : Sp) (dvs : List V) (E : XK) (t : TA) : TE := fun σ H Q => σ[i]? = some (some (.ref f)) ∧ tCall sp dvs E t σ H Q
theorem pe_callV (i : Nat) {k : Nat} {x : Str} {f : Addr} {ps : List Str} {ds : List V} {sp : Sp} {e : Expr} {es : List Expr} {t : TA} {p pos : Pos} (D : DefA X.prog X.w X.K X.mg X.base k f ps ds sp) (hr : fB k X.A) (ha : PA X (e :: es) t)
  (hN : X.N[i]? = some x := by rfl) (hv : Vis X.env.scope x := by first | exact Or.inl rfl | exact Or.inr (Or.inl rfl) | exact Or.inr (Or.inr rfl)) (hdb : (x == ("__debug__" : Str)) = false := by decide) (hcd : (x == ("__classdict__" : Str)) = false := by decide)
  (he : starEach (e :: es) X.env = (false, eval e X.env) :: starEach es X.env := by rfl) (hpl : (backTo pos (starEach es X.env)).any (·.1) = false := by rfl) :
  PE X (.Call (.Name x p) (e :: es) [] pos) (tCallV i f sp ds E0 t) := by
 obtain ⟨fd, dvs, F, hk, hb, hd⟩ := D.ex
 intro pins s σ H Q I ⟨hi, h⟩
 refine wpAny_Call_Name_kw (ld_var I hN hv hi (fun u r => ?_) hdb hcd)
 obtain rfl : u = Value.ref f := r
 refine PySem.W.callWith_K (h₀ := X.base) I.ok.mod.kin hk (bZ (ha pos pins s σ H _ I h) fun us s1 ⟨vs, H1, I1, r, q⟩ => ⟨I1.kIn, ?_⟩) he hpl
 exact run_fn F hr hb hd pass0 I1 r q
end
section
variable {X : Cx}
noncomputable def rIsXE (K : PySem.W.Frag) : List V → Hp → VK → Prop := fun xs H Q => ∃ (a C tp : Addr) (Cs : List Addr) (b : Bool), xs = [.ref a, .ref tp] ∧ H a = some (iY a C) ∧ XCls K C ∧ dC K H tp (Cs.map V.ref) ∧ PySem.W.kitAny K (.ref C) (Cs.map Value.ref) = some b ∧ Q (.bl b) H
theorem vals_refs : ∀ {Cs : List Addr} {us : List Value}, Vals (Cs.map V.ref) us → us = Cs.map Value.ref
 | [], _, r => by cases r; rfl
 | C :: Cs, _, .cons r t => by rw [show _ = Value.ref C from r, vals_refs t]; rfl
theorem call_isXE (K : PySem.W.Frag) (hK : X.K = K) : gU X (.builtin "isinstance") (rIsXE K) := by
 subst hK
 intro pins s σ H xs us Q I rs h
 obtain ⟨a, C, tp, Cs, b, rfl, ea, cc, ht, e, q⟩ := h
 obtain ⟨u, w', rfl, r1, r2⟩ := vals2 rs
 cases r1
 cases r2
 obtain ⟨its, r, p1, _⟩ := I.tuple ht
 have ei := vals_refs r
 subst ei
 obtain ⟨⟨oc, od, odt, osl⟩, e1, ec, n, ed⟩ := p1
 cases ec
 cases ed
 obtain ⟨⟨ox, vx, p1, p2, p3, _⟩, _, _⟩ := (show dU X.prog X.w H s.heap a (iY a C) from I.hok a _ ea)
 have p : ∃ o vs, s.heap.get? a = some o ∧ o.cls = Value.ref C ∧ o.data = Data.fields vs := ⟨ox, vx, p1, p2, p3⟩
 exact PySem.W.kia_tup (kitx_exc cc) I.kIn p e1 e (fun z => nomatch z) fun tk => ⟨.bl b, H, I.tok tk, rfl, q⟩
theorem kitAny_none {K : PySem.W.Frag} {t : Value} : ∀ {Cs : List Addr}, (∀ c ∈ Cs, PySem.W.kitOne K t (.ref c) = some false) → PySem.W.kitAny K t (Cs.map Value.ref) = some false
 | [], _ => rfl
 | c :: r, h => by
  rw [List.map_cons]
  unfold PySem.W.kitAny
  rw [h c List.mem_cons_self]
  exact kitAny_none fun d hd => h d (List.mem_cons_of_mem _ hd)
end
section
variable {X : Cx}
noncomputable def eO (ns : List Int) : Int := ns.getD (argBest (fun i j => decide (ns.getD i 0 > ns.getD j 0)) (ns.length - 1)) 0
theorem maxI_mem {ns : List Int} (h : ns ≠ []) : eO ns ∈ ns := by
 unfold eO
 have hl : 0 < ns.length := List.length_pos_iff.mpr h
 have hle := argBest_le (fun i j => decide (ns.getD i 0 > ns.getD j 0)) (ns.length - 1)
 have hlt : argBest (fun i j => decide (ns.getD i 0 > ns.getD j 0)) (ns.length - 1) < ns.length := by omega
 rw [List.getD_eq_getElem?_getD, List.getElem?_eq_getElem hlt]
 exact List.getElem_mem hlt
theorem le_maxI {ns : List Int} (h : ns ≠ []) : ∀ n ∈ ns, n ≤ eO ns := fun n hn => by
 obtain ⟨i, hi, rfl⟩ := List.getElem_of_mem hn
 have := (argBest_gt (fun i => ns.getD i 0) (ns.length - 1)).2 i (by omega)
 have e : ns.getD i 0 = ns[i] := by simp [List.getD, hi]
 rw [e] at this
 exact this
theorem call_maxI (K : PySem.W.Frag) (hK : X.K = K) (hc : X.calm = true) : gU X (.builtin "max") (fun xs H Q => ∃ p ns, xs = [.ref p] ∧ aU K H p (ns.map V.int) ∧ ns ≠ [] ∧ Q (.int (eO ns)) H) := by
 subst hK
 intro pins s σ H xs us Q I r h
 obtain ⟨p, ns, rfl, hp, hne, q⟩ := h
 obtain ⟨u, rfl, ru⟩ := vals1 r
 cases ru
 obtain ⟨its, rv, pl, hz⟩ := I.list hp
 have hlen := rv.length
 rw [List.length_map] at hlen
 have hlt : @LT.lt Nat instLTNat p s.heap.objs.size := by obtain ⟨_, e, _⟩ := pl.isList; exact Heap.lt_size e
 have hyl : 0 < ns.length := List.length_pos_iff.mpr hne
 have val : ∀ (i : Nat) (v : Value), its.toArray[i]? = some v → ∃ t, v = Value.int (ns.getD i 0) t := fun i v hv => by
  have hv' : its[i]? = some v := by simpa using hv
  have hi : i < ns.length := by have := (List.getElem?_eq_some_iff.mp hv').1; omega
  obtain ⟨w, hw, rw'⟩ := rv.get (show (ns.map V.int)[i]? = some (.int ns[i]) by rw [List.getElem?_map, List.getElem?_eq_getElem hi]; rfl)
  rw [hv'] at hw; cases hw
  obtain ⟨t, rfl⟩ := rw'
  exact ⟨t, by simp [List.getD, hi]⟩
 refine call_max_walk (wpAny_pyIter_list pl.isList ?_)
 refine ⟨s.heap.objs.size, _, _, _, _, _, fun i j => decide (ns.getD i 0 > ns.getD j 0), rfl, Walks.list (A := X.A.in1) (I.ok.hd hc) _ p (Nat.ne_of_lt hlt) its.toArray, ⟨⟨_, Heap.get?_push_size _ rfl, rfl, rfl⟩, pl.isList.push _⟩, fun b hb => ?_, by simp; omega, fun i j vi vj s Q E hi hj h => ?_, fun v h' tk hP hk => ?_⟩
 ·show @LT.lt Nat instLTNat b (s.heap.push _).objs.size
  rw [Heap.size_push]
  rcases List.mem_cons.mp hb with e | hb
  ·rw [e]; exact Nat.lt_succ_self _
  ·rw [List.mem_singleton.mp hb]; exact Nat.lt_succ_of_lt hlt
 ·obtain ⟨t1, rfl⟩ := val i vi hi
  obtain ⟨t2, rfl⟩ := val j vj hj
  exact richCompare_gives (op := .Gt) (typeIs_int s _ t1) (typeIs_int s _ t2) F.slot_int_gt F.entry_int_gt (F.args_int_gt_2 _ _) (gives_int_gt _ _ t1 t2) (fun x => nomatch x) h
 ·obtain ⟨t, rfl⟩ := val _ v hP
  have es : its.toArray.size - 1 = ns.length - 1 := by simp; omega
  rw [es]
  exact ⟨.int _, H, I.kept (t' := tk) fun b o e => hk b o (fun hm => by
   have := Heap.lt_size e
   rw [List.mem_singleton.mp hm] at this
   exact Nat.lt_irrefl _ this) (Heap.get?_push_of_some _ e), ⟨t, rfl⟩, q⟩
end
structure FnOkM (P : Program) (w : World) (K : PySem.W.Frag) (mg : Str → Option Value) (base : Heap) (k : Nat) (f : Addr) (fd : FuncData) (ps : List Str) (sp : Addr → Sp) : Prop where
 len : ∀ ea vs H Q E, sp ea vs H Q E → vs.length = ps.length
 run : ∀ (A : Around) (ea : Addr) (outer : List Env) (s : Shared) (H : Hp) (args : Args) (us : List Value) (vs : List V) (Q : VK) (E : XK), fB k A → Env0 P w K mg base (A.mark (some (.ref ea))) outer s H → BindsTo s fd args (ps.zip us) → Vals vs us → sp ea vs H Q E →
  codeAny (model P w) (A.mark (some (.ref ea))) (.call (.ref f) args) (CR gh outer P w H s Q E) s
structure DefM (P : Program) (w : World) (K : PySem.W.Frag) (mg : Str → Option Value) (base : Heap) (k : Nat) (x : Str) (ps : List Str) (ds : List V) (sp : Addr → Sp) : Prop where
 ex : ∃ (f : Addr) (fd : FuncData) (dvs : List Value), FnOkM P w K mg base k f fd ps sp ∧ mg x = some (.ref f) ∧ PySem.W.keepIn K (.ref f) = true ∧ Binds K fd ps dvs ∧ Vals ds dvs
section
variable {P : Program} {w : World} {K : PySem.W.Frag} {mg : Str → Option Value} {base : Heap}
theorem Env0.unmark {A : Around} {ea : Addr} {outer : List Env} {s : Shared} {H : Hp} (e : Env0 P w K mg base (A.mark (some (.ref ea))) outer s H) : Env0 P w K mg base A outer s H := ⟨e.frames, e.mod, e.bs, e.bsz, e.funs, e.frf, e.hok, e.bare⟩
theorem bI.okM {x qual : Str} {st : Stmt} {dV : Value} {f : Addr} {fd : FuncData} {N ps : List Str} {k : Nat} {sp : Addr → Sp} (F : bI K x qual st dV f fd) (S : aO N ps (ao st)) (len : ∀ ea vs H Q E, sp ea vs H Q E → vs.length = ps.length)
  (hbody : ∀ (cdv : Value) (A : Around) (ea : Addr) (outer : List Env) (s : Shared) (H : Hp) (vs : List V) (Q : VK) (E : XK), fB k (A.deeper (envOfC qual (ao st) s.heap.objs.size f cdv)) → sp ea vs H Q E →
   ∃ t, PSs ((gY gh P w K mg base N qual (ao st) f cdv A outer s H E).marked ea) (aF st) t ∧ t { nx := fun _ H' => Q .non H', rt := Q } (start N vs) H) : FnOkM P w K mg base (k + 1) f fd ps sp := by
 obtain ⟨oc, od, kV, doc, pm, an, cdv, ct, osl, rfl, lk, hcd⟩ := F.ex
 refine ⟨len, fun A ea outer s H args us vs Q E hr e0 hb r hsp => ?_⟩
 have hl := len _ _ _ _ _ hsp
 have KX : K.In s.heap := e0.mod.kin.keeps fun b o e => (e0.bs b o e).1
 have lim : s.heap.NoLimit := e0.mod.nolimit.keeps fun b o e => (e0.bs b o e).1
 have hkind : ∀ y ∈ ps.zip us, (ao st).names.lookup y.1 = some .local ∨ ((ao st).names.lookup y.1 = some .cell ∧ ((cellsFrom (s.heap.objs.size + 1) (ao st).names []).lookup y.1).isSome = true) := fun ⟨n, v⟩ hy => by
  rcases S.par n (List.of_mem_zip hy).1 with q | q
  ·exact .inl q
  ·exact .inr ⟨q, PySem.W.cellsFrom_some _ _ _ (.inl q)⟩
 refine codeAny_call_function (A := A.mark (some (.ref ea))) hr.depth (KX _ _ lk) rfl S.co S.gen rfl (PySem.W.codeRec_of KX hcd) (hb _ _ _ _ ?_)
 refine wpAny_newFunctionEnv_cells S.kind hkind fun env he s1 x => ?_
 subst he
 refine ⟨lim.keeps x.toInCall.keep, codeAny_func ?_⟩
 obtain ⟨t, ht, hq⟩ := hbody cdv A ea outer s H vs Q E (hr.deeper _) hsp
 have I : Inv ((gY gh P w K mg base N qual (ao st) f cdv A outer s H E).marked ea) [] (start N vs) H s1 := (inv_start S hr.hd e0.unmark hl r x).marked ea
 refine wpAny_mono (ht [] s1 (start N vs) H _ I hq) (fun fl s' hs => ?_) fun e s' hs => False.elim hs
 have fin : ∀ {σ' : St} {H' : Hp} {v : V} {u : Value}, Inv ((gY gh P w K mg base N qual (ao st) f cdv A outer s H E).marked ea) [] σ' H' s' → RelV v u → Q v H' → CE outer P w H s Q u s' :=
  fun {σ' H' v u} J rv q => ⟨v, H', J.os, J.bare, J.base, J.hok, rv, q⟩
 cases fl with
 | ret u =>
  obtain ⟨v, σ', H', J, rv, q⟩ := hs
  exact fin J rv q
 | next =>
  obtain ⟨σ', H', J, q⟩ := hs
  exact fin (v := V.non) (u := Value.none) J rfl q
 | brk =>
  obtain ⟨_, _, _, q⟩ := hs
  exact False.elim q
 | cont =>
  obtain ⟨_, _, _, q⟩ := hs
  exact False.elim q
theorem bI.defM {x qual : Str} {st : Stmt} {f : Addr} {fd : FuncData} {ps : List Str} {k : Nat} {sp : Addr → Sp} (F : bI K x qual st .none f fd) (G : FnOkM P w K mg base k f fd ps sp) (hm : mg x = some (.ref f))
  (h : ∀ (kV doc pm : Value) (an : Option Addr) (cdv ct : Value) (us : List Value), us.length = ps.length → bindArgs (PySem.W.fnOf x qual (aL st) (aF st) (ao st) .none kV doc pm an cdv ct) ⟨us, []⟩ = pure (ps.zip us)) : DefM P w K mg base k x ps [] sp := by
 obtain ⟨oc, od, kV, doc, pm, an, cdv, ct, osl, rfl, lk, hcd⟩ := F.ex
 exact ⟨f, _, [], G, hm, F.kp, .all (h kV doc pm an cdv ct), .nil⟩
end
section
variable {X : Cx}
theorem pe_callM {k : Nat} {x : Str} {ps : List Str} {ds : List V} {sp : Addr → Sp} {e : Expr} {es : List Expr} {t : TA} {p pos : Pos} {ea : Addr} (D : DefM X.prog X.w X.K X.mg X.base k x ps ds sp) (hr : fB k X.A) (hg : Gl (X.marked ea) x)
  (ha : PA (X.marked ea) (e :: es) t) (hdb : (x == ("__debug__" : Str)) = false := by decide) (he : starEach (e :: es) X.env = (false, eval e X.env) :: starEach es X.env := by rfl) (hpl : (backTo pos (starEach es X.env)).any (·.1) = false := by rfl) :
  PE (X.marked ea) (.Call (.Name x p) (e :: es) [] pos) (tCall (sp ea) ds E0 t) := by
 obtain ⟨f, fd, dvs, F, hm, hk, hb, hd⟩ := D.ex
 intro pins s σ H Q I h
 refine wpAny_Call_Name_kw (ld_glob I hg hm ?_ hdb)
 refine PySem.W.callWith_K (h₀ := X.base) I.ok.mod.kin hk (bZ (ha pos pins s σ H _ I h) fun us s1 ⟨vs, H1, I1, r, q⟩ => ⟨I1.kIn, ?_⟩) he hpl
 have r2 : Vals (vs ++ ds) (us ++ dvs) := r.append hd
 have hl : (us ++ dvs).length = ps.length := by rw [← r2.length]; exact F.len _ _ _ _ _ q
 refine wpAny_call (codeAny_mono (F.run X.A ea X.stack s1 H1 ⟨us, []⟩ (us ++ dvs) (vs ++ ds) Q E0 hr I1.env0 (hb s1 us I1.kIn hl) r2 q) fun r s' hq => ?_)
 cases r with
 | error e => exact False.elim hq
 | ok fl =>
  cases fl with
  | ret u => exact I1.after hq
  | next => exact False.elim hq
  | brk => exact False.elim hq
  | cont => exact False.elim hq
end
set_option maxHeartbeats 1600000
theorem tuple_addW0 (l b : Addr) (items items2 : Array Value) (n n2 : Nat) (dd dd2 : Option Addr) (sl sl2 : Array (Option Value)) (hc0 : items.isEmpty = true) :
  Meets (Builtin.«tuple.__add__» ⟨[.ref l, .ref b], []⟩) (fun _ R s => s.heap.get? l = some { cls := .type "tuple", dict := dd, data := .seq items n, slots := sl } ∧ s.heap.get? b = some { cls := .type "tuple", dict := dd2, data := .seq items2 n2, slots := sl2 } ∧ R (.ok (.ret (Value.ref b))) { s with heap := s.heap, toks := s.toks }) :=
 .of_wp fun prog w A R s h => by obtain ⟨hp, g, d, tk, os⟩ := s; obtain ⟨hl, hb, h⟩ := h; have f2 := PySem.AutoSeq1.sub_tuple_tuple; wp_walk using wpAny_loadPart' hl, wpAny_loadPart' hb; exact ⟨_, rfl, h⟩
section
variable {X : Cx}
noncomputable def rCatA (K : PySem.W.Frag) : R2 := fun x y H Q => ∃ a b xs ys, x = .ref a ∧ y = .ref b ∧ dC K H a xs ∧ dC K H b ys ∧ xs.length + ys.length ≤ sizeLine ∧
 (xs = [] → Q (.ref b) H) ∧ (xs ≠ [] → ys = [] → Q (.ref a) H) ∧ (xs ≠ [] → ys ≠ [] → ∀ p, H p = none → Q (.ref p) (upd H p (.tup (xs ++ ys))))
theorem op_catA : OpR X (binaryOp .Add) (rCatA X.K) := by
 intro pins s σ H x y v u Q I rx ry h
 obtain ⟨a, b, xs, ys, rfl, rfl, ha, hb, hz, q0, q1, q2⟩ := h
 by_cases hx : xs = []
 ·cases rx
  cases ry
  obtain ⟨its, r1, p1, _⟩ := I.tuple ha
  obtain ⟨its2, r2, p2, _⟩ := I.tuple hb
  obtain ⟨⟨cls, dd, data, sl⟩, ho, hc, n, hd⟩ := id p1
  obtain ⟨⟨cls2, dd2, data2, sl2⟩, ho2, hc2, n2, hd2⟩ := id p2
  simp only at hc hd hc2 hd2
  subst hc hd hc2 hd2
  exact concat_meets ⟨_, ho, rfl⟩ ⟨_, ho2, rfl⟩ noFill_tuple_add seq_tuple_add PySem.F.slot_tuple_add PySem.F.entry_tuple_add (PySem.F.args_tuple_add_2 _ _)
   (tuple_addW0 a b its.toArray its2.toArray n n2 dd dd2 sl sl2 (by rw [r1.nil_iff.mpr hx]; rfl)) ⟨ho, ho2, ⟨.ref b, H, I, rfl, q0 hx⟩⟩
 ·exact op_catT pins s σ H _ _ v u Q I rx ry ⟨a, b, xs, ys, rfl, rfl, ha, hb, hx, hz, q1 hx, q2 hx⟩
end
noncomputable def rInD (K : PySem.W.Frag) (neg : Bool) (n : Nat) : R2 := fun x y H Q => ∃ (p : Addr) (xs : List V) (be : V → Bool), y = .ref p ∧ aU K H p xs ∧ (∀ z ∈ xs, EqD K H n z x (be z)) ∧ Q (.bl (if neg then !(xs.any be) else xs.any be)) H
theorem any_toV {be : V → Bool} : ∀ {xs : List V} {us : List Value}, Vals xs us → us.any (fun w => be (toV w)) = xs.any be
 | _, _, .nil => rfl
 | _, _, .cons r t => by rw [List.any_cons, List.any_cons, any_toV t, toV_rel r]
section
variable {X : Cx}
theorem inD_at {pins : List (Addr × Obj)} {s : Shared} {σ : St} {H : Hp} {n : Nat} (hn : n ≤ 30) (hu : X.A.units + 64 < cLine) (I : Inv X pins σ H s) {x : V} {v : Value} (rx : RelV x v) {be : V → Bool} : ∀ {xs : List V} {us : List Value}, Vals xs us → (∀ z ∈ xs, EqD X.K H n z x (be z)) → ∀ u ∈ us, SeqAt.EqAt X.A.in1 s u v (be (toV u))
 | _, _, .nil, _, u, hu' => nomatch hu'
 | z :: xs, w :: us, .cons r t, he, u, hu' => by
  rcases List.mem_cons.mp hu' with e | hm
  ·rw [e, toV_rel r]
   refine eqD_at I n X.A.in1 ?_ _ _ _ _ _ (he z List.mem_cons_self) r rx
   show X.A.units + 1 + n < cLine
   omega
  ·exact inD_at hn hu I rx t (fun z hz => he z (List.mem_cons_of_mem _ hz)) u hm
theorem op_inD (K : PySem.W.Frag) (hK : X.K = K) (n : Nat) (hn : n ≤ 30) (hu : X.A.units + 64 < cLine) : OpR X (compareOp .In) (rInD K false n) := by
 subst hK
 intro pins s σ H x y v u Q I rx ry h
 obtain ⟨p, xs, be, rfl, hq, he, q⟩ := h
 cases ry
 obtain ⟨its, r, pl, hz⟩ := I.list hq
 refine SeqAt.in_listAt (fun w => be (toV w)) pl.isList (fun w hw => inD_at hn hu I rx r he w (by simpa using hw)) ⟨.bl _, H, I, rfl, ?_⟩
 rw [show its.toArray.any (fun w => be (toV w)) = its.any (fun w => be (toV w)) by simp, any_toV r]
 exact q
theorem op_notInD (K : PySem.W.Frag) (hK : X.K = K) (n : Nat) (hn : n ≤ 30) (hu : X.A.units + 64 < cLine) : OpR X (compareOp .NotIn) (rInD K true n) := by
 subst hK
 intro pins s σ H x y v u Q I rx ry h
 obtain ⟨p, xs, be, rfl, hq, he, q⟩ := h
 cases ry
 obtain ⟨its, r, pl, hz⟩ := I.list hq
 refine SeqAt.notIn_listAt (fun w => be (toV w)) pl.isList (fun w hw => inD_at hn hu I rx r he w (by simpa using hw)) ⟨.bl _, H, I, rfl, ?_⟩
 rw [show its.toArray.any (fun w => be (toV w)) = its.any (fun w => be (toV w)) by simp, any_toV r]
 exact q
end
end L2
namespace M4
end M4
set_option maxHeartbeats 4000000
namespace K17
open PySem L2 M4
noncomputable abbrev C4 := Addr × Nat × Nat × Nat
theorem sz0 : 0 ≤ sizeLine := by decide
theorem sz1 : 1 ≤ sizeLine := by decide
theorem sz2 : 2 ≤ sizeLine := by decide
theorem sz3 : 3 ≤ sizeLine := by decide
theorem sz4 : 4 ≤ sizeLine := by decide
theorem sz5 : 5 ≤ sizeLine := by decide
theorem sz7 : 7 ≤ sizeLine := by decide
theorem sz8 : 8 ≤ sizeLine := by decide
theorem sz9 : 9 ≤ sizeLine := by decide
theorem sz11 : 11 ≤ sizeLine := by decide
noncomputable def top (i : Nat) : Stmt := PySem.Challenge.pw_cellfolio_k17_shown_and_taken.main.body.getD i (.Pass ⟨0, 0, 0, 0⟩)
noncomputable abbrev cW : Stmt := top 29
noncomputable abbrev cg : Stmt := top 30
noncomputable abbrev il : Stmt := top 31
noncomputable abbrev ik : Stmt := top 32
noncomputable abbrev bQ : Stmt := top 33
noncomputable abbrev bC : Stmt := top 34
noncomputable abbrev eQ : Stmt := top 35
noncomputable abbrev dD : Stmt := top 36
noncomputable abbrev fU : Stmt := top 38
noncomputable abbrev fM : Stmt := top 41
noncomputable abbrev dH : Stmt := top 42
noncomputable abbrev s_Palette.__init__ : Stmt := inClass (top 45) 0
noncomputable abbrev s_Palette.colours : Stmt := inClass (top 45) 1
noncomputable abbrev s_Palette.many : Stmt := inClass (top 45) 2
noncomputable abbrev s_Palette.colour_of : Stmt := inClass (top 45) 3
noncomputable abbrev s_Palette.cell_of : Stmt := inClass (top 45) 4
noncomputable abbrev s_Palette.add_colour : Stmt := inClass (top 45) 5
noncomputable abbrev bV : Stmt := top 46
noncomputable abbrev eU : Stmt := top 47
noncomputable abbrev dg : Stmt := top 48
noncomputable abbrev dh : Stmt := top 49
noncomputable abbrev dY : Stmt := top 51
noncomputable abbrev fO : Stmt := top 52
noncomputable abbrev gk : Stmt := top 53
noncomputable abbrev dj : Stmt := top 54
noncomputable abbrev dI : Stmt := top 55
noncomputable abbrev gw : Stmt := top 56
noncomputable abbrev gr : Stmt := top 57
noncomputable abbrev dM : Stmt := top 58
noncomputable abbrev eH : Stmt := top 59
noncomputable abbrev cV : Stmt := top 60
noncomputable abbrev gZ : Stmt := top 61
noncomputable abbrev bc : Stmt := top 62
noncomputable abbrev dN : Stmt := top 63
noncomputable abbrev cJ : Stmt := top 64
noncomputable abbrev cX : Stmt := top 65
noncomputable abbrev cI : Stmt := top 66
noncomputable abbrev cY : Stmt := top 67
noncomputable abbrev bT : Stmt := top 68
noncomputable abbrev gK : Stmt := top 69
theorem iteB {b : Bool} {A B : Prop} (h1 : b = true → A) (h2 : b = false → B) : if b = true then A else B := by
 cases b with
 | true => exact iteT (h1 rfl)
 | false => exact iteF (h2 rfl)
theorem iteN {b : Bool} {A B : Prop} (h1 : b = false → A) (h2 : b = true → B) : if (!b) = true then A else B := by
 cases b with
 | true => exact iteF (h2 rfl)
 | false => exact iteT (h1 rfl)
noncomputable def bU (lo hi : Int) : V → Bool
 | .int i => decide (lo ≤ i) && decide (i ≤ hi)
 | _ => false
noncomputable def ir (rows : List (List Int)) : List (List V) := rows.map fun r => r.map V.int
structure Good (rows : List (List Int)) (w : Nat) : Prop where
 ne : 1 ≤ rows.length
 le : rows.length ≤ 24
 w1 : 1 ≤ w
 w24 : w ≤ 24
 row : ∀ r ∈ rows, r.length = w ∧ ∀ c ∈ r, 0 ≤ c ∧ c ≤ 15
noncomputable def isWf (lo : Int) : V → Bool
 | .int i => decide (lo ≤ i)
 | _ => false
noncomputable def spWf (K : W.Frag) : Sp := fun vs H Q _ => ∃ x lo, vs = [x, .int lo] ∧ Kd K H x ∧ Q (.bl (isWf lo x)) H
noncomputable def spWh (K : W.Frag) : Sp := fun vs H Q _ => ∃ x lo hi, vs = [x, .int lo, .int hi] ∧ Kd K H x ∧ Q (.bl (bU lo hi x)) H
noncomputable def spInQ (K : W.Frag) (lo hi : Int) : Sp := fun vs H Q _ => ∃ x, vs = [x] ∧ Kd K H x ∧ Q (.bl (bU lo hi x)) H
noncomputable abbrev spCellQ (K : W.Frag) : Sp := spInQ K 0 15
noncomputable def spSide (K : W.Frag) : Sp := fun vs H Q _ => ∃ x, vs = [x] ∧ Kd K H x ∧ Q (.bl (bU 1 24 x)) H
noncomputable def spLocG (K : W.Frag) (lo hi : Int) : Sp := fun vs H Q _ => ∃ x, vs = [x] ∧ ((∃ a xs, x = .ref a ∧ H a = some (.lst xs) ∧ xs.length ≤ 1000000 ∧ (∀ y ∈ xs, Kd K H y) ∧ ∀ H', aB H H' → Q (.bl (xs.all (bU lo hi))) H') ∨ (Kd K H x ∧ isL H x = false ∧ Q (.bl false) H))
noncomputable def spLocFG (K : W.Frag) (fC : Addr) (lo hi : Int) : Sp := fun vs H Q E => ∃ x, vs = [x, .ref fC] ∧ spLocG K lo hi [x] H Q E
noncomputable abbrev spLocF (K : W.Frag) (fC : Addr) : Sp := spLocFG K fC 0 15
structure Txt (K : W.Frag) (mg : Str → Option Value) (cFE cC cN cM cP cL cB cD cZ : Addr) (tP tS tC tI : Tok) : Prop where
 len : mg "len" = none
 range : mg "range" = none
 isinstance : mg "isinstance" = none
 int : mg "int" = none
 bool : mg "bool" = none
 list : mg "list" = none
 all : mg "all" = none
 enumerate : mg "enumerate" = none
 min : mg "min" = none
 max : mg "max" = none
 sum : mg "sum" = none
 tuple : mg "tuple" = none
 set : mg "set" = none
 sorted : mg "sorted" = none
 ValueError : mg "ValueError" = none
 MOST_PART : mg "MOST_PART" = some (.int 255 tP)
 MOST_COLOURS : mg "MOST_COLOURS" = some (.int 16 tS)
 MOST_CELL : mg "MOST_CELL" = some (.int 15 tC)
 MOST_SIDE : mg "MOST_SIDE" = some (.int 24 tI)
 FolioError : mg "FolioError" = some (.ref cFE)
 BadColour : mg "BadColour" = some (.ref cC)
 xBadColour : W.excIn K cC mroVE "ValueError.__new__" = true
 kC : XCls K cC
 eC : W.exmOne K (.ref cC) (.ref cFE) = some true
 NoColour : mg "NoColour" = some (.ref cN)
 xNoColour : W.excIn K cN mroVE "ValueError.__new__" = true
 kN : XCls K cN
 eN : W.exmOne K (.ref cN) (.ref cFE) = some true
 TooMany : mg "TooMany" = some (.ref cM)
 xTooMany : W.excIn K cM mroVE "ValueError.__new__" = true
 kM : XCls K cM
 eM : W.exmOne K (.ref cM) (.ref cFE) = some true
 BadPalette : mg "BadPalette" = some (.ref cP)
 xBadPalette : W.excIn K cP mroVE "ValueError.__new__" = true
 kP : XCls K cP
 eP : W.exmOne K (.ref cP) (.ref cFE) = some true
 BadPicture : mg "BadPicture" = some (.ref cB)
 xBadPicture : W.excIn K cB mroVE "ValueError.__new__" = true
 kB : XCls K cB
 eB : W.exmOne K (.ref cB) (.ref cFE) = some true
 BadCell : mg "BadCell" = some (.ref cD)
 xBadCell : W.excIn K cD mroVE "ValueError.__new__" = true
 kD : XCls K cD
 eD : W.exmOne K (.ref cD) (.ref cFE) = some true
 BadSize : mg "BadSize" = some (.ref cZ)
 xBadSize : W.excIn K cZ mroVE "ValueError.__new__" = true
 kZ : XCls K cZ
 eZ : W.exmOne K (.ref cZ) (.ref cFE) = some true
 cl : Cls K cL
 nK : NoAttr K cL "kept"
 mgL : mg "Palette" = some (.ref cL)
 cA : W.findIn K (.ref cL) "__class__" = some (some (.builtin "object.__class__"))
 cG : W.specialIn K (.builtin "object.__class__") "__get__" = some (some (.builtin "getset_descriptor.__get__"))
 cT : W.takesIn K (.builtin "object.__class__") = some true
 cO : W.mroIn K cL (.type "object") = some true
 kL : W.kitOne K (.ref cL) (.ref cL) = some true
theorem boot_VE : bootBuiltins "ValueError" = some (.type "ValueError") := by decide +kernel
section
variable {P : Program} {w : World} {K : W.Frag} {mg : Str → Option Value} {base : Heap} {cFE cC cN cM cP cL cB cD cZ : Addr} {tP tS tC tI : Tok}
theorem sc_is_whole_from : aO ["thing", "least"] ["thing", "least"] (ao cW) := ⟨rfl, rfl, rfl, by decide +kernel, rfl, by decide +kernel, by decide +kernel⟩
theorem ok_is_whole_from {f : Addr} {fd : FuncData} (F : bI K "is_whole_from" "is_whole_from" cW .none f fd) (T : Txt K mg cFE cC cN cM cP cL cB cD cZ tP tS tC tI) : bB P w K mg base gh 1 f fd ["thing", "least"] (spWf K) := by
 refine F.ok sc_is_whole_from (fun vs H Q E h => ?_) (fun cdv A outer s H vs Q E hr h => ?_)
 ·obtain ⟨x, lo, rfl, _⟩ := h; rfl
 ·obtain ⟨x, lo, rfl, kd, k⟩ := h
  refine ⟨_, (au (bK (PW.pt (iw (bW (bH (isiK K rfl (pv 0) rfl T.isinstance rfl T.int PyProof.Rows.boot_int))) (gQ (bH (isiK K rfl (pv 0) rfl T.isinstance rfl T.bool PyProof.Rows.boot_bool))))) (aA (aM fj)) aV)
    (aA (aM (gW op_le (pv 1) (pv 0) (bA _))))), ?_⟩
  have fl : isWf lo x = false → Q (.bl false) H := fun e => by rw [e] at k; exact k
  refine ⟨_, rfl, _, kd.isInt, _, rfl, iteN (fun hI => (fl ?_)) (fun hI => ⟨_, rfl, _, kd.isBool, _, rfl, iteB (fun hB => (fl ?_)) (fun hB => ?_)⟩)⟩
  ·cases x <;> first | rfl | cases hI
  ·cases x <;> first | rfl | cases hB
  ·cases x with
   | int i => exact ⟨_, rfl, _, rfl, _, _, rfl, rfl, k⟩
   | bl b => cases hB
   | _ => cases hI
theorem sc_is_whole_within : aO ["thing", "least", "most"] ["thing", "least", "most"] (ao cg) := ⟨rfl, rfl, rfl, by decide +kernel, rfl, by decide +kernel, by decide +kernel⟩
theorem ok_is_whole_within {f : Addr} {fd : FuncData} (F : bI K "is_whole_within" "is_whole_within" cg .none f fd) (g_is_whole_from : iR P w K mg base 1 "is_whole_from" ["thing", "least"] [] (spWf K)) : bB P w K mg base gh 2 f fd ["thing", "least", "most"] (spWh K) := by
 refine F.ok sc_is_whole_within (fun vs H Q E h => ?_) (fun cdv A outer s H vs Q E hr h => ?_)
 ·obtain ⟨x, lo, hi, rfl, _⟩ := h; rfl
 ·obtain ⟨x, lo, hi, rfl, kd, k⟩ := h
  refine ⟨_, (aA (aM (pe_and (aD g_is_whole_from (hr.mono (by decide)) rfl (aa (pv 0) (aa (pv 1) aj))) (pe_one (gW op_le (pv 0) (pv 2) (bA _)))))), ?_⟩
  refine ⟨_, rfl, _, rfl, x, lo, rfl, kd, _, rfl, iteB (fun h1 => ?_) (fun h1 => ?_)⟩
  ·cases x with
   | int i =>
    refine ⟨_, rfl, _, rfl, _, _, rfl, rfl, ?_⟩
    have h2 : decide (lo ≤ i) = true := h1
    simpa only [bU, h2, Bool.true_and] using k
   | _ => cases h1
  ·have e : bU lo hi x = false := by
    cases x with
    | int i =>
     have h2 : decide (lo ≤ i) = false := h1
     simp only [bU, h2, Bool.false_and]
    | _ => rfl
   rw [e] at k
   exact k
theorem sc_is_cell : aO ["thing"] ["thing"] (ao il) := ⟨rfl, rfl, rfl, by decide +kernel, rfl, by decide +kernel, by decide +kernel⟩
theorem ok_is_cell {f : Addr} {fd : FuncData} (F : bI K "is_cell" "is_cell" il .none f fd) (T : Txt K mg cFE cC cN cM cP cL cB cD cZ tP tS tC tI) (g_is_whole_within : iR P w K mg base 2 "is_whole_within" ["thing", "least", "most"] [] (spWh K)) : bB P w K mg base gh 3 f fd ["thing"] (spCellQ K) := by
 refine F.ok sc_is_cell (fun vs H Q E h => ?_) (fun cdv A outer s H vs Q E hr h => ?_)
 ·obtain ⟨x, rfl, _⟩ := h; rfl
 ·obtain ⟨x, rfl, kd, k⟩ := h
  refine ⟨_, (aA (aM (aD g_is_whole_within (hr.mono (by decide)) rfl (aa (pv 0) (aa aq (aa (bR (v := .int 15) rfl T.MOST_CELL ⟨_, rfl⟩) aj)))))), ?_⟩
  exact ⟨_, rfl, x, 0, 15, rfl, kd, k⟩
theorem sc_is_side : aO ["thing"] ["thing"] (ao ik) := ⟨rfl, rfl, rfl, by decide +kernel, rfl, by decide +kernel, by decide +kernel⟩
theorem ok_is_side {f : Addr} {fd : FuncData} (F : bI K "is_side" "is_side" ik .none f fd) (T : Txt K mg cFE cC cN cM cP cL cB cD cZ tP tS tC tI) (g_is_whole_within : iR P w K mg base 2 "is_whole_within" ["thing", "least", "most"] [] (spWh K)) : bB P w K mg base gh 3 f fd ["thing"] (spSide K) := by
 refine F.ok sc_is_side (fun vs H Q E h => ?_) (fun cdv A outer s H vs Q E hr h => ?_)
 ·obtain ⟨x, rfl, _⟩ := h; rfl
 ·obtain ⟨x, rfl, kd, k⟩ := h
  refine ⟨_, (aA (aM (aD g_is_whole_within (hr.mono (by decide)) rfl (aa (pv 0) (aa aq (aa (bR (v := .int 24) rfl T.MOST_SIDE ⟨_, rfl⟩) aj)))))), ?_⟩
  exact ⟨_, rfl, x, 1, 24, rfl, kd, k⟩
theorem fL {α : Type} (f : α → Bool) (xs : List α) : (xs.map f).all id = xs.all f := by
 induction xs with
 | nil => rfl
 | cons x r ih => rw [List.map_cons, List.all_cons, List.all_cons, ih]; rfl
theorem cR {α : Type} (xs : List α) : xs.filter (fun _ => true) = xs := List.filter_eq_self.mpr fun _ _ => rfl
theorem sc_is_list_of : aO ["thing", "is_one"] ["thing", "is_one"] (ao bQ) := ⟨rfl, rfl, rfl, by decide +kernel, rfl, by decide +kernel, by decide +kernel⟩
theorem ok_is_list_of {lo hi : Int} {fC f : Addr} {fd : FuncData} (F : bI K "is_list_of" "is_list_of" bQ .none f fd) (T : Txt K mg cFE cC cN cM cP cL cB cD cZ tP tS tC tI) (g_is_one : DefA P w K mg base 3 fC ["thing"] [] (spInQ K lo hi)) : bB P w K mg base gh 4 f fd ["thing", "is_one"] (spLocFG K fC lo hi) := by
 refine F.ok sc_is_list_of (fun vs H Q E h => ?_) (fun cdv A outer s H vs Q E hr h => ?_)
 ·obtain ⟨x, rfl, _⟩ := h; rfl
 ·obtain ⟨x, rfl, x', ex, h⟩ := h
  cases ex
  refine ⟨_, (aA (aM (pe_and (isiK K rfl (pv 0) rfl T.isinstance rfl T.list PyProof.Rows.boot_list) (pe_one (aN (allK K rfl rfl) rfl T.all PyProof.Rows.boot_all (aa (bG (N := ["part", "is_one"]) (src := [none, some 1]) rfl ⟨rfl, rfl, rfl, rfl, rfl, by decide +kernel⟩ (piK K rfl (pv 0)) (fun s H C fp => aP (i := 0) (show (["part", "is_one"] : List Str).Nodup by decide +kernel) rfl (.inl rfl)) (fun s H C fp => bh) (fun s H C fp => (pe_callV 1 g_is_one (hr.mono (by decide)) (aa (pv 0) aj)))) aj)))))), ?_⟩
  rcases h with ⟨a, xs, rfl, hH, hl, kds, k⟩ | ⟨kd, hL, k⟩
  ·refine ⟨_, rfl, true, gj hH, _, rfl, ⟨_, rfl, a, rfl, ⟨_, aU.of hH⟩, fun D hD => ?_⟩⟩
   refine cU (k := 0) (fun x => .bl (bU lo hi x)) (fun _ => true) (src_list (aU.of hH)) (Nat.le_trans hl (by decide)) hD (fun x _ H' Qb _ kk => kk H' (aB.refl _)) (fun x hx _ H' Q sm kk => ⟨rfl, _, rfl, x, rfl, (kds x hx).mono sm, kk H' (aB.refl _)⟩) fun H' sm hD' => ?_
   refine ⟨D, xs.map (bU lo hi), rfl, aU.of (by rw [hD', cR, List.map_map]; rfl), ?_⟩
   rw [fL]
   exact k H' sm
  ·refine ⟨_, rfl, _, kd.isList, _, rfl, iteB (fun z => ?_) (fun _ => k)⟩
   rw [hL] at z; cases z
theorem wh_len {n : Nat} (h1 : 1 ≤ n) (h2 : n ≤ 24) : bU 1 24 (.int (n : Int)) = true := by
 simp only [bU, Bool.and_eq_true, decide_eq_true_eq]; omega
theorem wh_cells {ns : List Int} (h : ∀ c ∈ ns, 0 ≤ c ∧ c ≤ 15) : (ns.map V.int).all (bU 0 15) = true := by
 rw [List.all_map, List.all_eq_true]
 intro c hc
 have := h c hc
 simp only [Function.comp, bU, Bool.and_eq_true, decide_eq_true_eq]; omega
theorem kd_ints {H : Hp} {ns : List Int} : ∀ y ∈ ns.map V.int, Kd K H y := fun y hy => by
 obtain ⟨n, _, rfl⟩ := List.mem_map.mp hy
 exact .int n
end
noncomputable def rowOf (H : Hp) : V → Option (List V)
 | .ref b => match H b with
  | some (.lst ys) => some ys
  | _ => none
 | _ => none
noncomputable def rowB (ys : List V) : Bool := ys.all (bU 0 15) && bU 1 24 (.int (ys.length : Int))
noncomputable def rowQ (H : Hp) (x : V) : Bool := match rowOf H x with
 | some ys => rowB ys
 | none => false
noncomputable def lenOf (H : Hp) (x : V) : Nat := match rowOf H x with
 | some ys => ys.length
 | none => 0
noncomputable def picB (H : Hp) (v : V) : Bool := match rowOf H v with
 | some xs => bU 1 24 (.int (xs.length : Int)) && (xs.all (rowQ H) && xs.all fun x => decide (lenOf H x = lenOf H (xs.headD .non)))
 | none => false
structure Rw (K : W.Frag) (H : Hp) (x : V) : Prop where
 kd : Kd K H x
 len : ∀ ys, rowOf H x = some ys → ys.length ≤ 1000
 it : ∀ ys, rowOf H x = some ys → ∀ y ∈ ys, Kd K H y
structure Th (K : W.Frag) (H : Hp) (v : V) : Prop where
 kd : Kd K H v
 len : ∀ xs, rowOf H v = some xs → xs.length ≤ 1000
 it : ∀ xs, rowOf H v = some xs → ∀ x ∈ xs, Rw K H x
section
variable {K : W.Frag} {H H' : Hp} {x : V}
theorem aH {a : Addr} {ys : List V} (e : H a = some (.lst ys)) : rowOf H (.ref a) = some ys := by simp only [rowOf, e]
theorem fQ {ys : List V} (h : rowOf H x = some ys) : ∃ a, x = .ref a ∧ H a = some (.lst ys) := by
 cases x with
 | ref a =>
  refine ⟨a, rfl, ?_⟩
  unfold rowOf at h
  dsimp only at h
  split at h
  ·rename_i zs e; cases h; exact e
  ·cases h
 | _ => cases h
theorem bN (k : Kd K H x) (s : aB H H') : rowOf H' x = rowOf H x := by
 cases k with
 | lst e => rw [aH e, aH (s _ _ e)]
 | tup e => simp only [rowOf, e, s _ _ e]
 | dict e => simp only [rowOf, e, s _ _ e, gH]
 | _ => rfl
theorem isL_row (k : Kd K H x) : isL H x = (rowOf H x).isSome := by
 cases k with
 | lst e => simp only [isL, rowOf, e]; rfl
 | tup e => simp only [isL, rowOf, e]; rfl
 | dict e => simp only [isL, rowOf, e, gH]; rfl
 | _ => rfl
theorem Rw.mono (r : Rw K H x) (s : aB H H') : Rw K H' x := by
 have e := bN r.kd s
 exact ⟨r.kd.mono s, fun ys h => r.len ys (by rw [← e]; exact h), fun ys h y hy => (r.it ys (by rw [← e]; exact h) y hy).mono s⟩
theorem Th.mono (t : Th K H x) (s : aB H H') : Th K H' x := by
 have e := bN t.kd s
 exact ⟨t.kd.mono s, fun ys h => t.len ys (by rw [← e]; exact h), fun ys h y hy => (t.it ys (by rw [← e]; exact h) y hy).mono s⟩
theorem rowQ_mono (k : Kd K H x) (s : aB H H') : rowQ H' x = rowQ H x := by unfold rowQ; rw [bN k s]
theorem eF (k : Kd K H x) (s : aB H H') : lenOf H' x = lenOf H x := by unfold lenOf; rw [bN k s]
theorem picB_mono (t : Th K H x) (s : aB H H') : picB H' x = picB H x := by
 unfold picB
 rw [bN t.kd s]
 cases h : rowOf H x with
 | none => rfl
 | some xs =>
  dsimp only
  have e1 : xs.all (rowQ H') = xs.all (rowQ H) := by
   rw [Bool.eq_iff_iff, List.all_eq_true, List.all_eq_true]
   constructor
   ·intro h2 y hy; rw [← rowQ_mono (t.it xs h y hy).kd s]; exact h2 y hy
   ·intro h2 y hy; rw [rowQ_mono (t.it xs h y hy).kd s]; exact h2 y hy
  have e2 : (xs.all fun y => decide (lenOf H' y = lenOf H' (xs.headD .non))) = (xs.all fun y => decide (lenOf H y = lenOf H (xs.headD .non))) := by
   cases xs with
   | nil => rfl
   | cons z r =>
    have hz : lenOf H' z = lenOf H z := eF (t.it _ h z List.mem_cons_self).kd s
    rw [Bool.eq_iff_iff, List.all_eq_true, List.all_eq_true]
    constructor
    ·intro h2 y hy
     have q : decide (lenOf H' y = lenOf H' z) = true := h2 y hy
     have q' := of_decide_eq_true q
     rw [eF (t.it _ h y hy).kd s, hz] at q'
     exact decide_eq_true q'
    ·intro h2 y hy
     have q : decide (lenOf H y = lenOf H z) = true := h2 y hy
     have q' := of_decide_eq_true q
     refine decide_eq_true ?_
     show lenOf H' y = lenOf H' z
     rw [eF (t.it _ h y hy).kd s, hz]
     exact q'
  rw [e1, e2]
end
noncomputable def spPic (K : W.Frag) : Sp := fun vs H Q _ => ∃ x, vs = [x] ∧ Th K H x ∧ ∀ H', aB H H' → Q (.bl (picB H x)) H'
noncomputable def spPicF (K : W.Frag) (fC : Addr) : Sp := fun vs H Q E => ∃ x, vs = [x, .ref fC] ∧ spPic K [x] H Q E
noncomputable def spNeed (K : W.Frag) (cB : Addr) : Sp := fun vs H Q E => ∃ x, vs = [x] ∧ Th K H x ∧ (picB H x = true → ∀ H', aB H H' → Q .non H') ∧ (picB H x = false → ∀ H', aB H H' → E (.ref cB) none H')
section
variable {P : Program} {w : World} {K : W.Frag} {mg : Str → Option Value} {base : Heap} {cFE cC cN cM cP cL cB cD cZ : Addr} {tP tS tC tI : Tok}
theorem wh_side {v : V} (h : bU 1 24 v = true) : ∃ w : Nat, v = .int (w : Int) ∧ 1 ≤ w ∧ w ≤ 24 := by
 cases v with
 | int i =>
  simp only [bU, Bool.and_eq_true, decide_eq_true_eq] at h
  exact ⟨i.toNat, by rw [Int.toNat_of_nonneg (by omega)], by omega, by omega⟩
 | _ => cases h
theorem head_at {xs : List V} (h : 0 < xs.length) : xs[0]? = some (xs.headD .non) := by
 cases xs with
 | nil => simp at h
 | cons x r => rfl
theorem sc_are_rows_of : aO ["thing", "is_one"] ["thing", "is_one"] (ao bC) := ⟨rfl, rfl, rfl, by decide +kernel, rfl, by decide +kernel, by decide +kernel⟩
theorem ok_are_rows_of {fC f : Addr} {fd : FuncData} (F : bI K "are_rows_of" "are_rows_of" bC .none f fd) (T : Txt K mg cFE cC cN cM cP cL cB cD cZ tP tS tC tI) (g_is_list_of : iR P w K mg base 4 "is_list_of" ["thing", "is_one"] [] (spLocF K fC)) (g_is_side : iR P w K mg base 3 "is_side" ["thing"] [] (spSide K)) : bB P w K mg base gh 5 f fd ["thing", "is_one"] (spPicF K fC) := by
 refine F.ok sc_are_rows_of (fun vs H Q E h => ?_) (fun cdv A outer s H vs Q E hr h => ?_)
 ·obtain ⟨x, rfl, _⟩ := h; rfl
 ·obtain ⟨x, rfl, x', ex, th, k⟩ := h
  cases ex
  refine ⟨_, (au (bK (PW.pt (iw (bW (bH (isiK K rfl (pv 0) rfl T.isinstance rfl T.list PyProof.Rows.boot_list))) (gQ (bW (bH (aD g_is_side (hr.mono (by decide)) rfl (aa (aN (lenK K rfl) rfl T.len PySem.boot_len (aa (pv 0) aj)) aj))))))) (aA (aM fj)) aV)
    (au (bK (bW (bH (aN (allK K rfl rfl) rfl T.all PyProof.Rows.boot_all (aa (bG (N := ["row", "is_one"]) (src := [none, some 1]) rfl ⟨rfl, rfl, rfl, rfl, rfl, by decide +kernel⟩ (piK K rfl (pv 0)) (fun s H C fp => aP (i := 0) (show (["row", "is_one"] : List Str).Nodup by decide +kernel) rfl (.inl rfl)) (fun s H C fp => bh) (fun s H C fp => (pe_and (aD g_is_list_of (hr.mono (by decide)) rfl (aa (pv 0) (aa (pv 1) aj))) (pe_one (aD g_is_side (hr.mono (by decide)) rfl (aa (aN (lenK K rfl) rfl T.len PySem.boot_len (aa (pv 0) aj)) aj)))))) aj)))) (aA (aM fj)) aV)
    (aA (aM (aN (allK K rfl rfl) rfl T.all PyProof.Rows.boot_all (aa (bG (N := ["row", "thing"]) (src := [none, some 0]) rfl ⟨rfl, rfl, rfl, rfl, rfl, by decide +kernel⟩ (piK K rfl (pv 0)) (fun s H C fp => aP (i := 0) (show (["row", "thing"] : List Str).Nodup by decide +kernel) rfl (.inl rfl)) (fun s H C fp => bh) (fun s H C fp => (gW op_eq (aN (lenK K rfl) rfl T.len PySem.boot_len (aa (pv 0) aj)) (aN (lenK K rfl) rfl T.len PySem.boot_len (aa (bM (ixK K rfl) (pv 1) aq (fun _ _ => rfl)) aj)) (bA _)))) aj)))))), ?_⟩
  cases hx : rowOf H x with
  | none =>
   have ek : picB H x = false := by unfold picB; rw [hx]
   rw [ek] at k
   refine ⟨_, rfl, _, th.kd.isList, _, rfl, ?_⟩
   rw [isL_row th.kd, hx]
   exact k H (aB.refl H)
  | some xs =>
   obtain ⟨a, rfl, e⟩ := fQ hx
   have ek : picB H (.ref a) = (bU 1 24 (.int (xs.length : Int)) && (xs.all (rowQ H) && xs.all fun x => decide (lenOf H x = lenOf H (xs.headD .non)))) := by unfold picB; rw [hx]
   rw [ek] at k
   have hz : xs.length ≤ sizeLine := Nat.le_trans (th.len xs hx) (by decide)
   refine ⟨_, rfl, true, gj e, _, rfl, ⟨_, rfl, a, _, rfl, .inl (aU.of e), _, rfl, .int _, _, rfl, iteN (fun h1 => ?_) (fun h1 => ?_)⟩⟩
   ·rw [h1, Bool.false_and] at k
    exact k H (aB.refl H)
   rw [h1, Bool.true_and] at k
   refine ⟨_, rfl, a, rfl, ⟨_, aU.of e⟩, fun D hD => ?_⟩
   refine cU (k := 0) (fun y => .bl (rowQ H y)) (fun _ => true) (src_list (aU.of e)) hz hD (fun x _ H' Qb _ kk => kk H' (aB.refl _)) (fun y hy _ H' Q' sm kk => ?_) fun H1 s1 hD1 => ?_
   ·have r1 := th.it xs hx y hy
    have r2 := r1.mono sm
    have k2 : ∀ H2, aB H' H2 → Q' (.bl (rowQ H' y)) H2 := fun H2 s2 => by rw [rowQ_mono r1.kd sm]; exact kk H2 s2
    refine ⟨_, rfl, _, rfl, y, rfl, y, rfl, ?_⟩
    cases hr0 : rowOf H' y with
    | none =>
     refine .inr ⟨r2.kd, by rw [isL_row r2.kd, hr0]; rfl, _, rfl, ?_⟩
     have := k2 H' (aB.refl H')
     unfold rowQ at this
     rw [hr0] at this
     exact this
    | some ys =>
     obtain ⟨b, rfl, e2⟩ := fQ hr0
     have ek : rowQ H' (.ref b) = rowB ys := by unfold rowQ; rw [hr0]
     refine .inl ⟨b, ys, rfl, e2, Nat.le_trans (r2.len ys hr0) (by decide), r2.it ys hr0, fun H1 s1 => ⟨_, rfl, iteB (fun h1 => ?_) (fun h1 => ?_)⟩⟩
     ·refine ⟨_, rfl, b, _, rfl, .inl (aU.of (s1 _ _ e2)), _, rfl, .int _, ?_⟩
      have := k2 H1 s1
      rw [ek] at this
      unfold rowB at this
      rw [h1, Bool.true_and] at this
      exact this
     ·have := k2 H1 s1
      rw [ek] at this
      unfold rowB at this
      rw [h1, Bool.false_and] at this
      exact this
   refine ⟨D, xs.map (rowQ H), rfl, aU.of (by rw [hD1, cR, List.map_map]; rfl), _, rfl, ?_⟩
   rw [fL]
   refine iteN (fun h2 => ?_) (fun h2 => ?_)
   ·rw [h2, Bool.false_and] at k
    exact k H1 s1
   rw [h2, Bool.true_and] at k
   have hpos : 0 < xs.length := by
    obtain ⟨n, en, n1, _⟩ := wh_side h1
    injection en with en
    omega
   have lst : ∀ y ∈ xs, ∃ b ys, y = .ref b ∧ H b = some (.lst ys) ∧ lenOf H y = ys.length := fun y hy => by
    have q := List.all_eq_true.mp h2 y hy
    unfold rowQ at q
    cases hy2 : rowOf H y with
    | none => rw [hy2] at q; cases q
    | some ys =>
     obtain ⟨b, rfl, e2⟩ := fQ hy2
     exact ⟨b, ys, rfl, e2, by unfold lenOf; rw [hy2]⟩
   obtain ⟨b0, y0, eh, e0, l0⟩ := lst (xs.headD .non) (by cases xs with | nil => simp at hpos | cons z r => exact List.mem_cons_self)
   refine ⟨_, rfl, a, rfl, ⟨_, aU.of (s1 _ _ e)⟩, fun D2 hD2 => ?_⟩
   refine cU (k := 0) (fun y => .bl (decide (lenOf H y = lenOf H (xs.headD .non)))) (fun _ => true) (src_list (aU.of (s1 _ _ e))) hz hD2 (fun x _ H' Qb _ kk => kk H' (aB.refl _)) (fun y hy _ H' Q' sm kk => ?_) fun H2 s2 hD2' => ?_
   ·have sm2 := s1.trans sm
    obtain ⟨b, ys, rfl, e2, l2⟩ := lst y hy
    refine ⟨_, rfl, b, _, rfl, .inl (aU.of (sm2 _ _ e2)), _, rfl, a, _, _, _, rfl, rfl, aU.of (sm2 _ _ e), aW (j := 0) (head_at hpos), b0, _, eh ▸ rfl, .inl (aU.of (sm2 _ _ e0)), rfl, ?_⟩
    have ed : decide (V.int (ys.length : Int) = V.int (y0.length : Int)) = decide (lenOf H (.ref b) = lenOf H (xs.headD .non)) := by
     rw [l2, l0, dec_int, Bool.eq_iff_iff]
     simp
     omega
    rw [ed]
    exact kk H' (aB.refl _)
   ·refine ⟨D2, xs.map fun y => decide (lenOf H y = lenOf H (xs.headD .non)), rfl, aU.of (by rw [hD2', cR, List.map_map]; rfl), ?_⟩
    rw [fL]
    exact k H2 (s1.trans s2)
theorem sc_is_picture : aO ["thing"] ["thing"] (ao eQ) := ⟨rfl, rfl, rfl, by decide +kernel, rfl, by decide +kernel, by decide +kernel⟩
theorem ok_is_picture {fC f : Addr} {fd : FuncData} (F : bI K "is_picture" "is_picture" eQ .none f fd) (hC : mg "is_cell" = some (.ref fC)) (g_are_rows_of : iR P w K mg base 5 "are_rows_of" ["thing", "is_one"] [] (spPicF K fC)) : bB P w K mg base gh 6 f fd ["thing"] (spPic K) := by
 refine F.ok sc_is_picture (fun vs H Q E h => ?_) (fun cdv A outer s H vs Q E hr h => ?_)
 ·obtain ⟨x, rfl, _⟩ := h; rfl
 ·obtain ⟨x, rfl, th, k⟩ := h
  refine ⟨_, (aA (aM (aD g_are_rows_of (hr.mono (by decide)) rfl (aa (pv 0) (aa (bR (v := .ref fC) rfl hC rfl) aj))))), ?_⟩
  exact ⟨_, rfl, x, rfl, x, rfl, th, k⟩
theorem sc_need_picture : aO ["picture"] ["picture"] (ao dD) := ⟨rfl, rfl, rfl, by decide +kernel, rfl, by decide +kernel, by decide +kernel⟩
theorem ok_need_picture {f : Addr} {fd : FuncData} (F : bI K "need_picture" "need_picture" dD .none f fd) (T : Txt K mg cFE cC cN cM cP cL cB cD cZ tP tS tC tI) (g_is_picture : iR P w K mg base 6 "is_picture" ["thing"] [] (spPic K)) : bB P w K mg base (CX1 P w) 7 f fd ["picture"] (spNeed K cB) := by
 refine F.okX sc_need_picture (fun vs H Q E h => ?_) (fun cdv A outer s H vs Q E hr h => ?_)
 ·obtain ⟨x, rfl, _⟩ := h; rfl
 ·obtain ⟨x, rfl, th, kY, kN⟩ := h
  refine ⟨_, (aA (bK (bW (bH (aD g_is_picture (hr.mono (by decide)) rfl (aa (pv 0) aj)))) (aA (gG rfl iG rfl T.BadPicture T.xBadPicture (aa bJ aj))) aV)), ?_⟩
  exact ⟨_, rfl, x, rfl, th, fun H' sm => ⟨_, rfl, iteN (fun h => ⟨sz1, kN h H' sm⟩) (fun h => kY h H' sm)⟩⟩
end
set_option maxHeartbeats 1600000
theorem piTK {X : Cx} {tg : Expr} (K : W.Frag) (h : X.K = K) {e : Expr} {te : TE} (he : PE X e te) : PI X tg e (iTup K te) := by subst h; exact pi_tup he
theorem ixTK {X : Cx} (K : W.Frag) (h : X.K = K) : IxR X (rIxT K) := by subst h; exact ix_tup
theorem src_tup {K : W.Frag} {a : Addr} {xs : List V} {H : Hp} (h : dC K H a xs) : Src (Itt K a) xs H := fun H' sm =>
 ⟨fun i x e => ⟨⟨xs, x, sm.seqT h, e⟩, fun y H2 ⟨q1, q2⟩ => ⟨by have := q2 xs (sm.seqT h); rw [e] at this; exact (Option.some.inj this).symm, q1⟩⟩, ⟨xs, sm.seqT h, Nat.le_refl _⟩⟩
noncomputable def dB (H : Hp) : V → Option (List V)
 | .ref b => match H b with
  | some (.tup xs) => some xs
  | _ => none
 | _ => none
noncomputable def dX (H : Hp) (v : V) : Bool := match dB H v with
 | some xs => decide (xs.length = 3) && xs.all (bU 0 255)
 | none => false
structure TC (K : W.Frag) (H : Hp) (v : V) : Prop where
 kd : Kd K H v
 len : ∀ xs, dB H v = some xs → xs.length ≤ 1000
 it : ∀ xs, dB H v = some xs → ∀ x ∈ xs, Kd K H x
section
variable {K : W.Frag} {H H' : Hp} {v : V}
theorem fW {a : Addr} {xs : List V} (e : H a = some (.tup xs)) : dB H (.ref a) = some xs := by simp only [dB, e]
theorem tupOf_ref {xs : List V} (h : dB H v = some xs) : ∃ a, v = .ref a ∧ H a = some (.tup xs) := by
 cases v with
 | ref a =>
  simp only [dB] at h
  cases e : H a with
  | none => rw [e] at h; cases h
  | some o =>
   rw [e] at h
   cases o with
   | tup ys => cases h; exact ⟨a, rfl, e⟩
   | _ => cases h
 | _ => cases h
theorem tupOf_mono (k : Kd K H v) (s : aB H H') : dB H' v = dB H v := by
 cases k with
 | lst e => simp only [dB, e, s _ _ e]
 | tup e => simp only [dB, e, s _ _ e]
 | dict e => simp only [dB, e, s _ _ e, gH]
 | _ => rfl
theorem isT_tup (k : Kd K H v) : isT H v = (dB H v).isSome := by
 cases k with
 | lst e => simp only [isT, dB, e]; rfl
 | tup e => simp only [isT, dB, e]; rfl
 | dict e => simp only [isT, dB, e, gH]; rfl
 | _ => rfl
theorem TC.mono (t : TC K H v) (s : aB H H') : TC K H' v := by
 have e := tupOf_mono t.kd s
 exact ⟨t.kd.mono s, fun xs h => t.len xs (by rw [← e]; exact h), fun xs h x hx => (t.it xs (by rw [← e]; exact h) x hx).mono s⟩
theorem cF (t : TC K H v) (s : aB H H') : dX H' v = dX H v := by unfold dX; rw [tupOf_mono t.kd s]
theorem TC.other (k : Kd K H v) (h : dB H v = none) : TC K H v := ⟨k, fun xs e => (by rw [h] at e; cases e), fun xs e => (by rw [h] at e; cases e)⟩
theorem TC.tup {a : Addr} {xs : List V} (e : H a = some (.tup xs)) (hl : xs.length ≤ 1000) (hk : ∀ x ∈ xs, Kd K H x) : TC K H (.ref a) :=
 ⟨.tup e, fun ys h => (by rw [fW e] at h; cases h; exact hl), fun ys h => (by rw [fW e] at h; cases h; exact hk)⟩
end
structure iM (H : Hp) (a : Addr) (r g b : Nat) : Prop where
 top : H a = some (.tup [.int (r : Int), .int (g : Int), .int (b : Int)])
 lr : r ≤ 255
 lg : g ≤ 255
 lb : b ≤ 255
section
variable {K : W.Frag} {H H' : Hp} {a : Addr} {r g b : Nat}
theorem iM.mono (c : iM H a r g b) (s : aB H H') : iM H' a r g b := ⟨s _ _ c.top, c.lr, c.lg, c.lb⟩
theorem iM.tc (c : iM H a r g b) : TC K H (.ref a) := TC.tup c.top (by show 3 ≤ 1000; decide) fun x hx => by
 simp only [List.mem_cons, List.not_mem_nil, or_false] at hx
 rcases hx with rfl | rfl | rfl <;> exact .int _
theorem wh255 {n : Nat} (h : n ≤ 255) : bU 0 255 (.int (n : Int)) = true := by simp only [bU, Bool.and_eq_true, decide_eq_true_eq]; omega
theorem iM.yes (c : iM H a r g b) : dX H (.ref a) = true := by
 unfold dX
 rw [fW c.top]
 simp only [List.all_cons, List.all_nil, wh255 c.lr, wh255 c.lg, wh255 c.lb]
 rfl
theorem wh_nat {lo hi : Nat} {v : V} (h : bU lo hi v = true) : ∃ n : Nat, v = .int (n : Int) ∧ lo ≤ n ∧ n ≤ hi := by
 cases v with
 | int i =>
  simp only [bU, Bool.and_eq_true, decide_eq_true_eq] at h
  exact ⟨i.toNat, by congr 1; omega, by omega, by omega⟩
 | _ => cases h
theorem col_of {v : V} (h : dX H v = true) : ∃ a r g b, v = .ref a ∧ iM H a r g b := by
 unfold dX at h
 cases hx : dB H v with
 | none => rw [hx] at h; cases h
 | some xs =>
  rw [hx] at h
  obtain ⟨a, rfl, e⟩ := tupOf_ref hx
  have h := Bool.and_eq_true_iff.mp h
  have hl := of_decide_eq_true h.1
  obtain ⟨x, y, z, rfl⟩ : ∃ x y z, xs = [x, y, z] := by
   match xs, hl with
   | [x, y, z], _ => exact ⟨x, y, z, rfl⟩
  simp only [List.all_cons, List.all_nil, Bool.and_true, Bool.and_eq_true] at h
  obtain ⟨r, rfl, _, lr⟩ := wh_nat (lo := 0) (hi := 255) h.2.1
  obtain ⟨g, rfl, _, lg⟩ := wh_nat (lo := 0) (hi := 255) h.2.2.1
  obtain ⟨b, rfl, _, lb⟩ := wh_nat (lo := 0) (hi := 255) h.2.2.2
  exact ⟨a, r, g, b, rfl, e, lr, lg, lb⟩
theorem iM.inj {r' g' b' : Nat} (c : iM H a r g b) (c' : iM H a r' g' b') : r = r' ∧ g = g' ∧ b = b' := by
 have e := c.top
 rw [c'.top] at e
 simp only [Option.some.injEq, HO.tup.injEq, List.cons.injEq, V.int.injEq, and_true] at e
 omega
end
noncomputable def spIsCol (K : W.Frag) : Sp := fun vs H Q _ => ∃ v, vs = [v] ∧ TC K H v ∧ ∀ H', aB H H' → Q (.bl (dX H v)) H'
noncomputable def spNeedC (K : W.Frag) (cC : Addr) : Sp := fun vs H Q E => ∃ v, vs = [v] ∧ TC K H v ∧ (dX H v = true → ∀ H', aB H H' → Q .non H') ∧ (dX H v = false → ∀ H', aB H H' → E (.ref cC) none H')
noncomputable def bF (H : Hp) (a : Addr) (cs : List (C4)) : Prop := H a = some (.lst (cs.map fun c => V.ref c.1)) ∧ ∀ c ∈ cs, iM H c.1 c.2.1 c.2.2.1 c.2.2.2
theorem bF.mono {H H' : Hp} {a : Addr} {cs : List (C4)} (v : bF H a cs) (s : aB H H') : bF H' a cs := ⟨s _ _ v.1, fun c hc => (v.2 c hc).mono s⟩
theorem cols_of {H : Hp} : ∀ {xs : List V}, xs.all (dX H) = true → ∃ cs : List (C4), xs = cs.map (fun c => V.ref c.1) ∧ ∀ c ∈ cs, iM H c.1 c.2.1 c.2.2.1 c.2.2.2
 | [], _ => ⟨[], rfl, fun c hc => nomatch hc⟩
 | x :: r, h => by
  rw [List.all_cons, Bool.and_eq_true] at h
  obtain ⟨a, p, q, s, rfl, c⟩ := col_of h.1
  obtain ⟨cs, rfl, hc⟩ := cols_of h.2
  refine ⟨(a, p, q, s) :: cs, rfl, fun d hd => ?_⟩
  rcases List.mem_cons.mp hd with rfl | hd
  ·exact c
  ·exact hc d hd
theorem bF.yes {H : Hp} {a : Addr} {cs : List (C4)} (v : bF H a cs) : (cs.map fun c => V.ref c.1).all (dX H) = true := by
 rw [List.all_eq_true]
 intro x hx
 obtain ⟨c, hc, rfl⟩ := List.mem_map.mp hx
 exact (v.2 c hc).yes
noncomputable def spLocC (K : W.Frag) (fC : Addr) : Sp := fun vs H Q _ => ∃ x, vs = [x, .ref fC] ∧ ((∃ a xs, x = .ref a ∧ H a = some (.lst xs) ∧ xs.length ≤ 1000000 ∧ (∀ y ∈ xs, TC K H y) ∧ ∀ H', aB H H' → Q (.bl (xs.all (dX H))) H') ∨ (Kd K H x ∧ isL H x = false ∧ Q (.bl false) H))
section
variable {P : Program} {w : World} {K : W.Frag} {mg : Str → Option Value} {base : Heap} {cFE cC cN cM cP cL cB cD cZ : Addr} {tP tS tC tI : Tok}
theorem sc_is_colour : aO ["thing"] ["thing"] (ao fM) := ⟨rfl, rfl, rfl, by decide +kernel, rfl, by decide +kernel, by decide +kernel⟩
theorem ok_is_colour {f : Addr} {fd : FuncData} (F : bI K "is_colour" "is_colour" fM .none f fd) (T : Txt K mg cFE cC cN cM cP cL cB cD cZ tP tS tC tI) (g_is_whole_within : iR P w K mg base 2 "is_whole_within" ["thing", "least", "most"] [] (spWh K)) : bB P w K mg base gh 3 f fd ["thing"] (spIsCol K) := by
 refine F.ok sc_is_colour (fun vs H Q E h => ?_) (fun cdv A outer s H vs Q E hr h => ?_)
 ·obtain ⟨v, rfl, _⟩ := h; rfl
 ·obtain ⟨v, rfl, t, k⟩ := h
  refine ⟨_, (au (bK (PW.pt (iw (bW (bH (isiK K rfl (pv 0) rfl T.isinstance rfl T.tuple PyProof.Rows.boot_tuple))) (gQ (bj op_ne (aN (lenK K rfl) rfl T.len PySem.boot_len (aa (pv 0) aj)) aq (bA _))))) (aA (aM fj)) aV)
    (aA (aM (aN (allK K rfl rfl) rfl T.all PyProof.Rows.boot_all (aa (bG (N := ["part"]) (src := [none]) rfl ⟨rfl, rfl, rfl, rfl, rfl, by decide +kernel⟩ (piTK K rfl (pv 0)) (fun s H C fp => aP (i := 0) (show (["part"] : List Str).Nodup by decide +kernel) rfl (.inl rfl)) (fun s H C fp => bh) (fun s H C fp => (aD g_is_whole_within (hr.mono (by decide)) rfl (aa (pv 0) (aa aq (aa (bR (v := .int 255) rfl T.MOST_PART ⟨_, rfl⟩) aj)))))) aj))))), ?_⟩
  cases hx : dB H v with
  | none =>
   have e : dX H v = false := by unfold dX; rw [hx]
   rw [e] at k
   refine ⟨_, rfl, _, t.kd.isTuple, _, rfl, ?_⟩
   rw [isT_tup t.kd, hx]
   exact k H (aB.refl H)
  | some xs =>
   obtain ⟨a, rfl, e⟩ := tupOf_ref hx
   have eb : dX H (.ref a) = (decide (xs.length = 3) && xs.all (bU 0 255)) := by unfold dX; rw [hx]
   rw [eb] at k
   refine ⟨_, rfl, _, t.kd.isTuple, _, rfl, ?_⟩
   rw [isT_tup t.kd, hx]
   refine ⟨_, rfl, a, _, rfl, .inr (dC.of e), rfl, _, rfl, iteN (fun h => ?_) (fun h => ?_)⟩
   ·have : xs.length ≠ 3 := fun z => of_decide_eq_false h (by rw [z]; rfl)
    rw [decide_eq_false this, Bool.false_and] at k
    exact k H (aB.refl H)
   have h3 : xs.length = 3 := by
    have := of_decide_eq_true h
    injection this with this
    omega
   rw [decide_eq_true h3, Bool.true_and] at k
   refine ⟨_, rfl, a, rfl, ⟨_, dC.of e⟩, fun D hD => ?_⟩
   refine cU (k := 0) (fun x => .bl (bU 0 255 x)) (fun _ => true) (src_tup (dC.of e)) (by rw [h3]; decide) hD (fun x _ H' Qb _ kk => kk H' (aB.refl _)) (fun x hx2 _ H' Q' sm kk => ⟨_, rfl, x, 0, 255, rfl, (t.it xs hx x hx2).mono sm, kk H' (aB.refl _)⟩) fun H1 s1 hD1 => ?_
   refine ⟨D, xs.map (bU 0 255), rfl, aU.of (by rw [hD1, cR, List.map_map]; rfl), ?_⟩
   rw [fL]
   exact k H1 s1
theorem sc_need_colour : aO ["colour"] ["colour"] (ao dH) := ⟨rfl, rfl, rfl, by decide +kernel, rfl, by decide +kernel, by decide +kernel⟩
theorem ok_need_colour {f : Addr} {fd : FuncData} (F : bI K "need_colour" "need_colour" dH .none f fd) (T : Txt K mg cFE cC cN cM cP cL cB cD cZ tP tS tC tI) (g_is_colour : iR P w K mg base 3 "is_colour" ["thing"] [] (spIsCol K)) : bB P w K mg base (CX1 P w) 4 f fd ["colour"] (spNeedC K cC) := by
 refine F.okX sc_need_colour (fun vs H Q E h => ?_) (fun cdv A outer s H vs Q E hr h => ?_)
 ·obtain ⟨v, rfl, _⟩ := h; rfl
 ·obtain ⟨v, rfl, t, kY, kN⟩ := h
  refine ⟨_, (aA (bK (bW (bH (aD g_is_colour (hr.mono (by decide)) rfl (aa (pv 0) aj)))) (aA (gG rfl iG rfl T.BadColour T.xBadColour (aa bJ aj))) aV)), ?_⟩
  exact ⟨_, rfl, v, rfl, t, fun H1 s1 => ⟨_, rfl, iteN (fun h => ⟨sz1, kN h H1 s1⟩) (fun h => kY h H1 s1)⟩⟩
theorem ok_is_list_of_col {fC f : Addr} {fd : FuncData} (F : bI K "is_list_of" "is_list_of" bQ .none f fd) (T : Txt K mg cFE cC cN cM cP cL cB cD cZ tP tS tC tI) (g_is_one : DefA P w K mg base 3 fC ["thing"] [] (spIsCol K)) : bB P w K mg base gh 4 f fd ["thing", "is_one"] (spLocC K fC) := by
 refine F.ok sc_is_list_of (fun vs H Q E h => ?_) (fun cdv A outer s H vs Q E hr h => ?_)
 ·obtain ⟨x, rfl, _⟩ := h; rfl
 ·obtain ⟨x, rfl, h⟩ := h
  refine ⟨_, (aA (aM (pe_and (isiK K rfl (pv 0) rfl T.isinstance rfl T.list PyProof.Rows.boot_list) (pe_one (aN (allK K rfl rfl) rfl T.all PyProof.Rows.boot_all (aa (bG (N := ["part", "is_one"]) (src := [none, some 1]) rfl ⟨rfl, rfl, rfl, rfl, rfl, by decide +kernel⟩ (piK K rfl (pv 0)) (fun s H C fp => aP (i := 0) (show (["part", "is_one"] : List Str).Nodup by decide +kernel) rfl (.inl rfl)) (fun s H C fp => bh) (fun s H C fp => (pe_callV 1 g_is_one (hr.mono (by decide)) (aa (pv 0) aj)))) aj)))))), ?_⟩
  rcases h with ⟨a, xs, rfl, hH, hl, kds, k⟩ | ⟨kd, hL, k⟩
  ·refine ⟨_, rfl, true, gj hH, _, rfl, ⟨_, rfl, a, rfl, ⟨_, aU.of hH⟩, fun D hD => ?_⟩⟩
   refine cU (k := 0) (fun x => .bl (dX H x)) (fun _ => true) (src_list (aU.of hH)) (Nat.le_trans hl (by decide)) hD (fun x _ H' Qb _ kk => kk H' (aB.refl _)) (fun x hx _ H' Q sm kk => ⟨rfl, _, rfl, x, rfl, (kds x hx).mono sm, fun H2 s2 => (by rw [cF (kds x hx) sm]; exact kk H2 s2)⟩) fun H' sm hD' => ?_
   refine ⟨D, xs.map (dX H), rfl, aU.of (by rw [hD', cR, List.map_map]; rfl), ?_⟩
   rw [fL]
   exact k H' sm
  ·refine ⟨_, rfl, _, kd.isList, _, rfl, iteB (fun z => ?_) (fun _ => k)⟩
   rw [hL] at z; cases z
end
structure TM (K : W.Frag) (H : Hp) (v : V) : Prop where
 kd : Kd K H v
 len : ∀ xs, rowOf H v = some xs → xs.length ≤ 1000000
 it : ∀ xs, rowOf H v = some xs → ∀ x ∈ xs, TC K H x
noncomputable def kc (c : C4) : List Int := [(c.2.1 : Int), (c.2.2.1 : Int), (c.2.2.2 : Int)]
noncomputable def jd (cL : Addr) (H : Hp) (p l : Addr) (cs : List (C4)) : Prop := (∃ dx, H p = some (.ins cL dx [("kept", .ref l)])) ∧ bF H l cs
noncomputable def GoodP (H : Hp) (v : V) : Prop := ∃ a cs, v = .ref a ∧ bF H a cs ∧ 1 ≤ cs.length ∧ cs.length ≤ 16 ∧ (cs.map kc).Nodup
noncomputable def isC (r g b : Nat) (c : C4) : Bool := decide (c.2 = (r, g, b))
noncomputable def cellV (cs : List (C4)) (r g b : Nat) : V := match cs.findIdx? (isC r g b) with
 | some j => .int (j : Int)
 | none => .non
noncomputable def spInit (K : W.Frag) (cP cL : Addr) : Sp := fun vs H Q E => ∃ p dx v, vs = [.ref p, v] ∧ H p = some (.ins cL dx []) ∧ TM K H v ∧
 (∀ a cs, v = .ref a → bF H a cs → 1 ≤ cs.length → cs.length ≤ 16 → (cs.map kc).Nodup → ∀ l H', H l = none → (∀ b o, H b = some o → b ≠ p → H' b = some o) → jd cL H' p l cs → Q .non H') ∧
 (¬ GoodP H v → ∀ H', aB H H' → E (.ref cP) none H')
noncomputable def spCols (cL : Addr) : Sp := fun vs H Q _ => ∃ p l cs, vs = [.ref p] ∧ jd cL H p l cs ∧ ∀ q, H q = none → Q (.ref q) (upd H q (.lst (cs.map fun c => V.ref c.1)))
noncomputable def spMany (cL : Addr) : Sp := fun vs H Q _ => ∃ p l cs, vs = [.ref p] ∧ jd cL H p l cs ∧ Q (.int (cs.length : Int)) H
noncomputable def spColOf (K : W.Frag) (cN cL : Addr) : Sp := fun vs H Q E => ∃ p l cs v, vs = [.ref p, v] ∧ jd cL H p l cs ∧ Kd K H v ∧ (∀ (n : Nat) c, v = .int (n : Int) → cs[n]? = some c → Q (.ref c.1) H) ∧ (bU 0 ((cs.length : Int) - 1) v = false → E (.ref cN) none H)
noncomputable def spCellOf (K : W.Frag) (cC cL : Addr) : Sp := fun vs H Q E => ∃ p l cs v, vs = [.ref p, v] ∧ jd cL H p l cs ∧ TC K H v ∧ (∀ a r g b, v = .ref a → iM H a r g b → ∀ H', aB H H' → Q (cellV cs r g b) H') ∧ (dX H v = false → ∀ H', aB H H' → E (.ref cC) none H')
noncomputable def spAdd (K : W.Frag) (cC cM cL : Addr) : Sp := fun vs H Q E => ∃ p l cs v, vs = [.ref p, v] ∧ jd cL H p l cs ∧ cs.length ≤ 16 ∧ TC K H v ∧
 (∀ a r g b, v = .ref a → iM H a r g b → (∀ j, cs.findIdx? (isC r g b) = some j → ∀ H', aB H H' → Q (.int (j : Int)) H') ∧ (cs.findIdx? (isC r g b) = none → cs.length = 16 → ∀ H', aB H H' → E (.ref cM) none H') ∧
  (cs.findIdx? (isC r g b) = none → cs.length < 16 → ∀ H', (∀ b o, H b = some o → b ≠ l → H' b = some o) → H' l = some (.lst (cs.map (fun c => V.ref c.1) ++ [V.ref a])) → Q (.int (cs.length : Int)) H')) ∧
 (dX H v = false → ∀ H', aB H H' → E (.ref cC) none H')
theorem jd.mono {cL : Addr} {H H' : Hp} {p l : Addr} {cs : List (C4)} (v : jd cL H p l cs) (s : aB H H') : jd cL H' p l cs := by
 obtain ⟨⟨dx, h⟩, c⟩ := v
 exact ⟨⟨dx, s _ _ h⟩, c.mono s⟩
theorem bF.tups {H : Hp} {cs : List (C4)} (h : ∀ c ∈ cs, iM H c.1 c.2.1 c.2.2.1 c.2.2.2) : TupsOf H (cs.map fun c => V.ref c.1) (cs.map kc) := by
 induction cs with
 | nil => exact .nil
 | cons c cs ih =>
  obtain ⟨a, r, g, b⟩ := c
  exact .cons (h _ List.mem_cons_self).top (ih fun c hc => h c (List.mem_cons_of_mem _ hc))
theorem fY {l : Addr} {m : Str} (h : ¬ (m = "kept")) : ([("kept", V.ref l)] : List (Str × V)).lookup m = none := by
 show (putF "kept" (V.ref l) []).lookup m = none
 rw [iJ, if_neg h]; rfl
theorem lk_kept1 {l : Addr} : ([("kept", V.ref l)] : List (Str × V)).lookup ("kept" : Str) = some (V.ref l) := by
 show (putF "kept" (V.ref l) []).lookup ("kept" : Str) = some (V.ref l)
 rw [iJ, if_pos rfl]
theorem cols_inj {H : Hp} : ∀ {cs ds : List (C4)}, cs.map (fun c => V.ref c.1) = ds.map (fun c => V.ref c.1) → (∀ c ∈ cs, iM H c.1 c.2.1 c.2.2.1 c.2.2.2) → (∀ c ∈ ds, iM H c.1 c.2.1 c.2.2.1 c.2.2.2) → cs = ds
 | [], [], _, _, _ => rfl
 | [], _ :: _, e, _, _ => nomatch e
 | _ :: _, [], e, _, _ => nomatch e
 | (p, r, g, b) :: cs, (p', r', g', b') :: ds, e, h1, h2 => by
  rw [List.map_cons, List.map_cons] at e
  injection e with e1 e2
  have e1 : p = p' := by injection e1
  subst e1
  obtain ⟨rfl, rfl, rfl⟩ := (h1 (p, r, g, b) List.mem_cons_self).inj (h2 (p, r', g', b') List.mem_cons_self)
  rw [cols_inj e2 (fun c hc => h1 c (List.mem_cons_of_mem _ hc)) (fun c hc => h2 c (List.mem_cons_of_mem _ hc))]
theorem bF.inj {H : Hp} {a : Addr} {cs ds : List (C4)} (v : bF H a cs) (w : bF H a ds) : cs = ds := by
 have e := v.1
 rw [w.1] at e
 have e : ds.map (fun c => V.ref c.1) = cs.map (fun c => V.ref c.1) := by injection e with e; injection e
 exact cols_inj e.symm v.2 w.2
section
variable {P : Program} {w : World} {K : W.Frag} {mg : Str → Option Value} {base : Heap} {cFE cC cN cM cP cL cB cD cZ : Addr} {tP tS tC tI : Tok}
theorem sc_Palette.__init__ : aO ["self", "colours"] ["self", "colours"] (ao s_Palette.__init__) := ⟨rfl, rfl, rfl, by decide +kernel, rfl, by decide +kernel, by decide +kernel⟩
theorem ok_Palette.__init__ {f : Addr} {fd : FuncData} (F : bI K "__init__" "Palette.__init__" s_Palette.__init__ .none f fd) {fC : Addr} (T : Txt K mg cFE cC cN cM cP cL cB cD cZ tP tS tC tI) (g_is_list_of : iR P w K mg base 4 "is_list_of" ["thing", "is_one"] [] (spLocC K fC)) (hC : mg "is_colour" = some (.ref fC)) (g_is_whole_within : iR P w K mg base 2 "is_whole_within" ["thing", "least", "most"] [] (spWh K)) : bB P w K mg base (CX1 P w) 5 f fd ["self", "colours"] (spInit K cP cL) := by
 refine F.okX sc_Palette.__init__ (fun vs H Q E h => ?_) (fun cdv A outer s H vs Q E hr h => ?_)
 ·obtain ⟨p, dx, v, rfl, _⟩ := h; rfl
 ·obtain ⟨p, dx, v, rfl, hp, t, kY, kN⟩ := h
  refine ⟨_, (au (bK (PW.pt (iw (bW (bH (aD g_is_list_of (hr.mono (by decide)) rfl (aa (pv 1) (aa (bR (v := .ref fC) rfl hC rfl) aj))))) (gQ (bW (bH (aD g_is_whole_within (hr.mono (by decide)) rfl (aa (aN (lenK K rfl) rfl T.len PySem.boot_len (aa (pv 1) aj)) (aa aq (aa (bR (v := .int 16) rfl T.MOST_COLOURS ⟨_, rfl⟩) aj))))))))) (aA (gG rfl iG rfl T.BadPalette T.xBadPalette (aa bJ aj))) aV)
    (au (bK (bj op_ne (aN call_lenN rfl T.len PySem.boot_len (aa (cQ (call_setT rfl (Nat.lt_of_le_of_lt (Nat.add_le_add_left (by decide : 8 ≤ 64) _) hr.units)) rfl T.set PyProof.Rows.boot_set (aa (pv 1) aj)) aj)) (aN (lenK K rfl) rfl T.len PySem.boot_len (aa (pv 1) aj)) (bA _)) (aA (gG rfl iG rfl T.BadPalette T.xBadPalette (aa bJ aj))) aV)
    (aA (ps_fld (pv 0) (cQ (listK K rfl) rfl T.list PyProof.Rows.boot_list (aa (pv 1) aj)) rfl)))), ?_⟩
  cases hx : rowOf H v with
  | none =>
   have ng : ¬ GoodP H v := by
    rintro ⟨a, cs, rfl, cv, _⟩
    rw [aH cv.1] at hx; cases hx
   exact ⟨_, rfl, v, rfl, .inr ⟨t.kd, by rw [isL_row t.kd, hx]; rfl, _, rfl, ⟨sz1, kN ng H (aB.refl H)⟩⟩⟩
  | some xs =>
   obtain ⟨a, rfl, e⟩ := fQ hx
   refine ⟨_, rfl, _, rfl, .inl ⟨a, xs, rfl, e, t.len xs hx, t.it xs hx, fun H1 s1 => ⟨_, rfl, iteN (fun h => ?_) (fun h => ?_)⟩⟩⟩
   ·refine ⟨sz1, kN ?_ H1 s1⟩
    rintro ⟨a', cs, ea, cv, _⟩
    cases ea
    have := cv.1
    rw [e] at this
    have : xs = cs.map fun c => V.ref c.1 := by injection this with q; injection q
    rw [this, cv.yes] at h
    cases h
   obtain ⟨cs, rfl, hcs⟩ := cols_of h
   have cv : bF H a cs := ⟨e, hcs⟩
   have c1 := cv.mono s1
   have hlen : (cs.map fun c => V.ref c.1).length = cs.length := List.length_map _
   refine ⟨_, rfl, a, _, rfl, .inl (aU.of c1.1), _, 1, 16, rfl, .int _, _, rfl, iteN (fun hw => ?_) (fun hw => ?_)⟩
   ·refine ⟨sz1, kN ?_ H1 s1⟩
    rintro ⟨a', cs', ea, cv', l1, l16, _⟩
    cases ea
    cases cv.inj cv'
    rw [hlen] at hw
    have : bU 1 16 (.int (cs.length : Int)) = true := by simp only [bU, Bool.and_eq_true, decide_eq_true_eq]; omega
    rw [this] at hw; cases hw
   have hb : 1 ≤ cs.length ∧ cs.length ≤ 16 := by
    rw [hlen] at hw
    simp only [bU, Bool.and_eq_true, decide_eq_true_eq] at hw
    omega
   refine ⟨_, rfl, a, _, cs.map kc, rfl, aU.of c1.1, by rw [hlen]; omega, bF.tups c1.2, fun q hq => ?_⟩
   have z2 := az (o := SetN q (dd (cs.map kc)).length) hq
   have c2 := c1.mono z2
   refine ⟨q, _, rfl, ak, _, rfl, a, _, rfl, .inl (aU.of c2.1), rfl, _, rfl, iteN (fun hn => ?_) (fun hn => ?_)⟩
   ·refine ⟨sz1, kN ?_ _ (s1.trans z2)⟩
    rintro ⟨a', cs', ea, cv', _, _, nd⟩
    cases ea
    cases cv.inj cv'
    have := (dd_nodup (cs.map kc)).mpr nd
    rw [this, hlen, List.length_map] at hn
    simp at hn
   have nd : (cs.map kc).Nodup := (dd_nodup _).mp (by
    have := of_decide_eq_true hn
    rw [hlen] at this
    rw [List.length_map]
    injection this with this
    omega)
   have s12 := s1.trans z2
   refine ⟨_, rfl, a, _, rfl, .inl (aU.of c2.1), fun l hl => ?_⟩
   have npl : p ≠ l := aK (s12 _ _ hp) hl
   refine ⟨_, rfl, p, cL, dx, [], rfl, by rw [aJ npl]; exact s12 _ _ hp, T.cl, T.nK, (by show 0 < 1000; decide), ?_⟩
   refine kY a cs rfl cv hb.1 hb.2 nd l _ (s12.free hl) (fun b o hb' hne => ?_) ⟨⟨dx, ak⟩, ?_, fun c hc => ?_⟩
   ·rw [aJ hne]
    exact (s12.trans (az hl)) b o hb'
   ·rw [aJ npl.symm, ak]
   ·have cc := c2.2 c hc
    have ne : c.1 ≠ p := ne_of cc.top (s12 _ _ hp) (by intro z; cases z)
    exact ⟨by rw [aJ ne]; exact az hl _ _ cc.top, cc.lr, cc.lg, cc.lb⟩
end
theorem colour_eqD {K : W.Frag} {H : Hp} {a a' : Addr} {r g b r' g' b' : Nat} (c' : iM H a' r' g' b') (c : iM H a r g b) : EqD K H 1 (.ref a') (.ref a) (decide ((r', g', b') = (r, g, b))) := by
 by_cases h : a' = a
 ·subst h
  obtain ⟨rfl, rfl, rfl⟩ := c.inj c'
  exact .inl (.inl ⟨a', rfl, rfl, by simp⟩)
 ·refine .inr ⟨a', a, rfl, rfl, h, _, _, .inr ⟨.inr ⟨dC.of c'.top, dC.of c.top⟩, rfl, fun i => [decide (r' = r), decide (g' = g), decide (b' = b)].getD i true, fun i x y hx hy => ?_, ?_⟩⟩
  ·match i, hx, hy with
   | 0, hx, hy => cases hx; cases hy; exact .inr ⟨rfl, rfl, by simp [eqV]; rw [Bool.eq_iff_iff]; simp; omega⟩
   | 1, hx, hy => cases hx; cases hy; exact .inr ⟨rfl, rfl, by simp [eqV]; rw [Bool.eq_iff_iff]; simp; omega⟩
   | 2, hx, hy => cases hx; cases hy; exact .inr ⟨rfl, rfl, by simp [eqV]; rw [Bool.eq_iff_iff]; simp; omega⟩
   | i + 3, hx, hy => cases hx
  ·show _ = ([decide (r' = r), decide (g' = g), decide (b' = b)].getD 0 true && ([decide (r' = r), decide (g' = g), decide (b' = b)].getD 1 true && ([decide (r' = r), decide (g' = g), decide (b' = b)].getD 2 true && true)))
   rw [Bool.eq_iff_iff]; simp
noncomputable def beC (H : Hp) (r g b : Nat) (z : V) : Bool := decide (dB H z = some [.int (r : Int), .int (g : Int), .int (b : Int)])
theorem beC_col {H : Hp} {c : C4} {r g b : Nat} (h : iM H c.1 c.2.1 c.2.2.1 c.2.2.2) : beC H r g b (.ref c.1) = isC r g b c := by
 obtain ⟨a, r', g', b'⟩ := c
 unfold beC isC
 rw [fW h.top, Bool.eq_iff_iff, decide_eq_true_iff, decide_eq_true_iff]
 simp
 omega
theorem in_cols {K : W.Frag} {H : Hp} {l a : Addr} {cs : List (C4)} {r g b : Nat} {neg : Bool} {Q : VK} (v : bF H l cs) (c : iM H a r g b) (k : Q (.bl (if neg then !(cs.findIdx? (isC r g b)).isSome else (cs.findIdx? (isC r g b)).isSome)) H) : rInD K neg 1 (.ref a) (.ref l) H Q := by
 refine ⟨l, _, beC H r g b, rfl, aU.of v.1, fun z hz => ?_, ?_⟩
 ·obtain ⟨c', hc', rfl⟩ := List.mem_map.mp hz
  have cc := v.2 c' hc'
  rw [beC_col cc]
  obtain ⟨a', r', g', b'⟩ := c'
  exact colour_eqD cc c
 ·have e : (cs.map fun c => V.ref c.1).any (beC H r g b) = (cs.findIdx? (isC r g b)).isSome := by
   rw [List.any_map, List.findIdx?_isSome]
   have : ∀ ds : List (C4), (∀ c ∈ ds, iM H c.1 c.2.1 c.2.2.1 c.2.2.2) → ds.any ((beC H r g b) ∘ fun c => V.ref c.1) = ds.any (isC r g b) := by
    intro ds
    induction ds with
    | nil => intro _; rfl
    | cons d ds ih =>
     intro h
     rw [List.any_cons, List.any_cons, ih fun c hc => h c (List.mem_cons_of_mem _ hc)]
     congr 1
     exact beC_col (h d List.mem_cons_self)
   exact this cs v.2
  rw [e]; exact k
theorem index_cols {K : W.Frag} {H : Hp} {l a : Addr} {cs : List (C4)} {r g b j : Nat} {Q : VK} (v : bF H l cs) (c : iM H a r g b) (h : cs.findIdx? (isC r g b) = some j) (k : Q (.int (j : Int)) H) : rIndexL K 1 (.ref l) [.ref a] H Q := by
 obtain ⟨hj, hp, hb⟩ := List.findIdx?_eq_some_iff_getElem.mp h
 have hat : ∀ i (hi : i < cs.length), beC H r g b (.ref (cs[i]).1) = isC r g b cs[i] := fun i hi => beC_col (v.2 _ (List.getElem_mem hi))
 refine ⟨l, _, .ref a, beC H r g b, j, .ref (cs[j]).1, rfl, rfl, v.1, fun z hz => ?_, by rw [List.getElem?_map, List.getElem?_eq_getElem hj]; rfl, by rw [hat j hj]; exact hp, fun i z hi hz => ?_, k⟩
 ·obtain ⟨c', hc', rfl⟩ := List.mem_map.mp hz
  have cc := v.2 c' hc'
  rw [beC_col cc]
  obtain ⟨a', r', g', b'⟩ := c'
  exact colour_eqD cc c
 ·rw [List.getElem?_map, List.getElem?_eq_getElem (by omega)] at hz
  cases hz
  rw [hat i (by omega)]
  have := hb i hi
  simpa using this
section
variable {P : Program} {w : World} {K : W.Frag} {mg : Str → Option Value} {base : Heap} {cFE cC cN cM cP cL cB cD cZ : Addr} {tP tS tC tI : Tok}
theorem sc_Palette.colours : aO ["self"] ["self"] (ao s_Palette.colours) := ⟨rfl, rfl, rfl, by decide +kernel, rfl, by decide +kernel, by decide +kernel⟩
theorem ok_Palette.colours {f : Addr} {fd : FuncData} (F : bI K "colours" "Palette.colours" s_Palette.colours .none f fd) (T : Txt K mg cFE cC cN cM cP cL cB cD cZ tP tS tC tI) : bB P w K mg base gh 1 f fd ["self"] (spCols cL) := by
 refine F.ok sc_Palette.colours (fun vs H Q E h => ?_) (fun cdv A outer s H vs Q E hr h => ?_)
 ·obtain ⟨p, l, cs, rfl, _⟩ := h; rfl
 ·obtain ⟨p, l, cs, rfl, ⟨⟨dx, hp⟩, cv⟩, k⟩ := h
  refine ⟨_, (aA (aM (cQ (listK K rfl) rfl T.list PyProof.Rows.boot_list (aa (pe_fld (pv 0) rfl) aj)))), ?_⟩
  exact ⟨_, rfl, p, cL, dx, _, _, rfl, hp, T.cl, T.nK, lk_kept1, l, _, rfl, .inl (aU.of cv.1), fun q hq => k q hq⟩
theorem sc_Palette.many : aO ["self"] ["self"] (ao s_Palette.many) := ⟨rfl, rfl, rfl, by decide +kernel, rfl, by decide +kernel, by decide +kernel⟩
theorem ok_Palette.many {f : Addr} {fd : FuncData} (F : bI K "many" "Palette.many" s_Palette.many .none f fd) (T : Txt K mg cFE cC cN cM cP cL cB cD cZ tP tS tC tI) : bB P w K mg base gh 1 f fd ["self"] (spMany cL) := by
 refine F.ok sc_Palette.many (fun vs H Q E h => ?_) (fun cdv A outer s H vs Q E hr h => ?_)
 ·obtain ⟨p, l, cs, rfl, _⟩ := h; rfl
 ·obtain ⟨p, l, cs, rfl, ⟨⟨dx, hp⟩, cv⟩, k⟩ := h
  refine ⟨_, (aA (aM (aN (lenK K rfl) rfl T.len PySem.boot_len (aa (pe_fld (pv 0) rfl) aj)))), ?_⟩
  refine ⟨_, rfl, p, cL, dx, _, _, rfl, hp, T.cl, T.nK, lk_kept1, l, _, rfl, .inl (aU.of cv.1), ?_⟩
  rw [List.length_map]
  exact k
theorem sc_Palette.colour_of : aO ["self", "cell"] ["self", "cell"] (ao s_Palette.colour_of) := ⟨rfl, rfl, rfl, by decide +kernel, rfl, by decide +kernel, by decide +kernel⟩
theorem ok_Palette.colour_of {f : Addr} {fd : FuncData} (F : bI K "colour_of" "Palette.colour_of" s_Palette.colour_of .none f fd) (T : Txt K mg cFE cC cN cM cP cL cB cD cZ tP tS tC tI) (g_is_whole_within : iR P w K mg base 2 "is_whole_within" ["thing", "least", "most"] [] (spWh K)) (g_m_many : MetD P w K mg base cL 1 "many" ["self"] (spMany cL)) : bB P w K mg base (CX1 P w) 3 f fd ["self", "cell"] (spColOf K cN cL) := by
 refine F.okX sc_Palette.colour_of (fun vs H Q E h => ?_) (fun cdv A outer s H vs Q E hr h => ?_)
 ·obtain ⟨p, l, cs, v, rfl, _⟩ := h; rfl
 ·obtain ⟨p, l, cs, v, rfl, pq, kd, kY, kN⟩ := h
  obtain ⟨⟨dx, hp⟩, cv⟩ := id pq
  refine ⟨_, (au (bK (bW (bH (aD g_is_whole_within (hr.mono (by decide)) rfl (aa (pv 1) (aa aq (aa (aC op_sub (iz (pv 0) T.cl g_m_many (hr.mono (by decide))) aq) aj)))))) (aA (gG rfl iG rfl T.NoColour T.xNoColour (aa bJ aj))) aV)
    (aA (aM (bM (ixK K rfl) (pe_fld (pv 0) rfl) (pv 1) (fun _ _ => rfl))))), ?_⟩
  refine ⟨_, rfl, _, rfl, p, dx, _, rfl, hp, fY (by decide +kernel), p, l, cs, rfl, pq, _, _, rfl, rfl, v, 0, _, rfl, kd, _, rfl, iteN (fun h => ⟨sz1, kN h⟩) (fun h => ?_)⟩
  obtain ⟨n, rfl, hn⟩ : ∃ n : Nat, v = .int (n : Int) ∧ n < cs.length := by
   cases v with
   | int i =>
    simp only [bU, Bool.and_eq_true, decide_eq_true_eq] at h
    exact ⟨i.toNat, by rw [Int.toNat_of_nonneg h.1], by omega⟩
   | _ => cases h
  exact ⟨_, rfl, p, cL, dx, _, _, rfl, hp, T.cl, T.nK, lk_kept1, _, rfl, l, _, _, _, rfl, rfl, aU.of cv.1, aW (j := n) (by rw [List.getElem?_map, List.getElem?_eq_getElem hn]; rfl), kY n cs[n] rfl (List.getElem?_eq_getElem hn)⟩
theorem sc_Palette.cell_of : aO ["self", "colour"] ["self", "colour"] (ao s_Palette.cell_of) := ⟨rfl, rfl, rfl, by decide +kernel, rfl, by decide +kernel, by decide +kernel⟩
theorem ok_Palette.cell_of {f : Addr} {fd : FuncData} (F : bI K "cell_of" "Palette.cell_of" s_Palette.cell_of .none f fd) (T : Txt K mg cFE cC cN cM cP cL cB cD cZ tP tS tC tI) (g_need_colour : DefX P w K mg base 4 "need_colour" ["colour"] [] (spNeedC K cC)) : bB P w K mg base (CX1 P w) 5 f fd ["self", "colour"] (spCellOf K cC cL) := by
 refine F.okX sc_Palette.cell_of (fun vs H Q E h => ?_) (fun cdv A outer s H vs Q E hr h => ?_)
 ·obtain ⟨p, l, cs, v, rfl, _⟩ := h; rfl
 ·obtain ⟨p, l, cs, v, rfl, pq, tc, kY, kN⟩ := h
  have hu : _ + 64 < cLine := hr.units
  refine ⟨_, (au (cz (fK g_need_colour (hr.mono (by decide)) iu rfl (aa (pv 1) aj)))
    (aA (aM (pe_ifExp (bj (op_inD K rfl 1 (by decide) hu) (pv 1) (pe_fld (pv 0) rfl) (by with_unfolding_all rfl)) (pe_bm PySem.F.plainAttrs_list PySem.F.slot_list_index PySem.F.type_list_index (mt_indexL K rfl 1 (by decide) hu) (pe_fld (pv 0) rfl) (aa (pv 1) aj)) iT)))), ?_⟩
  refine ⟨_, rfl, v, rfl, tc, fun hc H1 s1 => ?_, fun hc => kN hc⟩
  obtain ⟨a, r, g, b, rfl, c⟩ := col_of hc
  have kY := kY a r g b rfl c H1 s1
  obtain ⟨⟨dx, hp⟩, cv⟩ := pq.mono s1
  have c1 := c.mono s1
  refine ⟨_, rfl, _, rfl, p, cL, dx, _, _, rfl, hp, T.cl, T.nK, lk_kept1, in_cols (neg := false) cv c1 ⟨_, rfl, ?_⟩⟩
  cases hf : cs.findIdx? (isC r g b) with
  | none =>
   rw [cellV, hf] at kY
   exact kY
  | some j =>
   rw [cellV, hf] at kY
   exact ⟨_, rfl, p, cL, dx, _, _, rfl, hp, T.cl, T.nK, lk_kept1, .inl ⟨rfl, _, aU.of cv.1⟩, _, rfl, index_cols cv c1 hf kY⟩
theorem sc_Palette.add_colour : aO ["self", "colour", "cell"] ["self", "colour"] (ao s_Palette.add_colour) := ⟨rfl, rfl, rfl, by decide +kernel, rfl, by decide +kernel, by decide +kernel⟩
theorem ok_Palette.add_colour {f : Addr} {fd : FuncData} (F : bI K "add_colour" "Palette.add_colour" s_Palette.add_colour .none f fd) (T : Txt K mg cFE cC cN cM cP cL cB cD cZ tP tS tC tI) (g_m_cell_of : MetX P w K mg base cL 5 "cell_of" ["self", "colour"] (spCellOf K cC cL)) (g_m_many : MetD P w K mg base cL 1 "many" ["self"] (spMany cL)) : bB P w K mg base (CX1 P w) 6 f fd ["self", "colour"] (spAdd K cC cM cL) := by
 refine F.okX sc_Palette.add_colour (fun vs H Q E h => ?_) (fun cdv A outer s H vs Q E hr h => ?_)
 ·obtain ⟨p, l, cs, v, rfl, _⟩ := h; rfl
 ·obtain ⟨p, l, cs, v, rfl, pq, h16, tc, kY, kN⟩ := h
  refine ⟨_, (au (aQ (i := 2) sc_Palette.add_colour.nd rfl (.inl rfl) (pe_metX (pv 0) T.cl g_m_cell_of (hr.mono (by decide)) iu (aa (pv 1) aj)))
    (au (bK (pt_cmp (pc_notN (pv 2))) (aA (aM (pv 2))) aV)
    (au (bK (bj op_eq (iz (pv 0) T.cl g_m_many (hr.mono (by decide))) (bR (v := .int 16) rfl T.MOST_COLOURS ⟨_, rfl⟩) (bA _)) (aA (gG rfl iG rfl T.TooMany T.xTooMany (aa bJ aj))) aV)
    (au (cz (pe_bm PySem.F.plainAttrs_list PySem.F.slot_list_append PySem.F.type_list_append cH (pe_fld (pv 0) rfl) (aa (pv 1) aj)))
    (aA (aM (aC op_sub (iz (pv 0) T.cl g_m_many (hr.mono (by decide))) aq))))))), ?_⟩
  obtain ⟨⟨dx, hp⟩, cv⟩ := id pq
  refine ⟨_, rfl, p, dx, _, rfl, hp, fY (by decide +kernel), _, rfl, p, l, cs, v, rfl, pq, tc, fun a r g b e c H1 s1 => ?_, fun hc => kN hc⟩
  subst e
  obtain ⟨kA, kB, kC⟩ := kY a r g b rfl c
  obtain ⟨⟨dx, hp⟩, cv⟩ := pq.mono s1
  have c1 := c.mono s1
  have pq1 := pq.mono s1
  cases hf : cs.findIdx? (isC r g b) with
  | some j =>
   have e : cellV cs r g b = .int (j : Int) := by unfold cellV; rw [hf]
   rw [e]
   exact ⟨_, rfl, _, rfl, ⟨_, rfl, kA j hf H1 s1⟩⟩
  | none =>
   have e : cellV cs r g b = .non := by unfold cellV; rw [hf]
   rw [e]
   refine ⟨_, rfl, _, rfl, _, rfl, p, dx, _, rfl, hp, fY (by decide +kernel), p, l, cs, rfl, pq1, rfl, _, rfl, ite2 (fun h => ?_) (fun h => ?_)⟩
   ·exact ⟨sz1, kB hf (by have h := of_decide_eq_true h; injection h with h; omega) H1 s1⟩
   ·have hl : cs.length < 16 := by
     rcases Nat.lt_or_ge cs.length 16 with q | q
     ·exact q
     ·exact absurd (by rw [show cs.length = 16 by omega]; rfl) h
    refine ⟨_, rfl, p, cL, dx, _, _, rfl, hp, T.cl, T.nK, lk_kept1, .inl ⟨rfl, _, aU.of cv.1⟩, _, rfl, l, _, _, rfl, rfl, cv.1, Nat.lt_of_lt_of_le (by rw [List.length_map]; omega : _ < 5000) (by decide), ?_⟩
    have npl : p ≠ l := ne_of hp cv.1 (by intro z; cases z)
    have cv2 : bF (upd H1 l (.lst (cs.map (fun c => V.ref c.1) ++ [V.ref a]))) l (cs ++ [(a, r, g, b)]) := by
     refine ⟨by rw [ak, List.map_append]; rfl, fun d hd => ?_⟩
     have cd : iM H1 d.1 d.2.1 d.2.2.1 d.2.2.2 := by
      rcases List.mem_append.mp hd with hd | hd
      ·exact cv.2 d hd
      ·rw [List.mem_singleton.mp hd]; exact c1
     exact ⟨by rw [aJ (ne_of cd.top cv.1 (by intro z; cases z))]; exact cd.top, cd.lr, cd.lg, cd.lb⟩
    refine ⟨_, rfl, p, dx, _, rfl, by rw [aJ npl]; exact hp, fY (by decide +kernel), p, l, _, rfl, ⟨⟨dx, by rw [aJ npl]; exact hp⟩, cv2⟩, _, _, rfl, rfl, ?_⟩
    have e3 : (((cs ++ [(a, r, g, b)]).length : Nat) : Int) - 1 = (cs.length : Int) := by rw [List.length_append]; show ((cs.length + 1 : Nat) : Int) - 1 = _; omega
    show Q (.int ((((cs ++ [(a, r, g, b)]).length : Nat) : Int) - 1)) _
    rw [e3]
    exact kC hf hl _ (fun b o hb hne => by rw [aJ hne]; exact s1 b o hb) ak
end
noncomputable def Clb (K : W.Frag) (mg : Str → Option Value) (c : Addr) (n : Str) (b : Bool) : Prop := ∃ a : Addr, mg n = some (.ref a) ∧ W.kitOne K (.ref c) (.ref a) = some b
structure TxtW (K : W.Frag) (mg : Str → Option Value) (c : Addr) (word : Str) (b1 b2 b3 b4 b5 b6 b7 b8 b9 : Bool) : Prop where
 kX : XCls K c
 iV : W.kitOne K (.ref c) (.type "ValueError") = some true
 hw : ∀ t1 t2 t3 t4 t5 t6 t7 t8 t9 : Addr, (([(t1, ("cell" : Str), b1), (t2, ("colour" : Str), b2), (t3, ("pack" : Str), b3), (t4, ("palette" : Str), b4), (t5, ("picture" : Str), b5), (t6, ("size" : Str), b6), (t7, ("none" : Str), b7), (t8, ("many" : Str), b8), (t9, ("runs" : Str), b9)] : List (Addr × Str × Bool)).filter fun t => t.2.2).map (fun t => V.str t.2.1) = [V.str word]
 BadCell : Clb K mg c "BadCell" b1
 BadColour : Clb K mg c "BadColour" b2
 BadPack : Clb K mg c "BadPack" b3
 BadPalette : Clb K mg c "BadPalette" b4
 BadPicture : Clb K mg c "BadPicture" b5
 BadSize : Clb K mg c "BadSize" b6
 NoColour : Clb K mg c "NoColour" b7
 TooMany : Clb K mg c "TooMany" b8
 BadRuns : Clb K mg c "BadRuns" b9
 BadCheck : Clb K mg c "BadCheck" false
 BadDeed : Clb K mg c "BadDeed" false
 BadEdge : Clb K mg c "BadEdge" false
 BadHead : Clb K mg c "BadHead" false
 BadMask : Clb K mg c "BadMask" false
 BadName : Clb K mg c "BadName" false
 BadPart : Clb K mg c "BadPart" false
 BadRule : Clb K mg c "BadRule" false
 BadText : Clb K mg c "BadText" false
 NoPart : Clb K mg c "NoPart" false
 NoPicture : Clb K mg c "NoPicture" false
 NothingDone : Clb K mg c "NothingDone" false
 OutOfPlace : Clb K mg c "OutOfPlace" false
 Twice : Clb K mg c "Twice" false
noncomputable def spWhole : Sp := fun vs H Q _ => ∃ i : Int, vs = [.int i] ∧ Q (.bl true) H
noncomputable def spDraw (K : W.Frag) : Sp := fun vs H Q _ => ∃ (a : Addr) (ns : List Int) (k : Nat), vs = [.ref a, .int (k : Int)] ∧ aU K H a (ns.map V.int) ∧ k ≤ 1000 ∧ ∀ (n : Nat) H', n < 2147483647 → aB H H' → Q (.int (n : Int)) H'
noncomputable def spW (c : Addr) (word : Str) (ea : Addr) : Sp := fun vs H Q _ => vs = [.ref ea] ∧ H ea = some (iY ea c) ∧ ∀ t H', aB H H' → H t = none → H' t = some (.tup [.str word]) → Q (.ref t) H'
theorem wordB {P : Program} {w : World} {K : W.Frag} {mg : Str → Option Value} {base : Heap} {k : Nat} {f : Addr} {fd : FuncData} {ps : List Str} {s1 s2 : Addr → Sp} (a : FnOkM P w K mg base k f fd ps s1) (b : FnOkM P w K mg base k f fd ps s2) : FnOkM P w K mg base k f fd ps (fun ea vs H Q E => s1 ea vs H Q E ∨ s2 ea vs H Q E) :=
 ⟨fun ea vs H Q E h => h.elim (a.len ea vs H Q E) (b.len ea vs H Q E), fun A ea outer s H args us vs Q E r e bn v h => h.elim (a.run A ea outer s H args us vs Q E r e bn v) (b.run A ea outer s H args us vs Q E r e bn v)⟩
theorem EqL.nil {K : W.Frag} {H : Hp} {a p : Addr} {xs : List V} {rec : V → V → Bool → Prop} (ha : aU K H a xs) (hp : aU K H p []) : EqL K H rec a p (decide (xs = [])) := by
 cases xs with
 | nil => exact ⟨[], [], .inr ⟨.inl ⟨ha, hp⟩, rfl, fun _ => true, (fun i x y e => by simp at e), rfl⟩⟩
 | cons x r => exact ⟨_, [], .inl ⟨ha, hp, by simp, rfl⟩⟩
theorem tupleK {X : Cx} (K : W.Frag) (hK : X.K = K) : gU X (.type "tuple") (fun xs H Q => ∃ p ys, xs = [V.ref p] ∧ ((aU K H p ys ∧ ∀ (l : Addr), H l = none → Q (V.ref l) (upd H l (HO.tup ys))) ∨ dC K H p ys ∧ Q (V.ref p) H)) := by
 subst hK
 exact fH
section
variable {P : Program} {w : World} {K : W.Frag} {mg : Str → Option Value} {base : Heap} {cFE cC cN cM cP cL cB cD cZ : Addr} {tP tS tC tI : Tok}
theorem iI : aO ["_law_script", "_law_k", "_law_cell", "_law_base"] ["_law_script", "_law_k"] (ao dY) := ⟨rfl, rfl, rfl, by decide +kernel, rfl, by decide +kernel, by decide +kernel⟩
theorem ok_law_draw {f : Addr} {fd : FuncData} (F : bI K "_law_draw" "_law_draw" dY .none f fd) (T : Txt K mg cFE cC cN cM cP cL cB cD cZ tP tS tC tI) : bB P w K mg base gh 1 f fd ["_law_script", "_law_k"] (spDraw K) := by
 refine F.ok iI (fun vs H Q E h => ?_) (fun cdv A outer s H vs Q E hr h => ?_)
 ·obtain ⟨a, ns, k, rfl, _⟩ := h; rfl
 ·obtain ⟨a, ns, k, rfl, hS, hk, kk⟩ := h
  have hu : _ + 64 < cLine := hr.units
  obtain ⟨t2, r2, k2⟩ : ∃ tr, PSs ((gY gh P w K mg base ["_law_script", "_law_k", "_law_cell", "_law_base"] "_law_draw" (ao dY) f cdv A outer s H E).nox) ((aF dY).drop 2) tr ∧
    ∀ (c : Int) (H1 : Hp), aB H H1 → tr { nx := fun _ H' => Q .non H', rt := Q } [some (.ref a), some (.int (k : Int)), some (.int c), none] H1 := by
   refine ⟨_, (au (aQ (i := 3) iI.nd rfl (.inl rfl) (aC bf (aC op_mul (aC cj (aC cj (aC cj (pv 2) (aC op_mul (aC op_mul aq (pv 1)) (pv 1))) (aC op_mul aq (pv 1))) aq) aq) aq))
    (aA (aM (aC bf (aC op_mul (pv 3) (aC cj aq (aC op_mul (pv 1) (pv 1)))) aq)))), ?_⟩
   intro c H1 s1
   refine ⟨_, rfl, _, rfl, _, _, rfl, rfl, .inl ⟨by decide, by decide⟩, _, rfl, _, _, rfl, rfl, .inr ⟨by omega, by omega⟩, _, _, rfl, rfl, _, rfl, _, _, rfl, rfl, .inl ⟨by decide, by decide⟩, _, _, rfl, rfl, _, _, rfl, rfl, _, _, rfl, rfl, .inr ⟨by decide, by decide⟩, _, _, rfl, rfl, (by show (0 : Int) < 2147483647; decide), ?_⟩
   have f0 := Int.emod_nonneg ((c + 1009 * (k : Int) * (k : Int) + 31 * (k : Int) + 11) * 1103515245) (show (2147483647 : Int) ≠ 0 by decide)
   have f1 := Int.emod_lt_of_pos ((c + 1009 * (k : Int) * (k : Int) + 31 * (k : Int) + 11) * 1103515245) (show (0 : Int) < 2147483647 by decide)
   show dG 3 (.int ((c + 1009 * (k : Int) * (k : Int) + 31 * (k : Int) + 11) * 1103515245 % 2147483647)) _ H1 _
   generalize (c + 1009 * (k : Int) * (k : Int) + 31 * (k : Int) + 11) * 1103515245 % 2147483647 = bs at f0 f1 ⊢
   refine ⟨_, rfl, _, rfl, _, rfl, _, _, rfl, rfl, .inl ⟨by omega, by omega⟩, _, _, rfl, rfl, _, _, rfl, rfl, .inl ⟨by omega, by omega⟩, _, _, rfl, rfl, (by show (0 : Int) < 2147483647; decide), ?_⟩
   have g0 := Int.emod_nonneg (bs * (48271 + (k : Int) * (k : Int))) (show (2147483647 : Int) ≠ 0 by decide)
   have g1 := Int.emod_lt_of_pos (bs * (48271 + (k : Int) * (k : Int))) (show (0 : Int) < 2147483647 by decide)
   show Q (.int (bs * (48271 + (k : Int) * (k : Int)) % 2147483647)) H1
   obtain ⟨n, en, hn⟩ : ∃ n : Nat, bs * (48271 + (k : Int) * (k : Int)) % 2147483647 = (n : Int) ∧ n < 2147483647 := ⟨(bs * (48271 + (k : Int) * (k : Int)) % 2147483647).toNat, by omega, by omega⟩
   rw [en]
   exact kk n H1 hn s1
  refine ⟨_, (au (aQ (i := 2) iI.nd rfl (.inl rfl) aq)
    (au (bK (bj (neDK K rfl hu) (pv 0) (aZ aj) (bA _)) (aA (aQ (i := 2) iI.nd rfl (.inl rfl) (bM (ixK K rfl) (pv 0) (aC bf (pv 1) (aN (lenK K rfl) rfl T.len PySem.boot_len (aa (pv 0) aj))) (fun _ _ => rfl)))) aV)
    (@r2))), ?_⟩
  refine ⟨_, rfl, Nat.zero_le _, fun p hp => ?_⟩
  have z := az (o := HO.lst []) hp
  refine ⟨1, a, p, _, by decide, rfl, rfl, EqL.nil (z.seq hS) (aU.of ak), _, rfl, ?_⟩
  cases ns with
  | nil => exact k2 0 _ z
  | cons x r =>
   refine ⟨_, rfl, _, rfl, _, rfl, a, _, rfl, .inl (z.seq hS), _, _, rfl, rfl, (by show (0 : Int) < (((x :: r).map V.int).length : Int); rw [List.length_map, List.length_cons]; omega), ?_⟩
   have f0 := Int.emod_nonneg (k : Int) (show (((x :: r).map V.int).length : Int) ≠ 0 by rw [List.length_map, List.length_cons]; omega)
   have f1 := Int.emod_lt_of_pos (k : Int) (show (0 : Int) < (((x :: r).map V.int).length : Int) by rw [List.length_map, List.length_cons]; omega)
   obtain ⟨v, hv, hvm⟩ : ∃ v, atI ((x :: r).map V.int) ((k : Int) % (((x :: r).map V.int).length : Int)) = some v ∧ v ∈ (x :: r).map V.int := by
    obtain ⟨j, ej⟩ : ∃ j : Nat, (k : Int) % (((x :: r).map V.int).length : Int) = (j : Int) := ⟨((k : Int) % (((x :: r).map V.int).length : Int)).toNat, by omega⟩
    rw [ej] at f1 ⊢
    have hj : j < ((x :: r).map V.int).length := by omega
    exact ⟨_, aW (List.getElem?_eq_getElem hj), List.getElem_mem hj⟩
   obtain ⟨c, _, rfl⟩ := List.mem_map.mp hvm
   exact ⟨a, _, _, _, rfl, rfl, z.seq hS, hv, k2 c _ z⟩
theorem sc_law_whole : aO ["_law_found"] ["_law_found"] (ao fO) := ⟨rfl, rfl, rfl, by decide +kernel, rfl, by decide +kernel, by decide +kernel⟩
theorem ok_law_whole {f : Addr} {fd : FuncData} (F : bI K "_law_whole" "_law_whole" fO .none f fd) (T : Txt K mg cFE cC cN cM cP cL cB cD cZ tP tS tC tI) : bB P w K mg base gh 1 f fd ["_law_found"] spWhole := by
 refine F.ok sc_law_whole (fun vs H Q E h => ?_) (fun cdv A outer s H vs Q E hr h => ?_)
 ·obtain ⟨i, rfl, _⟩ := h; rfl
 ·obtain ⟨i, rfl, k⟩ := h
  refine ⟨_, (aA (aM (pe_and (isiK K rfl (pv 0) rfl T.isinstance rfl T.int PyProof.Rows.boot_int) (pe_one (pe_not (isiK K rfl (pv 0) rfl T.isinstance rfl T.bool PyProof.Rows.boot_bool)))))), ?_⟩
  exact ⟨_, rfl, _, (Kd.int (K := K) (H := H) i).isInt, _, rfl, iteT ⟨_, rfl, _, (Kd.int (K := K) (H := H) i).isBool, _, rfl, k⟩⟩
theorem fP : aO ["_law_e", "_law_some", "_law_found"] ["_law_e"] (ao gk) := ⟨rfl, rfl, rfl, by decide +kernel, rfl, by decide +kernel, by decide +kernel⟩
theorem ok_law_word {c f : Addr} {fd : FuncData} {word : Str} {b1 b2 b3 b4 b5 b6 b7 b8 b9 : Bool} (F : bI K "_law_word" "_law_word" gk .none f fd) (T : Txt K mg cFE cC cN cM cP cL cB cD cZ tP tS tC tI) (TW : TxtW K mg c word b1 b2 b3 b4 b5 b6 b7 b8 b9) : FnOkM P w K mg base 2 f fd ["_law_e"] (spW c word) := by
 refine F.okM fP (fun ea vs H Q E h => ?_) (fun cdv A ea outer s H vs Q E hr h => ?_)
 ·obtain ⟨rfl, _⟩ := h; rfl
 ·obtain ⟨rfl, ex, k⟩ := h
  obtain ⟨cBadCell, mBadCell, nBadCell⟩ := TW.BadCell
  obtain ⟨cBadColour, mBadColour, nBadColour⟩ := TW.BadColour
  obtain ⟨cBadPack, mBadPack, nBadPack⟩ := TW.BadPack
  obtain ⟨cBadPalette, mBadPalette, nBadPalette⟩ := TW.BadPalette
  obtain ⟨cBadPicture, mBadPicture, nBadPicture⟩ := TW.BadPicture
  obtain ⟨cBadSize, mBadSize, nBadSize⟩ := TW.BadSize
  obtain ⟨cNoColour, mNoColour, nNoColour⟩ := TW.NoColour
  obtain ⟨cTooMany, mTooMany, nTooMany⟩ := TW.TooMany
  obtain ⟨cBadRuns, mBadRuns, nBadRuns⟩ := TW.BadRuns
  obtain ⟨cBadCheck, mBadCheck, nBadCheck⟩ := TW.BadCheck
  obtain ⟨cBadDeed, mBadDeed, nBadDeed⟩ := TW.BadDeed
  obtain ⟨cBadEdge, mBadEdge, nBadEdge⟩ := TW.BadEdge
  obtain ⟨cBadHead, mBadHead, nBadHead⟩ := TW.BadHead
  obtain ⟨cBadMask, mBadMask, nBadMask⟩ := TW.BadMask
  obtain ⟨cBadName, mBadName, nBadName⟩ := TW.BadName
  obtain ⟨cBadPart, mBadPart, nBadPart⟩ := TW.BadPart
  obtain ⟨cBadRule, mBadRule, nBadRule⟩ := TW.BadRule
  obtain ⟨cBadText, mBadText, nBadText⟩ := TW.BadText
  obtain ⟨cNoPart, mNoPart, nNoPart⟩ := TW.NoPart
  obtain ⟨cNoPicture, mNoPicture, nNoPicture⟩ := TW.NoPicture
  obtain ⟨cNothingDone, mNothingDone, nNothingDone⟩ := TW.NothingDone
  obtain ⟨cOutOfPlace, mOutOfPlace, nOutOfPlace⟩ := TW.OutOfPlace
  obtain ⟨cTwice, mTwice, nTwice⟩ := TW.Twice
  refine ⟨_, (au (aQ (i := 1) fP.nd rfl (.inl rfl) (aZ (aa (bD (aa bJ (aa (isiCK K rfl (pv 0) rfl T.isinstance rfl mBadCell) aj))) (aa (bD (aa bJ (aa (isiCK K rfl (pv 0) rfl T.isinstance rfl mBadColour) aj))) (aa (bD (aa bJ (aa (isiCK K rfl (pv 0) rfl T.isinstance rfl mBadPack) aj))) aj)))))
    (au (aQ (i := 1) fP.nd rfl (.inl rfl) (aC gm (pv 1) (aZ (aa (bD (aa bJ (aa (isiCK K rfl (pv 0) rfl T.isinstance rfl mBadPalette) aj))) (aa (bD (aa bJ (aa (isiCK K rfl (pv 0) rfl T.isinstance rfl mBadPicture) aj))) aj)))))
    (au (aQ (i := 1) fP.nd rfl (.inl rfl) (aC gm (pv 1) (aZ (aa (bD (aa bJ (aa (isiCK K rfl (pv 0) rfl T.isinstance rfl mBadSize) aj))) (aa (bD (aa bJ (aa (isiCK K rfl (pv 0) rfl T.isinstance rfl mNoColour) aj))) aj)))))
    (au (aQ (i := 1) fP.nd rfl (.inl rfl) (aC gm (pv 1) (aZ (aa (bD (aa bJ (aa (isiCK K rfl (pv 0) rfl T.isinstance rfl mTooMany) aj))) (aa (bD (aa bJ (aa (isiCK K rfl (pv 0) rfl T.isinstance rfl mBadRuns) aj))) aj)))))
    (au (ps_setCG (Marked ea) (ix := 2) (N := ["_law_word_here", "_law_fits"]) (src := [none, none]) fP.nd rfl rfl (fun _ _ _ _ => rfl) ⟨rfl, rfl, rfl, rfl, rfl, by decide +kernel⟩ (pi_listM K rfl (pv 1)) (fun s H C fp => pg_tupM (n := 2) K rfl rfl (jb (aP (i := 0) (show (["_law_word_here", "_law_fits"] : List Str).Nodup by decide +kernel) rfl (.inl rfl)) (jb (aP (i := 1) (show (["_law_word_here", "_law_fits"] : List Str).Nodup by decide +kernel) rfl (.inl rfl)) pgs_nil))) (fun s H C fp => (pts_one (bH (pv 1)))) (fun s H C fp => (pv 0)))
    (au (bK (bH (aN (call_isXE K rfl) rfl T.isinstance PyProof.Rows.boot_isinstance (aa (pv 0) (aa (bD (aa (bR (v := .ref cBadCheck) rfl mBadCheck rfl) (aa (bR (v := .ref cBadDeed) rfl mBadDeed rfl) (aa (bR (v := .ref cBadEdge) rfl mBadEdge rfl) (aa (bR (v := .ref cBadHead) rfl mBadHead rfl) (aa (bR (v := .ref cBadMask) rfl mBadMask rfl) (aa (bR (v := .ref cBadName) rfl mBadName rfl) (aa (bR (v := .ref cBadPart) rfl mBadPart rfl) (aa (bR (v := .ref cBadRule) rfl mBadRule rfl) (aa (bR (v := .ref cBadText) rfl mBadText rfl) aj)))))))))) aj)))) (aA (cz (pe_bm PySem.F.plainAttrs_list PySem.F.slot_list_append PySem.F.type_list_append cH (pv 2) (aa bJ aj)))) aV)
    (au (bK (PW.pt (iw (bH (aN (call_isXE K rfl) rfl T.isinstance PyProof.Rows.boot_isinstance (aa (pv 0) (aa (bD (aa (bR (v := .ref cNoPart) rfl mNoPart rfl) (aa (bR (v := .ref cNoPicture) rfl mNoPicture rfl) (aa (bR (v := .ref cNothingDone) rfl mNothingDone rfl) (aa (bR (v := .ref cOutOfPlace) rfl mOutOfPlace rfl) (aa (bR (v := .ref cTwice) rfl mTwice rfl) aj)))))) aj)))) (gQ (bW (bH (isiK K rfl (pv 0) rfl T.isinstance rfl T.ValueError boot_VE)))))) (aA (cz (pe_bm PySem.F.plainAttrs_list PySem.F.slot_list_append PySem.F.type_list_append cH (pv 2) (aa bJ aj)))) aV)
    (aA (aM (cQ (tupleK K rfl) rfl T.tuple PyProof.Rows.boot_tuple (aa (pv 2) aj))))))))))), ?_⟩
  have sm := aB.refl H
  refine ⟨_, rfl, b1, ⟨_, .exc ex TW.kX, nBadCell⟩, sz2, fun t1 h_ => ?_⟩
  have z_ := az (o := HO.tup [V.str "cell", .bl b1]) h_
  have ft1 : H t1 = none := sm.free h_
  have sm := sm.trans z_
  have ex := z_ _ _ ex
  have et1 : upd H t1 (HO.tup [V.str "cell", .bl b1]) t1 = some (HO.tup [V.str "cell", .bl b1]) := ak
  clear z_
  generalize upd H t1 (HO.tup [V.str "cell", .bl b1]) = G1 at sm ex et1 h_ ⊢
  clear h_
  refine ⟨_, rfl, b2, ⟨_, .exc ex TW.kX, nBadColour⟩, sz2, fun t2 h_ => ?_⟩
  have z_ := az (o := HO.tup [V.str "colour", .bl b2]) h_
  have ft2 : H t2 = none := sm.free h_
  have sm := sm.trans z_
  have ex := z_ _ _ ex
  have et1 := z_ _ _ et1
  have et2 : upd G1 t2 (HO.tup [V.str "colour", .bl b2]) t2 = some (HO.tup [V.str "colour", .bl b2]) := ak
  clear z_
  generalize upd G1 t2 (HO.tup [V.str "colour", .bl b2]) = G2 at sm ex et1 et2 h_ ⊢
  clear h_
  refine ⟨_, rfl, b3, ⟨_, .exc ex TW.kX, nBadPack⟩, sz2, fun t3 h_ => ?_⟩
  have z_ := az (o := HO.tup [V.str "pack", .bl b3]) h_
  have ft3 : H t3 = none := sm.free h_
  have sm := sm.trans z_
  have ex := z_ _ _ ex
  have et1 := z_ _ _ et1
  have et2 := z_ _ _ et2
  have et3 : upd G2 t3 (HO.tup [V.str "pack", .bl b3]) t3 = some (HO.tup [V.str "pack", .bl b3]) := ak
  clear z_
  generalize upd G2 t3 (HO.tup [V.str "pack", .bl b3]) = G3 at sm ex et1 et2 et3 h_ ⊢
  clear h_
  refine ⟨sz3, fun l1 h_ => ?_⟩
  have z_ := az (o := HO.lst [V.ref t1, .ref t2, .ref t3]) h_
  have fl1 : H l1 = none := sm.free h_
  have sm := sm.trans z_
  have ex := z_ _ _ ex
  have et1 := z_ _ _ et1
  have et2 := z_ _ _ et2
  have et3 := z_ _ _ et3
  have el1 : upd G3 l1 (HO.lst [V.ref t1, .ref t2, .ref t3]) l1 = some (HO.lst [V.ref t1, .ref t2, .ref t3]) := ak
  clear z_
  generalize upd G3 l1 (HO.lst [V.ref t1, .ref t2, .ref t3]) = G4 at sm ex et1 et2 et3 el1 h_ ⊢
  clear h_
  refine ⟨_, rfl, ?_⟩
  refine ⟨_, rfl, b4, ⟨_, .exc ex TW.kX, nBadPalette⟩, sz2, fun t4 h_ => ?_⟩
  have z_ := az (o := HO.tup [V.str "palette", .bl b4]) h_
  have ft4 : H t4 = none := sm.free h_
  have sm := sm.trans z_
  have ex := z_ _ _ ex
  have et1 := z_ _ _ et1
  have et2 := z_ _ _ et2
  have et3 := z_ _ _ et3
  have el1 := z_ _ _ el1
  have et4 : upd G4 t4 (HO.tup [V.str "palette", .bl b4]) t4 = some (HO.tup [V.str "palette", .bl b4]) := ak
  clear z_
  generalize upd G4 t4 (HO.tup [V.str "palette", .bl b4]) = G5 at sm ex et1 et2 et3 el1 et4 h_ ⊢
  clear h_
  refine ⟨_, rfl, b5, ⟨_, .exc ex TW.kX, nBadPicture⟩, sz2, fun t5 h_ => ?_⟩
  have z_ := az (o := HO.tup [V.str "picture", .bl b5]) h_
  have ft5 : H t5 = none := sm.free h_
  have sm := sm.trans z_
  have ex := z_ _ _ ex
  have et1 := z_ _ _ et1
  have et2 := z_ _ _ et2
  have et3 := z_ _ _ et3
  have el1 := z_ _ _ el1
  have et4 := z_ _ _ et4
  have et5 : upd G5 t5 (HO.tup [V.str "picture", .bl b5]) t5 = some (HO.tup [V.str "picture", .bl b5]) := ak
  clear z_
  generalize upd G5 t5 (HO.tup [V.str "picture", .bl b5]) = G6 at sm ex et1 et2 et3 el1 et4 et5 h_ ⊢
  clear h_
  refine ⟨sz2, fun m2 h_ => ?_⟩
  have z_ := az (o := HO.lst [V.ref t4, .ref t5]) h_
  have fm2 : H m2 = none := sm.free h_
  have sm := sm.trans z_
  have ex := z_ _ _ ex
  have et1 := z_ _ _ et1
  have et2 := z_ _ _ et2
  have et3 := z_ _ _ et3
  have el1 := z_ _ _ el1
  have et4 := z_ _ _ et4
  have et5 := z_ _ _ et5
  have em2 : upd G6 m2 (HO.lst [V.ref t4, .ref t5]) m2 = some (HO.lst [V.ref t4, .ref t5]) := ak
  clear z_
  generalize upd G6 m2 (HO.lst [V.ref t4, .ref t5]) = G7 at sm ex et1 et2 et3 el1 et4 et5 em2 h_ ⊢
  clear h_
  refine ⟨l1, m2, _, _, rfl, rfl, el1, em2, (by show 3 + 2 ≤ sizeLine; decide), fun l2 h_ => ?_⟩
  have z_ := az (o := HO.lst ([V.ref t1, .ref t2, .ref t3] ++ [V.ref t4, .ref t5])) h_
  have fl2 : H l2 = none := sm.free h_
  have sm := sm.trans z_
  have ex := z_ _ _ ex
  have et1 := z_ _ _ et1
  have et2 := z_ _ _ et2
  have et3 := z_ _ _ et3
  have el1 := z_ _ _ el1
  have et4 := z_ _ _ et4
  have et5 := z_ _ _ et5
  have em2 := z_ _ _ em2
  have el2 : upd G7 l2 (HO.lst ([V.ref t1, .ref t2, .ref t3] ++ [V.ref t4, .ref t5])) l2 = some (HO.lst ([V.ref t1, .ref t2, .ref t3] ++ [V.ref t4, .ref t5])) := ak
  clear z_
  generalize upd G7 l2 (HO.lst ([V.ref t1, .ref t2, .ref t3] ++ [V.ref t4, .ref t5])) = G8 at sm ex et1 et2 et3 el1 et4 et5 em2 el2 h_ ⊢
  clear h_
  have el2 : G8 l2 = some (.lst [V.ref t1, .ref t2, .ref t3, .ref t4, .ref t5]) := el2
  refine ⟨_, rfl, ?_⟩
  refine ⟨_, rfl, b6, ⟨_, .exc ex TW.kX, nBadSize⟩, sz2, fun t6 h_ => ?_⟩
  have z_ := az (o := HO.tup [V.str "size", .bl b6]) h_
  have ft6 : H t6 = none := sm.free h_
  have sm := sm.trans z_
  have ex := z_ _ _ ex
  have et1 := z_ _ _ et1
  have et2 := z_ _ _ et2
  have et3 := z_ _ _ et3
  have et4 := z_ _ _ et4
  have et5 := z_ _ _ et5
  have el2 := z_ _ _ el2
  have et6 : upd G8 t6 (HO.tup [V.str "size", .bl b6]) t6 = some (HO.tup [V.str "size", .bl b6]) := ak
  clear z_
  generalize upd G8 t6 (HO.tup [V.str "size", .bl b6]) = G9 at sm ex et1 et2 et3 et4 et5 el2 et6 h_ ⊢
  clear h_
  refine ⟨_, rfl, b7, ⟨_, .exc ex TW.kX, nNoColour⟩, sz2, fun t7 h_ => ?_⟩
  have z_ := az (o := HO.tup [V.str "none", .bl b7]) h_
  have ft7 : H t7 = none := sm.free h_
  have sm := sm.trans z_
  have ex := z_ _ _ ex
  have et1 := z_ _ _ et1
  have et2 := z_ _ _ et2
  have et3 := z_ _ _ et3
  have et4 := z_ _ _ et4
  have et5 := z_ _ _ et5
  have el2 := z_ _ _ el2
  have et6 := z_ _ _ et6
  have et7 : upd G9 t7 (HO.tup [V.str "none", .bl b7]) t7 = some (HO.tup [V.str "none", .bl b7]) := ak
  clear z_
  generalize upd G9 t7 (HO.tup [V.str "none", .bl b7]) = G10 at sm ex et1 et2 et3 et4 et5 el2 et6 et7 h_ ⊢
  clear h_
  refine ⟨sz2, fun m3 h_ => ?_⟩
  have z_ := az (o := HO.lst [V.ref t6, .ref t7]) h_
  have fm3 : H m3 = none := sm.free h_
  have sm := sm.trans z_
  have ex := z_ _ _ ex
  have et1 := z_ _ _ et1
  have et2 := z_ _ _ et2
  have et3 := z_ _ _ et3
  have et4 := z_ _ _ et4
  have et5 := z_ _ _ et5
  have el2 := z_ _ _ el2
  have et6 := z_ _ _ et6
  have et7 := z_ _ _ et7
  have em3 : upd G10 m3 (HO.lst [V.ref t6, .ref t7]) m3 = some (HO.lst [V.ref t6, .ref t7]) := ak
  clear z_
  generalize upd G10 m3 (HO.lst [V.ref t6, .ref t7]) = G11 at sm ex et1 et2 et3 et4 et5 el2 et6 et7 em3 h_ ⊢
  clear h_
  refine ⟨l2, m3, _, _, rfl, rfl, el2, em3, (by show 5 + 2 ≤ sizeLine; decide), fun l3 h_ => ?_⟩
  have z_ := az (o := HO.lst ([V.ref t1, .ref t2, .ref t3, .ref t4, .ref t5] ++ [V.ref t6, .ref t7])) h_
  have fl3 : H l3 = none := sm.free h_
  have sm := sm.trans z_
  have ex := z_ _ _ ex
  have et1 := z_ _ _ et1
  have et2 := z_ _ _ et2
  have et3 := z_ _ _ et3
  have et4 := z_ _ _ et4
  have et5 := z_ _ _ et5
  have el2 := z_ _ _ el2
  have et6 := z_ _ _ et6
  have et7 := z_ _ _ et7
  have em3 := z_ _ _ em3
  have el3 : upd G11 l3 (HO.lst ([V.ref t1, .ref t2, .ref t3, .ref t4, .ref t5] ++ [V.ref t6, .ref t7])) l3 = some (HO.lst ([V.ref t1, .ref t2, .ref t3, .ref t4, .ref t5] ++ [V.ref t6, .ref t7])) := ak
  clear z_
  generalize upd G11 l3 (HO.lst ([V.ref t1, .ref t2, .ref t3, .ref t4, .ref t5] ++ [V.ref t6, .ref t7])) = G12 at sm ex et1 et2 et3 et4 et5 el2 et6 et7 em3 el3 h_ ⊢
  clear h_
  have el3 : G12 l3 = some (.lst [V.ref t1, .ref t2, .ref t3, .ref t4, .ref t5, .ref t6, .ref t7]) := el3
  refine ⟨_, rfl, ?_⟩
  refine ⟨_, rfl, b8, ⟨_, .exc ex TW.kX, nTooMany⟩, sz2, fun t8 h_ => ?_⟩
  have z_ := az (o := HO.tup [V.str "many", .bl b8]) h_
  have ft8 : H t8 = none := sm.free h_
  have sm := sm.trans z_
  have ex := z_ _ _ ex
  have et1 := z_ _ _ et1
  have et2 := z_ _ _ et2
  have et3 := z_ _ _ et3
  have et4 := z_ _ _ et4
  have et5 := z_ _ _ et5
  have et6 := z_ _ _ et6
  have et7 := z_ _ _ et7
  have el3 := z_ _ _ el3
  have et8 : upd G12 t8 (HO.tup [V.str "many", .bl b8]) t8 = some (HO.tup [V.str "many", .bl b8]) := ak
  clear z_
  generalize upd G12 t8 (HO.tup [V.str "many", .bl b8]) = G13 at sm ex et1 et2 et3 et4 et5 et6 et7 el3 et8 h_ ⊢
  clear h_
  refine ⟨_, rfl, b9, ⟨_, .exc ex TW.kX, nBadRuns⟩, sz2, fun t9 h_ => ?_⟩
  have z_ := az (o := HO.tup [V.str "runs", .bl b9]) h_
  have ft9 : H t9 = none := sm.free h_
  have sm := sm.trans z_
  have ex := z_ _ _ ex
  have et1 := z_ _ _ et1
  have et2 := z_ _ _ et2
  have et3 := z_ _ _ et3
  have et4 := z_ _ _ et4
  have et5 := z_ _ _ et5
  have et6 := z_ _ _ et6
  have et7 := z_ _ _ et7
  have el3 := z_ _ _ el3
  have et8 := z_ _ _ et8
  have et9 : upd G13 t9 (HO.tup [V.str "runs", .bl b9]) t9 = some (HO.tup [V.str "runs", .bl b9]) := ak
  clear z_
  generalize upd G13 t9 (HO.tup [V.str "runs", .bl b9]) = G14 at sm ex et1 et2 et3 et4 et5 et6 et7 el3 et8 et9 h_ ⊢
  clear h_
  refine ⟨sz2, fun m4 h_ => ?_⟩
  have z_ := az (o := HO.lst [V.ref t8, .ref t9]) h_
  have fm4 : H m4 = none := sm.free h_
  have sm := sm.trans z_
  have ex := z_ _ _ ex
  have et1 := z_ _ _ et1
  have et2 := z_ _ _ et2
  have et3 := z_ _ _ et3
  have et4 := z_ _ _ et4
  have et5 := z_ _ _ et5
  have et6 := z_ _ _ et6
  have et7 := z_ _ _ et7
  have el3 := z_ _ _ el3
  have et8 := z_ _ _ et8
  have et9 := z_ _ _ et9
  have em4 : upd G14 m4 (HO.lst [V.ref t8, .ref t9]) m4 = some (HO.lst [V.ref t8, .ref t9]) := ak
  clear z_
  generalize upd G14 m4 (HO.lst [V.ref t8, .ref t9]) = G15 at sm ex et1 et2 et3 et4 et5 et6 et7 el3 et8 et9 em4 h_ ⊢
  clear h_
  refine ⟨l3, m4, _, _, rfl, rfl, el3, em4, (by show 7 + 2 ≤ sizeLine; decide), fun l4 h_ => ?_⟩
  have z_ := az (o := HO.lst ([V.ref t1, .ref t2, .ref t3, .ref t4, .ref t5, .ref t6, .ref t7] ++ [V.ref t8, .ref t9])) h_
  have fl4 : H l4 = none := sm.free h_
  have sm := sm.trans z_
  have ex := z_ _ _ ex
  have et1 := z_ _ _ et1
  have et2 := z_ _ _ et2
  have et3 := z_ _ _ et3
  have et4 := z_ _ _ et4
  have et5 := z_ _ _ et5
  have et6 := z_ _ _ et6
  have et7 := z_ _ _ et7
  have el3 := z_ _ _ el3
  have et8 := z_ _ _ et8
  have et9 := z_ _ _ et9
  have em4 := z_ _ _ em4
  have el4 : upd G15 l4 (HO.lst ([V.ref t1, .ref t2, .ref t3, .ref t4, .ref t5, .ref t6, .ref t7] ++ [V.ref t8, .ref t9])) l4 = some (HO.lst ([V.ref t1, .ref t2, .ref t3, .ref t4, .ref t5, .ref t6, .ref t7] ++ [V.ref t8, .ref t9])) := ak
  clear z_
  generalize upd G15 l4 (HO.lst ([V.ref t1, .ref t2, .ref t3, .ref t4, .ref t5, .ref t6, .ref t7] ++ [V.ref t8, .ref t9])) = G16 at sm ex et1 et2 et3 et4 et5 et6 et7 el3 et8 et9 em4 el4 h_ ⊢
  clear h_
  have el4 : G16 l4 = some (.lst [V.ref t1, .ref t2, .ref t3, .ref t4, .ref t5, .ref t6, .ref t7, .ref t8, .ref t9]) := el4
  refine ⟨_, rfl, l4, rfl, ⟨_, aU.of el4⟩, fun D h_ => ?_⟩
  have hT : ∀ t ∈ ([(t1, ("cell" : Str), b1), (t2, ("colour" : Str), b2), (t3, ("pack" : Str), b3), (t4, ("palette" : Str), b4), (t5, ("picture" : Str), b5), (t6, ("size" : Str), b6), (t7, ("none" : Str), b7), (t8, ("many" : Str), b8), (t9, ("runs" : Str), b9)] : List (Addr × Str × Bool)), dC K G16 t.1 [.str t.2.1, .bl t.2.2] := fun t ht => by
   simp only [List.mem_cons, List.not_mem_nil, or_false] at ht
   rcases ht with rfl | rfl | rfl | rfl | rfl | rfl | rfl | rfl | rfl
   ·exact dC.of et1
   ·exact dC.of et2
   ·exact dC.of et3
   ·exact dC.of et4
   ·exact dC.of et5
   ·exact dC.of et6
   ·exact dC.of et7
   ·exact dC.of et8
   ·exact dC.of et9
  refine comp_word (L := [(t1, ("cell" : Str), b1), (t2, ("colour" : Str), b2), (t3, ("pack" : Str), b3), (t4, ("palette" : Str), b4), (t5, ("picture" : Str), b5), (t6, ("size" : Str), b6), (t7, ("none" : Str), b7), (t8, ("many" : Str), b8), (t9, ("runs" : Str), b9)]) (aU.of el4) hT ⟨c, ex⟩ sz9 rfl h_ fun H5 s5 eD => ?_
  have fD : H D = none := sm.free h_
  have eD : H5 D = some (.lst [.str word]) := by rw [eD, TW.hw]
  have ex := s5 _ _ ex
  have sm := sm.trans s5
  refine ⟨_, rfl, sz9, fun p1 hp1 => ?_⟩
  have y1 := az (o := HO.tup [V.ref cBadCheck, V.ref cBadDeed, V.ref cBadEdge, V.ref cBadHead, V.ref cBadMask, V.ref cBadName, V.ref cBadPart, V.ref cBadRule, V.ref cBadText]) hp1
  refine ⟨ea, c, p1, [cBadCheck, cBadDeed, cBadEdge, cBadHead, cBadMask, cBadName, cBadPart, cBadRule, cBadText], false, rfl, y1 _ _ ex, TW.kX, dC.of ak, kitAny_none (fun c hc => ?_), ?_⟩
  ·simp only [List.mem_cons, List.not_mem_nil, or_false] at hc
   rcases hc with rfl | rfl | rfl | rfl | rfl | rfl | rfl | rfl | rfl <;> assumption
  have ex := y1 _ _ ex
  have eD := y1 _ _ eD
  have sm := sm.trans y1
  generalize upd H5 p1 (HO.tup [V.ref cBadCheck, V.ref cBadDeed, V.ref cBadEdge, V.ref cBadHead, V.ref cBadMask, V.ref cBadName, V.ref cBadPart, V.ref cBadRule, V.ref cBadText]) = Y1 at ex eD sm y1 ⊢
  refine ⟨_, rfl, ?_⟩
  refine ⟨_, rfl, sz5, fun p2 hp2 => ?_⟩
  have y2 := az (o := HO.tup [V.ref cNoPart, V.ref cNoPicture, V.ref cNothingDone, V.ref cOutOfPlace, V.ref cTwice]) hp2
  refine ⟨ea, c, p2, [cNoPart, cNoPicture, cNothingDone, cOutOfPlace, cTwice], false, rfl, y2 _ _ ex, TW.kX, dC.of ak, kitAny_none (fun c hc => ?_), ?_⟩
  ·simp only [List.mem_cons, List.not_mem_nil, or_false] at hc
   rcases hc with rfl | rfl | rfl | rfl | rfl <;> assumption
  have ex := y2 _ _ ex
  have eD := y2 _ _ eD
  have sm := sm.trans y2
  generalize upd Y1 p2 (HO.tup [V.ref cNoPart, V.ref cNoPicture, V.ref cNothingDone, V.ref cOutOfPlace, V.ref cTwice]) = Y2 at ex eD sm y2 ⊢
  refine ⟨_, rfl, _, rfl, true, ⟨_, .exc ex TW.kX, TW.iV⟩, _, rfl, ?_⟩
  exact ⟨_, rfl, D, _, rfl, .inl ⟨aU.of eD, fun t ht => k t _ (sm.trans (az ht)) (sm.free ht) ak⟩⟩
end
noncomputable def spColour : Sp := fun vs H Q _ => ∃ n : Nat, vs = [.int (n : Int)] ∧ ∀ t H' r g b, aB H H' → H t = none → iM H' t r g b → Q (.ref t) H'
theorem slTK {X : Cx} (K : W.Frag) (h : X.K = K) : SlR X (rSlT K) := by subst h; exact sl_tup
theorem catAK {X : Cx} (K : W.Frag) (h : X.K = K) : OpR X (binaryOp .Add) (rCatA K) := by subst h; exact op_catA
theorem at_mod {xs : List V} {m : Int} (n : Nat) (h : xs.length = n) (hn : 0 < n) : ∃ x ∈ xs, atI xs (m % (n : Int)) = some x := by
 have f0 := Int.emod_nonneg m (show (n : Int) ≠ 0 by omega)
 have f1 := Int.emod_lt_of_pos m (show (0 : Int) < (n : Int) by omega)
 obtain ⟨j, ej⟩ : ∃ j : Nat, m % (n : Int) = (j : Int) := ⟨(m % (n : Int)).toNat, by omega⟩
 rw [ej] at f1 ⊢
 have hj : j < xs.length := by omega
 exact ⟨_, List.getElem_mem hj, aW (List.getElem?_eq_getElem hj)⟩
theorem bad3 {K : W.Frag} {H : Hp} {a : Addr} {x y z : V} (e : H a = some (.tup [x, y, z])) (hx : Kd K H x) (hy : Kd K H y) (hz : Kd K H z) (h : (bU 0 255 x && (bU 0 255 y && bU 0 255 z)) = false) : TC K H (.ref a) ∧ dX H (.ref a) = false := by
 refine ⟨TC.tup e (by show 3 ≤ 1000; decide) fun v hv => ?_, ?_⟩
 ·simp only [List.mem_cons, List.not_mem_nil, or_false] at hv
  rcases hv with rfl | rfl | rfl <;> assumption
 ·unfold dX
  rw [fW e]
  simp only [List.all_cons, List.all_nil, Bool.and_true, h, Bool.and_false]
theorem badT {K : W.Frag} {H : Hp} {a : Addr} {xs : List V} (e : H a = some (.tup xs)) (hl : xs.length ≤ 1000) (hk : ∀ x ∈ xs, Kd K H x) (h3 : xs.length ≠ 3) : TC K H (.ref a) ∧ dX H (.ref a) = false := by
 refine ⟨TC.tup e hl hk, ?_⟩
 unfold dX
 rw [fW e]
 simp only [decide_eq_false h3, Bool.false_and]
theorem badO {K : W.Frag} {H : Hp} {v : V} (k : Kd K H v) (h : dB H v = none) : TC K H v ∧ dX H v = false := ⟨TC.other k h, by unfold dX; rw [h]⟩
theorem odd_all {K : W.Frag} {H : Hp} {sp l p2 p4 p5 d : Addr} {r g b : Nat} {v : V} (tc : TC K H (.ref sp)) (cb : dX H (.ref sp) = false) (el : H l = some (.lst [.int (r : Int), .int (g : Int), .int (b : Int)])) (e2 : H p2 = some (.tup [.int (r : Int), .int (g : Int)]))
  (e4 : H p4 = some (.tup ([.int (r : Int), .int (g : Int), .int (b : Int)] ++ [.int 0]))) (e5 : H p5 = some (.tup [])) (ed : H d = some (gH d))
  (hm : v ∈ [V.ref sp, .ref sp, .non, .int 5, .str "abc", .ref l, .ref p2, .ref p4, .ref p5, .ref d, .str "#000000"]) : TC K H v ∧ dX H v = false := by
 simp only [List.mem_cons, List.not_mem_nil, or_false] at hm
 rcases hm with rfl | rfl | rfl | rfl | rfl | rfl | rfl | rfl | rfl | rfl | rfl
 ·exact ⟨tc, cb⟩
 ·exact ⟨tc, cb⟩
 ·exact badO .non rfl
 ·exact badO (.int _) rfl
 ·exact badO (.str _) rfl
 ·exact badO (.lst el) (by simp only [dB, el])
 ·refine badT e2 (by show 2 ≤ 1000; decide) (fun x hx => ?_) (by show 2 ≠ 3; decide)
  simp only [List.mem_cons, List.not_mem_nil, or_false] at hx
  rcases hx with rfl | rfl <;> exact .int _
 ·refine badT e4 (by show 4 ≤ 1000; decide) (fun x hx => ?_) (by show 4 ≠ 3; decide)
  simp only [List.cons_append, List.nil_append, List.mem_cons, List.not_mem_nil, or_false] at hx
  rcases hx with rfl | rfl | rfl | rfl <;> exact .int _
 ·exact badT e5 (by show 0 ≤ 1000; decide) (fun x hx => nomatch hx) (by show 0 ≠ 3; decide)
 ·exact badO (.dict ed) (by simp only [dB, ed, gH])
 ·exact badO (.str _) rfl
theorem sh_all {K : W.Frag} {H : Hp} {p : Addr} {v : V} (ep : H p = some (.lst [.int 0])) (hm : v ∈ [V.int (-1), .int 256, .bl true, .non, .str "0", .ref p, .int (10 ^ 20), .bl false]) : Kd K H v ∧ bU 0 255 v = false := by
 simp only [List.mem_cons, List.not_mem_nil, or_false] at hm
 rcases hm with rfl | rfl | rfl | rfl | rfl | rfl | rfl | rfl
 ·exact ⟨.int _, by decide⟩
 ·exact ⟨.int _, by decide⟩
 ·exact ⟨.bl _, rfl⟩
 ·exact ⟨.non, rfl⟩
 ·exact ⟨.str _, rfl⟩
 ·exact ⟨.lst ep, rfl⟩
 ·exact ⟨.int _, by decide⟩
 ·exact ⟨.bl _, rfl⟩
noncomputable def spOdd (K : W.Frag) : Sp := fun vs H Q _ => ∃ (n : Nat) (a : Addr) (r g b : Nat), vs = [.int (n : Int), .ref a] ∧ iM H a r g b ∧ ∀ v H', aB H H' → TC K H' v → dX H' v = false → Q v H'
theorem bF.snoc {H : Hp} {a p : Addr} {cs : List (C4)} {r g b : Nat} (e : H a = some (.lst (cs.map (fun c => V.ref c.1) ++ [V.ref p]))) (h : ∀ c ∈ cs, iM H c.1 c.2.1 c.2.2.1 c.2.2.2) (c : iM H p r g b) : bF H a (cs ++ [(p, r, g, b)]) := by
 refine ⟨by rw [e, List.map_append]; rfl, fun d hd => ?_⟩
 rcases List.mem_append.mp hd with hd | hd
 ·exact h d hd
 ·rw [List.mem_singleton.mp hd]; exact c
noncomputable def spPool (K : W.Frag) : Sp := fun vs H Q _ => ∃ (a : Addr) (ns : List Int) (k : Nat) (nr : Bool), vs = [.ref a, .int (k : Int), .bl nr] ∧ aU K H a (ns.map V.int) ∧ k ≤ 100 ∧ ∀ p cs H', aB H H' → H p = none → bF H' p cs → 1 ≤ cs.length → cs.length ≤ 24 → (cs.map kc).Nodup → Q (.ref p) H'
theorem findIdx_none {cs : List (C4)} {r g b : Nat} (h : cs.findIdx? (isC r g b) = none) : ([(r : Int), (g : Int), (b : Int)] : List Int) ∉ cs.map kc := by
 intro hm
 obtain ⟨c, hc, e⟩ := List.mem_map.mp hm
 have := List.findIdx?_eq_none_iff.mp h c hc
 obtain ⟨a, r', g', b'⟩ := c
 unfold kc at e
 simp at e
 unfold isC at this
 have := of_decide_eq_false this
 exact this (by simp; omega)
section
variable {P : Program} {w : World} {K : W.Frag} {mg : Str → Option Value} {base : Heap} {cFE cC cN cM cP cL cB cD cZ : Addr} {tP tS tC tI : Tok}
theorem fJ : aO ["_law_number", "_law_shares", "_law_way"] ["_law_number"] (ao dj) := ⟨rfl, rfl, rfl, by decide +kernel, rfl, by decide +kernel, by decide +kernel⟩
theorem ok_law_colour {f : Addr} {fd : FuncData} (F : bI K "_law_colour" "_law_colour" dj .none f fd) (T : Txt K mg cFE cC cN cM cP cL cB cD cZ tP tS tC tI) : bB P w K mg base gh 1 f fd ["_law_number"] (spColour) := by
 refine F.ok fJ (fun vs H Q E h => ?_) (fun cdv A outer s H vs Q E hr h => ?_)
 ·obtain ⟨n, rfl, _⟩ := h; rfl
 ·obtain ⟨n, rfl, k⟩ := h
  obtain ⟨t3, r3, k3⟩ : ∃ tr, PSs ((gY gh P w K mg base ["_law_number", "_law_shares", "_law_way"] "_law_colour" (ao dj) f cdv A outer s H E).nox) ((aF dj).drop 3) tr ∧
    ∀ (m : Nat) (L : Addr) (x y z : Nat) (H1 : Hp), aB H H1 → H1 L = some (.lst [.int (x : Int), .int (y : Int), .int (z : Int)]) → x ≤ 255 → y ≤ 255 → z ≤ 255 → tr { nx := fun _ H' => Q .non H', rt := Q } [some (.int (n : Int)), some (.ref L), some (.int (m : Int))] H1 := by
   refine ⟨_, (au (bK (bj op_eq (pv 2) aq (bA _)) (aA (aQ (i := 1) fJ.nd rfl (.inl rfl) (aZ (aa (bM (ixK K rfl) (pv 1) aq (fun _ _ => rfl)) (aa (bM (ixK K rfl) (pv 1) aq (fun _ _ => rfl)) (aa (bM (ixK K rfl) (pv 1) aq (fun _ _ => rfl)) aj)))))) aV)
    (aA (aM (cQ fH rfl T.tuple PyProof.Rows.boot_tuple (aa (pv 1) aj))))), ?_⟩
   intro m L x y z H1 s1 eL hx hy hz
   refine ⟨_, rfl, rfl, _, rfl, iteB (fun h => ?_) (fun h => ?_)⟩
   rotate_left
   ·exact ⟨_, rfl, L, _, rfl, .inl ⟨aU.of eL, fun tp htp => k tp _ x y z (s1.trans (az htp)) (s1.free htp) ⟨ak, hx, hy, hz⟩⟩⟩
   ·refine ⟨_, rfl, L, _, _, _, rfl, rfl, aU.of eL, aW (j := 0) rfl, _, rfl, L, _, _, _, rfl, rfl, aU.of eL, aW (j := 0) rfl, _, rfl, L, _, _, _, rfl, rfl, aU.of eL, aW (j := 0) rfl, sz3, fun M hM => ?_⟩
    have s2 := s1.trans (az (o := HO.lst [V.int (x : Int), .int (x : Int), .int (x : Int)]) hM)
    exact ⟨_, rfl, M, _, rfl, .inl ⟨aU.of ak, fun tp htp => k tp _ x x x (s2.trans (az htp)) (s2.free htp) ⟨ak, hx, hx, hx⟩⟩⟩
  refine ⟨_, (au (aQ (i := 1) fJ.nd rfl (.inl rfl) (aZ (aa (aC bf (pv 0) aq) (aa (aC bf (aC bz (pv 0) aq) aq) (aa (aC bf (aC bz (pv 0) aq) aq) aj)))))
    (au (aQ (i := 2) fJ.nd rfl (.inl rfl) (aC bf (aC bz (pv 0) aq) aq))
    (au (bK (bj op_lt (pv 2) aq (bA _)) (aA (ps_setC (ix := 1) (N := ["_law_share"]) (src := [none]) fJ.nd rfl rfl rfl ⟨rfl, rfl, rfl, rfl, rfl, by decide +kernel⟩ (piK K rfl (pv 1)) (fun s H C fp => aP (i := 0) (show (["_law_share"] : List Str).Nodup by decide +kernel) rfl (.inl rfl)) (fun s H C fp => bh) (fun s H C fp => (bM (ixK K rfl) (aZ (aa aq (aa aq (aa aq (aa aq aj))))) (aC bf (pv 0) aq) (fun _ _ => rfl))))) aV)
    (@r3)))), ?_⟩
  refine ⟨_, rfl, _, _, rfl, rfl, (by show (0 : Int) < 256; decide), _, rfl, _, _, rfl, rfl, ⟨by decide, by decide⟩, _, _, rfl, rfl, (by show (0 : Int) < 256; decide), _, rfl, _, _, rfl, rfl, ⟨by decide, by decide⟩, _, _, rfl, rfl, (by show (0 : Int) < 256; decide), sz3, fun L hL => ?_⟩
  have sL := az (o := HO.lst [V.int ((n : Int) % 256), .int ((n : Int) / 256 % 256), .int ((n : Int) / 65536 % 256)]) hL
  have eL : upd H L (.lst [.int ((n : Int) % 256), .int ((n : Int) / 256 % 256), .int ((n : Int) / 65536 % 256)]) L = some (.lst ([n % 256, n / 256 % 256, n / 65536 % 256].map fun i : Nat => V.int (i : Int))) := ak
  refine ⟨_, rfl, _, _, rfl, rfl, ⟨by decide, by decide⟩, _, _, rfl, rfl, (by show (0 : Int) < 9; decide), ?_⟩
  obtain ⟨m, em⟩ : ∃ m : Nat, (n : Int) / 16777216 % 9 = (m : Int) := ⟨n / 16777216 % 9, by omega⟩
  show dG 2 (.int ((n : Int) / 16777216 % 9)) _ _ _
  rw [em]
  generalize upd H L (HO.lst [.int ((n : Int) % 256), .int ((n : Int) / 256 % 256), .int ((n : Int) / 65536 % 256)]) = H1 at sL eL ⊢
  have l0 : n % 256 ≤ 255 := by omega
  have l1 : n / 256 % 256 ≤ 255 := by omega
  have l2 : n / 65536 % 256 ≤ 255 := by omega
  generalize n % 256 = x at eL l0 ⊢
  generalize n / 256 % 256 = y at eL l1 ⊢
  generalize n / 65536 % 256 = z at eL l2 ⊢
  refine ⟨_, rfl, _, _, rfl, rfl, _, rfl, iteB (fun h => ?_) (fun h => ?_)⟩
  rotate_left
  ·exact k3 m L x y z H1 sL eL l0 l1 l2
  ·refine ⟨_, rfl, L, rfl, ⟨_, aU.of eL⟩, fun D hD => ?_⟩
   refine cU (k := 0) (fun v => match v with | .int i => .int (([0, 255, 1, 254].getD (i.toNat % 4) 0 : Nat) : Int) | _ => .non) (fun _ => true) (src_list (aU.of eL)) sz3 hD (fun x _ H' Qb _ kk => kk H' (aB.refl _)) (fun v hv _ H' Q' sm kk => ?_) fun H3 s3 hD3 => ?_
   ·obtain ⟨i, hi, rfl⟩ := List.mem_map.mp hv
    refine ⟨sz4, fun p hp => ?_⟩
    have tt : Q' (.int (([0, 255, 1, 254].getD (i % 4) 0 : Nat) : Int)) (upd H' p (.lst [.int 0, .int 255, .int 1, .int 254])) := kk _ (az hp)
    refine ⟨_, rfl, _, _, rfl, rfl, (by show (0 : Int) < 4; decide), p, _, _, _, rfl, rfl, aU.of ak, aW (j := i % 4) ?_, tt⟩
    have : i % 4 < 4 := Nat.mod_lt _ (by decide)
    generalize i % 4 = q at this ⊢
    match q, this with
    | 0, _ => rfl
    | 1, _ => rfl
    | 2, _ => rfl
    | 3, _ => rfl
   ·have le : ∀ i : Nat, [0, 255, 1, 254].getD (i % 4) 0 ≤ 255 := fun i => by
     have : i % 4 < 4 := Nat.mod_lt _ (by decide)
     generalize i % 4 = q at this ⊢
     match q, this with
     | 0, _ => decide
     | 1, _ => decide
     | 2, _ => decide
     | 3, _ => decide
    exact k3 m D _ _ _ H3 (sL.trans s3) hD3 (le x) (le y) (le z)
theorem iB : aO ["_law_number", "_law_colour_here", "_law_at", "_law_share", "_law_spoilt", "_law_some"] ["_law_number", "_law_colour_here"] (ao dI) := ⟨rfl, rfl, rfl, by decide +kernel, rfl, by decide +kernel, by decide +kernel⟩
theorem ok_law_odd {f : Addr} {fd : FuncData} (F : bI K "_law_odd" "_law_odd" dI .none f fd) (T : Txt K mg cFE cC cN cM cP cL cB cD cZ tP tS tC tI) : bB P w K mg base gh 1 f fd ["_law_number", "_law_colour_here"] (spOdd K) := by
 refine F.ok iB (fun vs H Q E h => ?_) (fun cdv A outer s H vs Q E hr h => ?_)
 ·obtain ⟨n, a, r, g, b, rfl, _⟩ := h; rfl
 ·obtain ⟨n, a, r, g, b, rfl, c, k⟩ := h
  obtain ⟨t3, r3, k3⟩ : ∃ tr, PSs ((gY gh P w K mg base ["_law_number", "_law_colour_here", "_law_at", "_law_share", "_law_spoilt", "_law_some"] "_law_odd" (ao dI) f cdv A outer s H E).nox) ((aF dI).drop 3) tr ∧
    ∀ (m : Int) (x : V) (sp : Addr) (H1 : Hp), aB H H1 → TC K H1 (.ref sp) → dX H1 (.ref sp) = false → tr { nx := fun _ H' => Q .non H', rt := Q } [some (.int (n : Int)), some (.ref a), some (.int m), some x, some (.ref sp), none] H1 := by
   refine ⟨_, (au (aQ (i := 5) iB.nd rfl (.inl rfl) (aZ (aa (pv 4) (aa (pv 4) (aa iT (aa aq (aa bJ (aa (cQ (listK K rfl) rfl T.list PyProof.Rows.boot_list (aa (pv 1) aj)) (aa (dq (slTK K rfl) (pv 1) dW (dR aq)) (aa (aC (catAK K rfl) (pv 1) (bD (aa aq aj))) (aa (bD aj) (aa pe_dict0 (aa bJ aj)))))))))))))
    (aA (aM (bM (ixK K rfl) (pv 5) (aC bf (aC bz (pv 0) aq) aq) (fun _ _ => rfl))))), ?_⟩
   intro m x sp H1 s1 tc cb
   have c1 := c.mono s1
   refine ⟨_, rfl, _, rfl, _, rfl, a, _, rfl, .inr (dC.of c1.top), fun l hl => ?_⟩
   have z1 := az (o := HO.lst [V.int (r : Int), .int (g : Int), .int (b : Int)]) hl
   refine ⟨_, rfl, _, rfl, a, _, rfl, dC.of (z1 _ _ c1.top), (by show ¬ ((0 : Nat) = 0 ∧ HT.sIx 3 3 (some 2) = 3); decide), fun p2 h2 => ?_⟩
   have z2 := az (o := HO.tup (aX [V.int (r : Int), .int (g : Int), .int (b : Int)] none (some 2))) h2
   have z12 := z1.trans z2
   refine ⟨_, rfl, sz1, fun p3 h3 => ?_⟩
   have z3 := az (o := HO.tup [V.int 0]) h3
   refine ⟨a, p3, _, [V.int 0], rfl, rfl, dC.of (z3 _ _ (z12 _ _ c1.top)), dC.of ak, sz4, fun h => (by cases h), fun _ h => (by cases h), fun _ _ p4 h4 => ?_⟩
   have z4 := az (o := HO.tup ([V.int (r : Int), .int (g : Int), .int (b : Int)] ++ [V.int 0])) h4
   refine ⟨sz0, fun p5 h5 => ?_⟩
   have z5 := az (o := HO.tup []) h5
   refine fun d hd => ?_
   have z6 := az (o := gH d) hd
   refine ⟨sz11, fun L hL => ?_⟩
   have z7 := az (o := HO.lst [V.ref sp, .ref sp, .non, .int 5, .str "abc", .ref l, .ref p2, .ref p4, .ref p5, .ref d, .str "#000000"]) hL
   have z57 := z5.trans (z6.trans z7)
   have z47 := z4.trans z57
   have zz := z12.trans (z3.trans z47)
   obtain ⟨v, hm, hv⟩ := at_mod (xs := [V.ref sp, .ref sp, .non, .int 5, .str "abc", .ref l, .ref p2, .ref p4, .ref p5, .ref d, .str "#000000"]) (m := (n : Int) / 24) 11 rfl (by decide)
   refine ⟨_, rfl, _, rfl, _, _, rfl, rfl, ⟨by decide, by decide⟩, _, _, rfl, rfl, (by show (0 : Int) < 11; decide), L, _, _, v, rfl, rfl, aU.of ak, hv, ?_⟩
   have el := (z2.trans (z3.trans z47)) _ _ (ak (H := H1) (a := l) (o := HO.lst [V.int (r : Int), .int (g : Int), .int (b : Int)]))
   have e2 := (z3.trans z47) p2 (.tup [.int (r : Int), .int (g : Int)]) ak
   have e4 := z57 p4 (.tup ([.int (r : Int), .int (g : Int), .int (b : Int)] ++ [.int 0])) ak
   have e5 := (z6.trans z7) p5 (.tup []) ak
   have ed := z7 d (gH d) ak
   have hb := odd_all (tc.mono zz) ((cF tc zz).trans cb) el e2 e4 e5 ed hm
   exact k v _ (s1.trans zz) hb.1 hb.2
  obtain ⟨t2, r2, k2⟩ : ∃ tr, PSs ((gY gh P w K mg base ["_law_number", "_law_colour_here", "_law_at", "_law_share", "_law_spoilt", "_law_some"] "_law_odd" (ao dI) f cdv A outer s H E).nox) ((aF dI).drop 2) tr ∧
    ∀ (x : V) (H1 : Hp), aB H H1 → Kd K H1 x → bU 0 255 x = false → tr { nx := fun _ H' => Q .non H', rt := Q } [some (.int (n : Int)), some (.ref a), some (.int ((n : Int) % 3)), some x, none, none] H1 := by
   refine ⟨_, (au (aQ (i := 4) iB.nd rfl (.inl rfl) (aC (catAK K rfl) (aC (catAK K rfl) (dq (slTK K rfl) (pv 1) dW (dR (pv 2))) (bD (aa (pv 3) aj))) (dq (slTK K rfl) (pv 1) (dR (aC cj (pv 2) aq)) dW)))
    (@r3)), ?_⟩
   intro x H1 s1 kx wx
   have c1 := c.mono s1
   have e : (n : Int) % 3 = 0 ∨ (n : Int) % 3 = 1 ∨ (n : Int) % 3 = 2 := by omega
   rcases e with e | e | e <;> rw [e]
   ·-- at 0
    refine ⟨_, rfl, _, rfl, _, rfl, a, _, rfl, dC.of c1.top, (by show ¬ ((0 : Nat) = 0 ∧ HT.sIx 3 3 (some 0) = 3); decide), fun p1 h1 => ?_⟩
    have z1 := az (o := HO.tup (aX [V.int (r : Int), .int (g : Int), .int (b : Int)] none (some 0))) h1
    have e1 : upd H1 p1 (.tup (aX [V.int (r : Int), .int (g : Int), .int (b : Int)] none (some 0))) p1 = some (.tup ([] : List V)) := ak
    refine ⟨_, rfl, sz1, fun p3 h2 => ?_⟩
    have z2 := az (o := HO.tup [x]) h2
    refine ⟨p1, p3, [], [x], rfl, rfl, dC.of (z2 _ _ e1), dC.of ak, sz1, fun _ => ?_, fun h => absurd rfl h, fun h => absurd rfl h⟩
    have e3 : upd (upd H1 p1 (.tup (aX [V.int (r : Int), .int (g : Int), .int (b : Int)] none (some 0)))) p3 (.tup [x]) p3 = some (.tup [x]) := ak
    have z3 := z1.trans z2
    generalize upd (upd H1 p1 (.tup (aX [V.int (r : Int), .int (g : Int), .int (b : Int)] none (some 0)))) p3 (.tup [x]) = H3 at z3 e3 ⊢
    have e3 : H3 p3 = some (.tup ([x] : List V)) := e3
    refine ⟨_, rfl, _, rfl, _, _, rfl, rfl, _, rfl, a, _, rfl, dC.of (z3 _ _ c1.top), (by show ¬ (HT.sIx 3 0 (some (0 + 1)) = 0 ∧ (3 : Nat) = 3); decide), fun p4 h4 => ?_⟩
    have z4 := az (o := HO.tup (aX [V.int (r : Int), .int (g : Int), .int (b : Int)] (some (0 + 1)) none)) h4
    have e4 : upd H3 p4 (.tup (aX [V.int (r : Int), .int (g : Int), .int (b : Int)] (some (0 + 1)) none)) p4 = some (.tup ([.int (g : Int), .int (b : Int)] : List V)) := ak
    have s4 := (s1.trans z3).trans z4
    have k4 := kx.mono (z3.trans z4)
    refine ⟨p3, p4, [x], [.int (g : Int), .int (b : Int)], rfl, rfl, dC.of (z4 _ _ e3), dC.of e4, sz3, fun h => (by cases h), fun _ h => (by cases h), fun _ _ p5 h5 => ?_⟩
    have z5 := az (o := HO.tup ([x] ++ [.int (g : Int), .int (b : Int)])) h5
    have hb := bad3 (K := K) (H := upd (upd H3 p4 (.tup (aX [V.int (r : Int), .int (g : Int), .int (b : Int)] (some (0 + 1)) none))) p5 (.tup ([x] ++ [.int (g : Int), .int (b : Int)]))) (a := p5) ak (k4.mono z5) (.int _) (.int _) (by simp [wx])
    exact k3 _ x p5 _ (s4.trans z5) hb.1 hb.2
   ·-- at 1
    refine ⟨_, rfl, _, rfl, _, rfl, a, _, rfl, dC.of c1.top, (by show ¬ ((0 : Nat) = 0 ∧ HT.sIx 3 3 (some 1) = 3); decide), fun p1 h1 => ?_⟩
    have z1 := az (o := HO.tup (aX [V.int (r : Int), .int (g : Int), .int (b : Int)] none (some 1))) h1
    have e1 : upd H1 p1 (.tup (aX [V.int (r : Int), .int (g : Int), .int (b : Int)] none (some 1))) p1 = some (.tup ([.int (r : Int)] : List V)) := ak
    refine ⟨_, rfl, sz1, fun p2 h2 => ?_⟩
    have z2 := az (o := HO.tup [x]) h2
    refine ⟨p1, p2, [.int (r : Int)], [x], rfl, rfl, dC.of (z2 _ _ e1), dC.of ak, sz2, fun h => (by cases h), fun _ h => (by cases h), fun _ _ p3 h3 => ?_⟩
    have z3 := (z1.trans z2).trans (az (o := HO.tup ([.int (r : Int)] ++ [x])) h3)
    have e3 : upd (upd (upd H1 p1 (.tup (aX [V.int (r : Int), .int (g : Int), .int (b : Int)] none (some 1)))) p2 (.tup [x])) p3 (.tup ([.int (r : Int)] ++ [x])) p3 = some (.tup ([.int (r : Int)] ++ [x])) := ak
    generalize upd (upd (upd H1 p1 (.tup (aX [V.int (r : Int), .int (g : Int), .int (b : Int)] none (some 1)))) p2 (.tup [x])) p3 (.tup ([.int (r : Int)] ++ [x])) = H3 at z3 e3 ⊢
    have e3 : H3 p3 = some (.tup ([.int (r : Int), x] : List V)) := e3
    refine ⟨_, rfl, _, rfl, _, _, rfl, rfl, _, rfl, a, _, rfl, dC.of (z3 _ _ c1.top), (by show ¬ (HT.sIx 3 0 (some (1 + 1)) = 0 ∧ (3 : Nat) = 3); decide), fun p4 h4 => ?_⟩
    have z4 := az (o := HO.tup (aX [V.int (r : Int), .int (g : Int), .int (b : Int)] (some (1 + 1)) none)) h4
    have e4 : upd H3 p4 (.tup (aX [V.int (r : Int), .int (g : Int), .int (b : Int)] (some (1 + 1)) none)) p4 = some (.tup ([.int (b : Int)] : List V)) := ak
    have s4 := (s1.trans z3).trans z4
    have k4 := kx.mono (z3.trans z4)
    refine ⟨p3, p4, [.int (r : Int), x], [.int (b : Int)], rfl, rfl, dC.of (z4 _ _ e3), dC.of e4, sz3, fun h => (by cases h), fun _ h => (by cases h), fun _ _ p5 h5 => ?_⟩
    have z5 := az (o := HO.tup ([.int (r : Int), x] ++ [.int (b : Int)])) h5
    have hb := bad3 (K := K) (H := upd (upd H3 p4 (.tup (aX [V.int (r : Int), .int (g : Int), .int (b : Int)] (some (1 + 1)) none))) p5 (.tup ([.int (r : Int), x] ++ [.int (b : Int)]))) (a := p5) ak (.int _) (k4.mono z5) (.int _) (by simp [wx])
    exact k3 _ x p5 _ (s4.trans z5) hb.1 hb.2
   ·-- at 2
    refine ⟨_, rfl, _, rfl, _, rfl, a, _, rfl, dC.of c1.top, (by show ¬ ((0 : Nat) = 0 ∧ HT.sIx 3 3 (some 2) = 3); decide), fun p1 h1 => ?_⟩
    have z1 := az (o := HO.tup (aX [V.int (r : Int), .int (g : Int), .int (b : Int)] none (some 2))) h1
    have e1 : upd H1 p1 (.tup (aX [V.int (r : Int), .int (g : Int), .int (b : Int)] none (some 2))) p1 = some (.tup ([.int (r : Int), .int (g : Int)] : List V)) := ak
    refine ⟨_, rfl, sz1, fun p2 h2 => ?_⟩
    have z2 := az (o := HO.tup [x]) h2
    refine ⟨p1, p2, [.int (r : Int), .int (g : Int)], [x], rfl, rfl, dC.of (z2 _ _ e1), dC.of ak, sz3, fun h => (by cases h), fun _ h => (by cases h), fun _ _ p3 h3 => ?_⟩
    have z3 := (z1.trans z2).trans (az (o := HO.tup ([.int (r : Int), .int (g : Int)] ++ [x])) h3)
    have e3 : upd (upd (upd H1 p1 (.tup (aX [V.int (r : Int), .int (g : Int), .int (b : Int)] none (some 2)))) p2 (.tup [x])) p3 (.tup ([.int (r : Int), .int (g : Int)] ++ [x])) p3 = some (.tup ([.int (r : Int), .int (g : Int)] ++ [x])) := ak
    generalize upd (upd (upd H1 p1 (.tup (aX [V.int (r : Int), .int (g : Int), .int (b : Int)] none (some 2)))) p2 (.tup [x])) p3 (.tup ([.int (r : Int), .int (g : Int)] ++ [x])) = H3 at z3 e3 ⊢
    have e3 : H3 p3 = some (.tup ([.int (r : Int), .int (g : Int), x] : List V)) := e3
    refine ⟨_, rfl, _, rfl, _, _, rfl, rfl, _, rfl, a, _, rfl, dC.of (z3 _ _ c1.top), (by show ¬ (HT.sIx 3 0 (some (2 + 1)) = 0 ∧ (3 : Nat) = 3); decide), fun p4 h4 => ?_⟩
    have z4 := az (o := HO.tup (aX [V.int (r : Int), .int (g : Int), .int (b : Int)] (some (2 + 1)) none)) h4
    have e4 : upd H3 p4 (.tup (aX [V.int (r : Int), .int (g : Int), .int (b : Int)] (some (2 + 1)) none)) p4 = some (.tup ([] : List V)) := ak
    have s4 := (s1.trans z3).trans z4
    have k4 := kx.mono (z3.trans z4)
    refine ⟨p3, p4, [.int (r : Int), .int (g : Int), x], [], rfl, rfl, dC.of (z4 _ _ e3), dC.of e4, sz3, fun h => (by cases h), fun _ _ => ?_, fun _ h => absurd rfl h⟩
    exact k3 _ x p3 _ s4 (bad3 (z4 _ _ e3) (.int _) (.int _) k4 (by simp [wx])).1 (bad3 (z4 _ _ e3) (.int _) (.int _) k4 (by simp [wx])).2
  refine ⟨_, (au (aQ (i := 2) iB.nd rfl (.inl rfl) (aC bf (pv 0) aq))
    (au (aQ (i := 3) iB.nd rfl (.inl rfl) (bM (ixK K rfl) (aZ (aa (pe_un un_neg aq) (aa aq (aa fj (aa iT (aa bJ (aa (aZ (aa aq aj)) (aa (aC op_pow aq aq) (aa fj aj))))))))) (aC bf (aC bz (pv 0) aq) aq) (fun _ _ => rfl)))
    (@r2))), ?_⟩
  refine ⟨_, rfl, _, _, rfl, rfl, (by show (0 : Int) < 3; decide), ?_⟩
  refine ⟨_, rfl, sz1, fun p hp => ?_⟩
  have z1 := az (o := HO.lst [V.int 0]) hp
  refine ⟨_, _, rfl, rfl, ⟨by decide, by decide, by decide⟩, sz8, fun L hL => ?_⟩
  obtain ⟨x, hm, hx⟩ := at_mod (xs := [V.int (-1), .int 256, .bl true, .non, .str "0", .ref p, .int (10 ^ 20), .bl false]) (m := (n : Int) / 3) 8 rfl (by decide)
  have z2 := az (o := HO.lst [V.int (-1), .int 256, .bl true, .non, .str "0", .ref p, .int (10 ^ 20), .bl false]) hL
  refine ⟨_, rfl, _, _, rfl, rfl, ⟨by decide, by decide⟩, _, _, rfl, rfl, (by show (0 : Int) < 8; decide), L, _, _, x, rfl, rfl, aU.of ak, hx, ?_⟩
  have ep := z2 p (.lst [.int 0]) ak
  have hb : Kd K _ x ∧ bU 0 255 x = false := sh_all ep hm
  exact k2 x _ (z1.trans z2) hb.1 hb.2
theorem d7 : aO ["_law_script", "_law_first", "_law_near", "_law_base", "_law_found", "_law_k", "_law_number", "_law_colour_here"] ["_law_script", "_law_first", "_law_near"] (ao gw) := ⟨rfl, rfl, rfl, by decide +kernel, rfl, by decide +kernel, by decide +kernel⟩
theorem ok_law_pool {f : Addr} {fd : FuncData} (F : bI K "_law_pool" "_law_pool" gw .none f fd) (T : Txt K mg cFE cC cN cM cP cL cB cD cZ tP tS tC tI) (g__law_draw : iR P w K mg base 1 "_law_draw" ["_law_script", "_law_k"] [] (spDraw K)) (g__law_colour : iR P w K mg base 1 "_law_colour" ["_law_number"] [] (spColour)) : bB P w K mg base gh 2 f fd ["_law_script", "_law_first", "_law_near"] (spPool K) := by
 refine F.ok d7 (fun vs H Q E h => ?_) (fun cdv A outer s H vs Q E hr h => ?_)
 ·obtain ⟨a, ns, k, nr, rfl, _⟩ := h; rfl
 ·obtain ⟨a, ns, fk, nr, rfl, hS, hk, k⟩ := h
  have hu : _ + 64 < cLine := hr.units
  refine ⟨_, (au (aQ (i := 3) d7.nd rfl (by first | exact Or.inl rfl | exact Or.inr rfl) (aD g__law_colour (hr.mono (by decide)) rfl (aa (aD g__law_draw (hr.mono (by decide)) rfl (aa (pv 0) (aa (pv 1) aj))) aj)))
    (au (aQ (i := 4) d7.nd rfl (by first | exact Or.inl rfl | exact Or.inr rfl) (aZ aj))
    (au (ps_for PassesOwn.never rfl (fV rfl T.range (aa aq aj)) (aP (i := 5) d7.nd rfl (by first | exact Or.inl rfl | exact Or.inr rfl)) (au (aQ (i := 6) d7.nd rfl (by first | exact Or.inl rfl | exact Or.inr rfl) (aD g__law_draw (hr.mono (by decide)) rfl (aa (pv 0) (aa (aC cj (aC cj (pv 1) aq) (pv 5)) aj))))
    (au (aQ (i := 7) d7.nd rfl (by first | exact Or.inl rfl | exact Or.inr rfl) (aD g__law_colour (hr.mono (by decide)) rfl (aa (pv 6) aj)))
    (au (bK (bH (pv 2)) (aA (aQ (i := 7) d7.nd rfl (by first | exact Or.inl rfl | exact Or.inr rfl) (cQ fH rfl T.tuple PyProof.Rows.boot_tuple (aa (bG (N := ["_law_j", "_law_base", "_law_number"]) (src := [none, some 3, some 6]) rfl ⟨rfl, rfl, rfl, rfl, rfl, by decide +kernel⟩ (fV rfl T.range (aa aq aj)) (fun s H C fp => aP (i := 0) (show (["_law_j", "_law_base", "_law_number"] : List Str).Nodup by decide +kernel) rfl (by first | exact Or.inl rfl | exact Or.inr rfl)) (fun s H C fp => bh) (fun s H C fp => (aC cj (aN (call_min2 rfl) rfl T.min PyProof.Rows.boot_min (aa (bM (ixTK K rfl) (pv 1) (pv 0) (fun _ _ => rfl)) (aa aq aj))) (aC bf (aC bz (pv 2) (bM (ixK K rfl) (aZ (aa aq (aa aq (aa aq aj)))) (pv 0) (fun _ _ => rfl))) aq)))) aj)))) aV)
    (aA (bK (bj (op_notInD K rfl 1 (by decide) hu) (pv 7) (pv 4) (by with_unfolding_all rfl)) (aA (cz (pe_bm PySem.F.plainAttrs_list PySem.F.slot_list_append PySem.F.type_list_append cH (pv 4) (aa (pv 7) aj)))) aV))))))
    (aA (aM (pv 4)))))), ?_⟩
  refine ⟨_, rfl, _, rfl, a, ns, fk, rfl, hS, by omega, fun n0 H1 _ s1 => ⟨n0, rfl, fun tb H2 r g b s2 htb cb => ?_⟩⟩
  have s12 := s1.trans s2
  refine ⟨sz0, fun L hL => ?_⟩
  have hL0 := s12.free hL
  have z3 := az (o := HO.lst []) hL
  refine ⟨24, rfl, by decide, by decide, ?_⟩
  refine for_range (lo := 0) (n := 24) (fun i σ H3 => aB H H3 ∧ iM H3 tb r g b ∧ ∃ (cs : List (C4)) (v5 v6 v7 : Option V), σ = [some (.ref a), some (.int (fk : Int)), some (.bl nr), some (.ref tb), some (.ref L), v5, v6, v7] ∧ bF H3 L cs ∧ cs.length ≤ i ∧ (0 < i → 1 ≤ cs.length) ∧ (cs.map kc).Nodup)
   ⟨s12.trans z3, cb.mono z3, [], none, none, none, rfl, ⟨ak, fun c hc => nomatch hc⟩, Nat.le_refl _, fun h => absurd h (Nat.lt_irrefl _), List.nodup_nil⟩ ?_ ?_
  ·rintro i σ H3 hi ⟨s3, cb3, cs, v5, v6, v7, rfl, cv, hl, hpos, nd⟩
   refine ⟨_, rfl, _, rfl, _, _, rfl, rfl, _, rfl, _, _, rfl, rfl, a, ns, fk + 1 + i, (by show [V.ref a, V.int ((fk : Int) + 1 + (0 + (i : Int)))] = _; rw [show ((fk : Int) + 1 + (0 + (i : Int))) = ((fk + 1 + i : Nat) : Int) by omega]), s3.seq hS, by omega, fun n H4 hn s4 => ?_⟩
   refine ⟨_, rfl, n, rfl, fun t H5 x y z s5 ht ct => ?_⟩
   have s45 := s4.trans s5
   cases nr with
   | false =>
    refine ⟨_, rfl, _, rfl, ?_⟩
    refine ⟨_, rfl, _, rfl, in_cols (neg := true) (cv.mono s45) ct ⟨_, rfl, ?_⟩⟩
    cases hf : cs.findIdx? (isC x y z) with
    | some j =>
     obtain ⟨hj, _⟩ := List.findIdx?_eq_some_iff_getElem.mp hf
     exact ⟨s3.trans s45, cb3.mono s45, cs, _, _, _, rfl, cv.mono s45, by omega, fun _ => by omega, nd⟩
    | none =>
     have cvm := cv.mono s45
     refine ⟨_, rfl, .inl ⟨rfl, _, aU.of cvm.1⟩, _, rfl, L, _, _, rfl, rfl, cvm.1, Nat.lt_of_lt_of_le (by rw [List.length_map]; omega : _ < 5000) (by decide), ?_⟩
     have up : ∀ {q : Addr} {x1 x2 x3 : Nat}, iM H5 q x1 x2 x3 → iM (upd H5 L (.lst (cs.map (fun c => V.ref c.1) ++ [V.ref t]))) q x1 x2 x3 := fun {q x1 x2 x3} cc => ⟨by rw [aJ (ne_of cc.top cvm.1 (by intro z; cases z))]; exact cc.top, cc.lr, cc.lg, cc.lb⟩
     exact ⟨aY (s3.trans s45) hL0, up (cb3.mono s45), cs ++ [(t, x, y, z)], _, _, _, rfl, bF.snoc ak (fun c hc => up (cvm.2 c hc)) (up ct), by rw [List.length_append]; show cs.length + 1 ≤ i + 1; omega, fun _ => by rw [List.length_append]; show 1 ≤ cs.length + 1; omega, by
      rw [List.map_append]
      refine List.nodup_append.mpr ⟨nd, by simp, fun u hu w hw => ?_⟩
      rw [List.map_cons, List.map_nil, List.mem_singleton] at hw
      subst hw
      exact fun z => findIdx_none hf (by rw [z] at hu; exact hu)⟩
   | true =>
    refine ⟨_, rfl, _, rfl, ?_⟩
    refine ⟨_, rfl, by decide, by decide, fun D hD => ?_⟩
    have cb5 := cb3.mono s45
    refine cU (k := 0) (fun x => match x with | .int j => .int ((if (252 : Int) < (([r, g, b].getD j.toNat 0 : Nat) : Int) then 252 else (([r, g, b].getD j.toNat 0 : Nat) : Int)) + (n : Int) / [(1 : Int), 4, 16].getD j.toNat 1 % 4) | _ => .non) (fun _ => true) (src_range (n := 3)) sz3 hD (fun x _ H' Qb _ kk => kk H' (aB.refl _)) (fun x hx _ H' Q' sm kk => ?_) fun H7 s7 hD7 => ?_
    ·have hx : x ∈ [V.int 0, .int 1, .int 2] := hx
     have top := (cb5.mono sm).top
     simp only [List.mem_cons, List.not_mem_nil, or_false] at hx
     rcases hx with rfl | rfl | rfl
     ·refine ⟨_, rfl, _, rfl, tb, _, _, _, rfl, rfl, dC.of top, aW (j := 0) rfl, _, _, rfl, _, rfl, sz3, fun q hq => ?_⟩
      exact ⟨_, rfl, q, _, _, _, rfl, rfl, aU.of ak, aW (j := 0) rfl, _, _, rfl, rfl, ⟨by decide, by decide⟩, _, _, rfl, rfl, (by show (0 : Int) < 4; decide), _, _, rfl, rfl, kk _ (az hq)⟩
     ·refine ⟨_, rfl, _, rfl, tb, _, _, _, rfl, rfl, dC.of top, aW (j := 1) rfl, _, _, rfl, _, rfl, sz3, fun q hq => ?_⟩
      exact ⟨_, rfl, q, _, _, _, rfl, rfl, aU.of ak, aW (j := 1) rfl, _, _, rfl, rfl, ⟨by decide, by decide⟩, _, _, rfl, rfl, (by show (0 : Int) < 4; decide), _, _, rfl, rfl, kk _ (az hq)⟩
     ·refine ⟨_, rfl, _, rfl, tb, _, _, _, rfl, rfl, dC.of top, aW (j := 2) rfl, _, _, rfl, _, rfl, sz3, fun q hq => ?_⟩
      exact ⟨_, rfl, q, _, _, _, rfl, rfl, aU.of ak, aW (j := 2) rfl, _, _, rfl, rfl, ⟨by decide, by decide⟩, _, _, rfl, rfl, (by show (0 : Int) < 4; decide), _, _, rfl, rfl, kk _ (az hq)⟩
    have e7 : H7 D = some (.lst [.int ((min r 252 + n % 4 : Nat) : Int), .int ((min g 252 + n / 4 % 4 : Nat) : Int), .int ((min b 252 + n / 16 % 4 : Nat) : Int)]) := by
     have q1 : (if (252 : Int) < (r : Int) then (252 : Int) else (r : Int)) + (n : Int) / 1 % 4 = ((min r 252 + n % 4 : Nat) : Int) := by split <;> omega
     have q2 : (if (252 : Int) < (g : Int) then (252 : Int) else (g : Int)) + (n : Int) / 4 % 4 = ((min g 252 + n / 4 % 4 : Nat) : Int) := by split <;> omega
     have q3 : (if (252 : Int) < (b : Int) then (252 : Int) else (b : Int)) + (n : Int) / 16 % 4 = ((min b 252 + n / 16 % 4 : Nat) : Int) := by split <;> omega
     rw [← q1, ← q2, ← q3]
     exact hD7
    refine ⟨D, _, rfl, .inl ⟨aU.of e7, fun u hu' => ?_⟩⟩
    have s58 := s7.trans (az (o := HO.tup [V.int ((min r 252 + n % 4 : Nat) : Int), .int ((min g 252 + n / 4 % 4 : Nat) : Int), .int ((min b 252 + n / 16 % 4 : Nat) : Int)]) hu')
    have cu : iM (upd H7 u (.tup [V.int ((min r 252 + n % 4 : Nat) : Int), .int ((min g 252 + n / 4 % 4 : Nat) : Int), .int ((min b 252 + n / 16 % 4 : Nat) : Int)])) u (min r 252 + n % 4) (min g 252 + n / 4 % 4) (min b 252 + n / 16 % 4) := ⟨ak, by omega, by omega, by omega⟩
    show dG 7 _ _ _ _
    generalize upd H7 u (.tup [V.int ((min r 252 + n % 4 : Nat) : Int), .int ((min g 252 + n / 4 % 4 : Nat) : Int), .int ((min b 252 + n / 16 % 4 : Nat) : Int)]) = H8 at s58 cu ⊢
    have s38 := s45.trans s58
    refine ⟨_, rfl, _, rfl, in_cols (neg := true) (cv.mono s38) cu ⟨_, rfl, ?_⟩⟩
    cases hf : cs.findIdx? (isC (min r 252 + n % 4) (min g 252 + n / 4 % 4) (min b 252 + n / 16 % 4)) with
    | some j =>
     obtain ⟨hj, _⟩ := List.findIdx?_eq_some_iff_getElem.mp hf
     exact ⟨s3.trans s38, cb3.mono s38, cs, _, _, _, rfl, cv.mono s38, by omega, fun _ => by omega, nd⟩
    | none =>
     have cvm := cv.mono s38
     refine ⟨_, rfl, .inl ⟨rfl, _, aU.of cvm.1⟩, _, rfl, L, _, _, rfl, rfl, cvm.1, Nat.lt_of_lt_of_le (by rw [List.length_map]; omega : _ < 5000) (by decide), ?_⟩
     have up : ∀ {q : Addr} {x1 x2 x3 : Nat}, iM H8 q x1 x2 x3 → iM (upd H8 L (.lst (cs.map (fun c => V.ref c.1) ++ [V.ref u]))) q x1 x2 x3 := fun {q x1 x2 x3} cc => ⟨by rw [aJ (ne_of cc.top cvm.1 (by intro z; cases z))]; exact cc.top, cc.lr, cc.lg, cc.lb⟩
     exact ⟨aY (s3.trans s38) hL0, up (cb3.mono s38), cs ++ [(u, (min r 252 + n % 4), (min g 252 + n / 4 % 4), (min b 252 + n / 16 % 4))], _, _, _, rfl, bF.snoc ak (fun c hc => up (cvm.2 c hc)) (up cu), by rw [List.length_append]; show cs.length + 1 ≤ i + 1; omega, fun _ => by rw [List.length_append]; show 1 ≤ cs.length + 1; omega, by
      rw [List.map_append]
      refine List.nodup_append.mpr ⟨nd, by simp, fun u hu w hw => ?_⟩
      rw [List.map_cons, List.map_nil, List.mem_singleton] at hw
      subst hw
      exact fun z => findIdx_none hf (by rw [z] at hu; exact hu)⟩
  ·rintro σ H3 ⟨s3, cb3, cs, v5, v6, v7, rfl, cv, hl, hpos, nd⟩
   exact ⟨_, rfl, k L cs H3 s3 hL0 cv (hpos (by decide)) hl nd⟩
end
section
variable {K : W.Frag}
theorem Good.at {rows : List (List Int)} {wd : Nat} (g : Good rows wd) {i : Nat} {r : List V} (h : (ir rows)[i]? = some r) : ∃ (ns : List Int), r = ns.map V.int ∧ ns.length = wd ∧ (∀ c ∈ ns, 0 ≤ c ∧ c ≤ 15) ∧ ns ∈ rows := by
 unfold ir at h
 rw [List.getElem?_map] at h
 cases e : rows[i]? with
 | none => rw [e] at h; cases h
 | some ns =>
  rw [e] at h
  cases h
  have hm := List.mem_of_getElem? e
  exact ⟨ns, rfl, (g.row ns hm).1, (g.row ns hm).2, hm⟩
theorem Good.mem {H : Hp} {a q : Addr} {ps : List Addr} {rows : List (List Int)} {wd : Nat} (g : Good rows wd) (p : bx H a ps (ir rows)) (hq : q ∈ ps) : ∃ (ns : List Int), H q = some (.lst (ns.map V.int)) ∧ ns.length = wd ∧ (∀ c ∈ ns, 0 ≤ c ∧ c ≤ 15) := by
 obtain ⟨i, hi⟩ := List.mem_iff_getElem?.mp hq
 obtain ⟨r, hr, e⟩ := p.at hi
 obtain ⟨ns, rfl, h1, h2, _⟩ := g.at hr
 exact ⟨ns, e, h1, h2⟩
theorem Good.first {H : Hp} {a : Addr} {ps : List Addr} {rows : List (List Int)} {wd : Nat} (g : Good rows wd) (p : bx H a ps (ir rows)) : ∃ (q : Addr) (ns : List Int), (ps.map V.ref)[0]? = some (.ref q) ∧ H q = some (.lst (ns.map V.int)) ∧ ns.length = wd := by
 have hl : ps.length = rows.length := by have := p.len; unfold ir at this; rw [List.length_map] at this; exact this
 have h0 : 0 < ps.length := by have := g.ne; omega
 have e : ps[0]? = some ps[0] := by simp [h0]
 obtain ⟨ns, h1, h2, _⟩ := g.mem p (List.getElem_mem h0)
 exact ⟨ps[0], ns, by rw [List.getElem?_map, e]; rfl, h1, h2⟩
theorem gP (rows : List (List Int)) : (ir rows).length = rows.length := by unfold ir; rw [List.length_map]
theorem all_rep (n : List V) : (n.map fun _ => true).all id = true := by
 induction n with
 | nil => rfl
 | cons x r ih => rw [List.map_cons, List.all_cons, ih]; rfl
end
theorem getElem?_ref {ps : List Addr} {i : Nat} {x : V} (h : (ps.map V.ref)[i]? = some x) : ∃ q, ps[i]? = some q ∧ x = .ref q := by
 rw [List.getElem?_map] at h
 cases e : ps[i]? with
 | none => rw [e] at h; cases h
 | some q => rw [e] at h; cases h; exact ⟨q, rfl, rfl⟩
theorem picB_iff {H : Hp} {a : Addr} {xs : List V} (e : rowOf H (.ref a) = some xs) : picB H (.ref a) = true ↔ (bU 1 24 (.int (xs.length : Int)) = true ∧ (∀ x ∈ xs, rowQ H x = true) ∧ ∀ x ∈ xs, lenOf H x = lenOf H (xs.headD .non)) := by
 unfold picB
 rw [e]
 simp only [Bool.and_eq_true, List.all_eq_true, decide_eq_true_eq]
theorem rowQ_iff {H : Hp} {b : Addr} {ys : List V} (e : H b = some (.lst ys)) : rowQ H (.ref b) = true ↔ (ys.all (bU 0 15) = true ∧ bU 1 24 (.int (ys.length : Int)) = true) := by
 unfold rowQ
 rw [aH e]
 simp only [rowB, Bool.and_eq_true]
theorem jc {H : Hp} {b : Addr} {ys : List V} (e : H b = some (.lst ys)) : lenOf H (.ref b) = ys.length := by unfold lenOf; rw [aH e]
noncomputable def Th2 (K : W.Frag) (H : Hp) (v : V) : Prop := Th K H v ∧ ∀ a xs, v = .ref a → H a = some (.tup xs) → ∀ y ∈ xs, gM y = true ∨ ∃ b, y = .ref b
section
variable {K : W.Frag} {H : Hp} {q : Addr} {r r' : List V}
theorem Rw.lst (e : H q = some (.lst r)) (hl : r.length ≤ 1000) (hk : ∀ y ∈ r, Kd K H y) : Rw K H (.ref q) :=
 ⟨.lst e, fun ys h => by rw [aH e] at h; cases h; exact hl, fun ys h => by rw [aH e] at h; cases h; exact hk⟩
theorem rowOf_dict {a : Addr} (e : H a = some (gH a)) : rowOf H (.ref a) = Option.none := by
 cases h : rowOf H (.ref a) with
 | none => rfl
 | some ys => obtain ⟨b, z, e2⟩ := fQ h; cases z; rw [e] at e2; cases e2
theorem Th.lst {p : Addr} {xs : List V} (e : H p = some (.lst xs)) (hl : xs.length ≤ 1000) (hk : ∀ x ∈ xs, Rw K H x) : Th2 K H (.ref p) :=
 ⟨⟨.lst e, fun ys h => by rw [aH e] at h; cases h; exact hl, fun ys h => by rw [aH e] at h; cases h; exact hk⟩, fun a ys z e2 => by cases z; rw [e] at e2; cases e2⟩
theorem Th.pic {a : Addr} {ps : List Addr} {R : List (List V)} (p : bx H a ps R) (hl : R.length ≤ 1000) (hr : ∀ r ∈ R, r.length ≤ 1000 ∧ ∀ y ∈ r, Kd K H y) : Th2 K H (.ref a) := by
 refine Th.lst p.top (by rw [List.length_map, p.len]; exact hl) fun x hx => ?_
 obtain ⟨q, hq, rfl⟩ := List.mem_map.mp hx
 obtain ⟨r, hrm, e⟩ := p.mem hq
 exact Rw.lst e (hr r hrm).1 (hr r hrm).2
end
section
variable {K : W.Frag} {H : Hp} {a : Addr} {ps : List Addr} {rows : List (List Int)} {wd : Nat}
theorem th_good (p : bx H a ps (ir rows)) (g : Good rows wd) : Th2 K H (.ref a) := by
 refine Th.pic p (by rw [gP]; exact Nat.le_trans g.le (by decide)) fun r hr => ?_
 obtain ⟨i, hi⟩ := List.mem_iff_getElem?.mp hr
 obtain ⟨ms, rfl, hw, _, _⟩ := g.at hi
 exact ⟨by rw [List.length_map, hw]; exact Nat.le_trans g.w24 (by decide), kd_ints⟩
theorem len_good (p : bx H a ps (ir rows)) (g : Good rows wd) : ∀ x ∈ ps.map V.ref, lenOf H x = wd := fun x hx => by
 obtain ⟨q, hq, rfl⟩ := List.mem_map.mp hx
 obtain ⟨ns, e1, e2, _⟩ := g.mem p hq
 rw [jc e1, List.length_map, e2]
theorem head_good (p : bx H a ps (ir rows)) (g : Good rows wd) : lenOf H ((ps.map V.ref).headD .non) = wd := by
 obtain ⟨q, ns, e0, e1, e2⟩ := g.first p
 refine len_good p g _ ?_
 cases h : ps.map V.ref with
 | nil => rw [h] at e0; cases e0
 | cons z r => exact List.mem_cons_self
theorem picB_good (p : bx H a ps (ir rows)) (g : Good rows wd) : picB H (.ref a) = true := by
 refine (picB_iff (aH p.top)).mpr ⟨?_, fun x hx => ?_, fun x hx => by rw [len_good p g x hx, head_good p g]⟩
 ·rw [List.length_map, p.len, gP]; exact wh_len g.ne g.le
 ·obtain ⟨q, hq, rfl⟩ := List.mem_map.mp hx
  obtain ⟨ns, e1, e2, e3⟩ := g.mem p hq
  exact (rowQ_iff e1).mpr ⟨wh_cells e3, by rw [List.length_map, e2]; exact wh_len g.w1 g.w24⟩
theorem no_bad (p : bx H a ps (ir rows)) (g : Good rows wd) (z : picB H (.ref a) = false) : False := by rw [picB_good p g] at z; cases z
end
theorem len_rep' (n : Nat) (xs : List V) : (List.replicate n xs).flatten.length = n * xs.length := by
 induction n with
 | zero => simp
 | succ n ih => rw [List.replicate_succ, List.flatten_cons, List.length_append, ih, Nat.succ_mul, Nat.add_comm]
theorem len25 (xs : List V) : (List.replicate (25 : Int).toNat xs).flatten.length = 25 * xs.length := len_rep' 25 xs
structure BadQ (K : W.Frag) (H : Hp) (v : V) : Prop where
 th : Th K H v
 no : picB H v = false
theorem BadQ.mono {K : W.Frag} {H H' : Hp} {v : V} (b : BadQ K H v) (s : aB H H') : BadQ K H' v := ⟨b.th.mono s, by rw [picB_mono b.th s]; exact b.no⟩
theorem take_flat {α : Type} (rows : List (List α)) (i : Nat) (r : List α) (h : rows[i]? = some r) : (rows.take (i + 1)).flatten = (rows.take i).flatten ++ r := by
 rw [List.take_add_one, h]
 simp
theorem flat_le {rows : List (List Int)} {wd : Nat} (h : ∀ r ∈ rows, r.length = wd) : rows.flatten.length = rows.length * wd := by
 induction rows with
 | nil => simp
 | cons r t ih =>
  rw [List.flatten_cons, List.length_append, ih (fun r hr => h r (List.mem_cons_of_mem _ hr)), h r List.mem_cons_self, List.length_cons, Nat.succ_mul]
  omega
theorem Good.flat {rows : List (List Int)} {wd : Nat} (g : Good rows wd) (i : Nat) : (rows.take i).flatten.length ≤ 576 := by
 rw [flat_le (wd := wd) fun r hr => (g.row r (List.mem_of_mem_take hr)).1]
 have h1 : (rows.take i).length ≤ 24 := by rw [List.length_take]; have := g.le; omega
 exact Nat.le_trans (Nat.mul_le_mul h1 g.w24) (by decide)
noncomputable def clr (cs : List (C4)) (c : Int) : V := .ref (cs.getD c.toNat (0, 0, 0, 0)).1
noncomputable def shR (cs : List (C4)) (rows : List (List Int)) : List (List V) := rows.map fun r => r.map (clr cs)
noncomputable def spAllC (K : W.Frag) (cB : Addr) : Sp := fun vs H Q E => ∃ x, vs = [x] ∧ ((∃ a ps rows wd, x = .ref a ∧ bx H a ps (ir rows) ∧ Good rows wd ∧ ∀ p H', aB H H' → H p = none → H' p = some (.lst (rows.flatten.map V.int)) → Q (.ref p) H') ∨ (BadQ K H x ∧ ∀ H', aB H H' → E (.ref cB) none H'))
noncomputable def spBelow (K : W.Frag) (cB cN : Addr) : Sp := fun vs H Q E => ∃ (x : V) (m : Int), vs = [x, .int m] ∧ ((∃ a ps rows wd, x = .ref a ∧ bx H a ps (ir rows) ∧ Good rows wd ∧ (eO rows.flatten < m → ∀ H', aB H H' → Q .non H') ∧ (m ≤ eO rows.flatten → ∀ H', aB H H' → E (.ref cN) none H')) ∨ (BadQ K H x ∧ ∀ H', aB H H' → E (.ref cB) none H'))
noncomputable def spShown0 (K : W.Frag) (cB cN cL : Addr) : Sp := fun vs H Q E => ∃ (x : V) (p l : Addr) (cs : List (C4)), vs = [x, .ref p] ∧ jd cL H p l cs ∧ ((∃ a ps rows wd, x = .ref a ∧ bx H a ps (ir rows) ∧ Good rows wd ∧ (eO rows.flatten < (cs.length : Int) → ∀ H', aB H H' → Q .non H') ∧ ((cs.length : Int) ≤ eO rows.flatten → ∀ H', aB H H' → E (.ref cN) none H')) ∨ (BadQ K H x ∧ ∀ H', aB H H' → E (.ref cB) none H'))
noncomputable def spShow (K : W.Frag) (cB cN cL : Addr) : Sp := fun vs H Q E => ∃ (x : V) (p l : Addr) (cs : List (C4)), vs = [x, .ref p] ∧ jd cL H p l cs ∧ ((∃ a ps rows wd, x = .ref a ∧ bx H a ps (ir rows) ∧ Good rows wd ∧ (eO rows.flatten < (cs.length : Int) → ∀ q qs H', aB H H' → H q = none → Fresh H qs → bx H' q qs (shR cs rows) → Q (.ref q) H') ∧ ((cs.length : Int) ≤ eO rows.flatten → ∀ H', aB H H' → E (.ref cN) none H')) ∨ (BadQ K H x ∧ ∀ H', aB H H' → E (.ref cB) none H'))
theorem Good.fne {rows : List (List Int)} {wd : Nat} (g : Good rows wd) : rows.flatten ≠ [] := fun z => by
 have := flat_le (wd := wd) fun r hr => (g.row r hr).1
 rw [z] at this
 have h1 := g.ne
 have h2 := g.w1
 have : rows.length * wd = 0 := this.symm
 rcases Nat.mul_eq_zero.mp this with h | h <;> omega
theorem Good.mem2 {H : Hp} {a q : Addr} {ps : List Addr} {rows : List (List Int)} {wd : Nat} (g : Good rows wd) (p : bx H a ps (ir rows)) (hq : q ∈ ps) : ∃ (ns : List Int), H q = some (.lst (ns.map V.int)) ∧ ns.length = wd ∧ (∀ c ∈ ns, 0 ≤ c ∧ c ≤ 15) ∧ ns ∈ rows := by
 obtain ⟨i, hi⟩ := List.getElem?_of_mem hq
 obtain ⟨r, hr, e⟩ := p.at hi
 obtain ⟨ns, rfl, h1, h2, h3⟩ := g.at hr
 exact ⟨ns, e, h1, h2, h3⟩
section
variable {P : Program} {w : World} {K : W.Frag} {mg : Str → Option Value} {base : Heap} {cFE cC cN cM cP cL cB cD cZ : Addr} {tP tS tC tI : Tok}
theorem sc_all_cells : aO ["picture", "cells", "row"] ["picture"] (ao fU) := ⟨rfl, rfl, rfl, by decide +kernel, rfl, by decide +kernel, by decide +kernel⟩
theorem ok_all_cells {f : Addr} {fd : FuncData} (F : bI K "all_cells" "all_cells" fU .none f fd) (T : Txt K mg cFE cC cN cM cP cL cB cD cZ tP tS tC tI) (g_need_picture : DefX P w K mg base 7 "need_picture" ["picture"] [] (spNeed K cB)) : bB P w K mg base (CX1 P w) 8 f fd ["picture"] (spAllC K cB) := by
 refine F.okX sc_all_cells (fun vs H Q E h => ?_) (fun cdv A outer s H vs Q E hr h => ?_)
 ·obtain ⟨x, rfl, _⟩ := h; rfl
 ·obtain ⟨x, rfl, h⟩ := h
  refine ⟨_, (au (cz (fK g_need_picture (hr.mono (by decide)) iu rfl (aa (pv 0) aj)))
    (au (aQ (i := 1) sc_all_cells.nd rfl (.inl rfl) (aZ aj))
    (au (PS.nox (ps_for PassesOwn.never rfl (piK K rfl (pv 0)) (aP (i := 2) sc_all_cells.nd rfl (.inl rfl)) (aA (cz (pe_bm PySem.F.plainAttrs_list PySem.F.slot_list_extend PySem.F.type_list_extend mt_extend (pv 1) (aa (pv 2) aj))))))
    (aA (aM (pv 1)))))), ?_⟩
  rcases h with ⟨a, ps, rows, wd, rfl, pic, gd, k⟩ | ⟨bad, k⟩
  ·refine ⟨_, rfl, _, rfl, (th_good pic gd).1, fun _ H1 s1 => ⟨Nat.zero_le _, fun p hp => ⟨_, rfl, a, rfl, ⟨_, aU.of (az hp _ _ (s1 _ _ pic.top))⟩, ?_⟩⟩, fun z => (no_bad pic gd z).elim⟩
   have hp0 : H p = none := s1.free hp
   refine for_list (xs := ps.map V.ref) (fun i σ H2 => aB H1 H2 ∧ H2 p = some (.lst ((rows.take i).flatten.map V.int)) ∧ ∃ v, σ = [some (.ref a), some (.ref p), v]) ⟨az hp, by rw [ak]; rfl, none, rfl⟩ (fun i σ H2 _ q => aU.of (q.1 _ _ (s1 _ _ pic.top))) ?_ ?_
   ·rintro i x σ H2 hx ⟨s2, hp2, v, rfl⟩
    rw [List.getElem?_map] at hx
    cases e : ps[i]? with
    | none => rw [e] at hx; cases hx
    | some q =>
     rw [e] at hx
     cases hx
     obtain ⟨r, hr, hq⟩ := pic.at e
     unfold ir at hr
     rw [List.getElem?_map] at hr
     cases er : rows[i]? with
     | none => rw [er] at hr; cases hr
     | some ns =>
      rw [er] at hr
      cases hr
      have hq2 := s2 _ _ (s1 _ _ hq)
      have hlen : (((rows.take i).flatten.map V.int).length + (ns.map V.int).length) ≤ sizeLine := by
       have e1 := take_flat rows i ns er
       have e2 := gd.flat (i + 1)
       rw [e1, List.length_append] at e2
       rw [List.length_map, List.length_map]
       exact Nat.le_trans e2 (by decide)
      refine ⟨_, rfl, .inl ⟨rfl, _, aU.of hp2⟩, _, rfl, p, q, _, _, rfl, rfl, hp2, hq2, hlen, aY s2 hp, ?_, _, rfl⟩
      rw [ak, take_flat rows i ns er, List.map_append]
   ·rintro σ H2 ⟨s2, hp2, v, rfl⟩
    refine ⟨_, rfl, k p H2 (s1.trans s2) hp0 ?_⟩
    rw [hp2, List.length_map, pic.len, gP, List.take_length]
  ·exact ⟨_, rfl, x, rfl, bad.th, fun z => (by rw [bad.no] at z; cases z), fun _ => k⟩
theorem sc_need_cells_below : aO ["picture", "many"] ["picture", "many"] (ao bV) := ⟨rfl, rfl, rfl, by decide +kernel, rfl, by decide +kernel, by decide +kernel⟩
theorem ok_need_cells_below {f : Addr} {fd : FuncData} (F : bI K "need_cells_below" "need_cells_below" bV .none f fd) (T : Txt K mg cFE cC cN cM cP cL cB cD cZ tP tS tC tI) (g_all_cells : DefX P w K mg base 8 "all_cells" ["picture"] [] (spAllC K cB)) : bB P w K mg base (CX1 P w) 9 f fd ["picture", "many"] (spBelow K cB cN) := by
 refine F.okX sc_need_cells_below (fun vs H Q E h => ?_) (fun cdv A outer s H vs Q E hr h => ?_)
 ·obtain ⟨x, m, rfl, _⟩ := h; rfl
 ·obtain ⟨x, m, rfl, h⟩ := h
  refine ⟨_, (aA (bK (bj op_ge (aN (call_maxI K rfl rfl) rfl T.max PyProof.Rows.boot_max (aa (fK g_all_cells (hr.mono (by decide)) iu rfl (aa (pv 0) aj)) aj)) (pv 1) (bA _)) (aA (gG rfl iG rfl T.NoColour T.xNoColour (aa bJ aj))) aV)), ?_⟩
  rcases h with ⟨a, ps, rows, wd, rfl, pic, gd, kY, kN⟩ | ⟨bad, k⟩
  ·refine ⟨_, rfl, _, rfl, .inl ⟨a, ps, rows, wd, rfl, pic, gd, fun p H1 s1 hp ep => ?_⟩⟩
   refine ⟨p, _, rfl, aU.of ep, gd.fne, _, rfl, _, _, rfl, rfl, _, rfl, iteB (fun h => ?_) (fun h => ?_)⟩
   ·exact ⟨sz1, kN (of_decide_eq_true h) H1 s1⟩
   ·exact kY (by have := of_decide_eq_false h; omega) H1 s1
  ·exact ⟨_, rfl, x, rfl, .inr ⟨bad, k⟩⟩
theorem sc_need_shown : aO ["picture", "palette"] ["picture", "palette"] (ao eU) := ⟨rfl, rfl, rfl, by decide +kernel, rfl, by decide +kernel, by decide +kernel⟩
theorem ok_need_shown {f : Addr} {fd : FuncData} (F : bI K "need_shown" "need_shown" eU .none f fd) (T : Txt K mg cFE cC cN cM cP cL cB cD cZ tP tS tC tI) (g_need_cells_below : DefX P w K mg base 9 "need_cells_below" ["picture", "many"] [] (spBelow K cB cN)) (g_m_many : MetD P w K mg base cL 1 "many" ["self"] (spMany cL)) : bB P w K mg base (CX1 P w) 10 f fd ["picture", "palette"] (spShown0 K cB cN cL) := by
 refine F.okX sc_need_shown (fun vs H Q E h => ?_) (fun cdv A outer s H vs Q E hr h => ?_)
 ·obtain ⟨x, p, l, cs, rfl, _⟩ := h; rfl
 ·obtain ⟨x, p, l, cs, rfl, pq, h⟩ := h
  obtain ⟨⟨dx, hp⟩, cv⟩ := id pq
  refine ⟨_, (aA (cz (fK g_need_cells_below (hr.mono (by decide)) iu rfl (aa (pv 0) (aa (iz (pv 1) T.cl g_m_many (hr.mono (by decide))) aj))))), ?_⟩
  exact ⟨_, rfl, _, rfl, p, dx, _, rfl, hp, fY (by decide +kernel), p, l, cs, rfl, pq, x, _, rfl, h⟩
theorem sc_shown_picture : aO ["picture", "palette"] ["picture", "palette"] (ao dg) := ⟨rfl, rfl, rfl, by decide +kernel, rfl, by decide +kernel, by decide +kernel⟩
theorem ok_shown_picture {f : Addr} {fd : FuncData} (F : bI K "shown_picture" "shown_picture" dg .none f fd) (T : Txt K mg cFE cC cN cM cP cL cB cD cZ tP tS tC tI) (g_need_shown : DefX P w K mg base 10 "need_shown" ["picture", "palette"] [] (spShown0 K cB cN cL)) (g_m_colour_of : MetX P w K mg base cL 3 "colour_of" ["self", "cell"] (spColOf K cN cL)) : bB P w K mg base (CX1 P w) 11 f fd ["picture", "palette"] (spShow K cB cN cL) := by
 refine F.okX sc_shown_picture (fun vs H Q E h => ?_) (fun cdv A outer s H vs Q E hr h => ?_)
 ·obtain ⟨x, p, l, cs, rfl, _⟩ := h; rfl
 ·obtain ⟨x, p, l, cs, rfl, pq, h⟩ := h
  refine ⟨_, (au (cz (fK g_need_shown (hr.mono (by decide)) iu rfl (aa (pv 0) (aa (pv 1) aj))))
    (aA (PS.nox (aM (bG (N := ["row", "palette"]) (src := [none, some 1]) rfl ⟨rfl, rfl, rfl, rfl, rfl, by decide +kernel⟩ (piK K rfl (pv 0)) (fun s H C fp => aP (i := 0) (show (["row", "palette"] : List Str).Nodup by decide +kernel) rfl (.inl rfl)) (fun s H C fp => bh) (fun s H C fp => (bG (N := ["cell", "palette"]) (src := [none, some 1]) rfl ⟨rfl, rfl, rfl, rfl, rfl, by decide +kernel⟩ (piK K rfl (pv 0)) (fun s H C fp => aP (i := 0) (show (["cell", "palette"] : List Str).Nodup by decide +kernel) rfl (.inl rfl)) (fun s H C fp => bh) (fun s H C fp => (pe_metX (pv 1) T.cl g_m_colour_of (hr.mono (by decide)) passF (aa (pv 0) aj)))))))))), ?_⟩
  rcases h with ⟨a, ps, rows, wd, rfl, pic, gd, kY, kN⟩ | ⟨bad, k⟩
  ·refine ⟨_, rfl, _, rfl, _, p, l, cs, rfl, pq, .inl ⟨a, ps, rows, wd, rfl, pic, gd, fun hm H1 s1 => ?_, kN⟩⟩
   have pic1 := pic.mono s1
   have pq1 := pq.mono s1
   refine ⟨_, rfl, a, rfl, ⟨_, aU.of pic1.top⟩, fun D hD => ?_⟩
   refine ie (k := 0) (fun x => ((rowOf H1 x).getD []).map fun v => match v with | .int c => clr cs c | _ => .non) (src_list (aU.of pic1.top)) (by rw [List.length_map, pic1.len, gP]; exact Nat.le_trans gd.le (by decide)) hD (fun x hx H' Q' sm kk => ?_) fun qs H2 s2 fq pv => ?_
   ·obtain ⟨q, hq, rfl⟩ := List.mem_map.mp hx
    obtain ⟨ns, eq, hl, hcs, hmem⟩ := gd.mem2 pic1 hq
    rw [aH eq] at kk
    refine ⟨_, rfl, q, rfl, ⟨_, aU.of (sm _ _ eq)⟩, fun D2 hD2 => ?_⟩
    refine cU (k := 0) (fun v => match v with | .int c => clr cs c | _ => .non) (fun _ => true) (src_list (aU.of (sm _ _ eq))) (by rw [List.length_map, hl]; exact Nat.le_trans gd.w24 (by decide)) hD2 (fun x _ H' Qb _ kk => kk H' (aB.refl _)) (fun x hx _ H3 Q3 s3 kk3 => ?_) fun H3 s3 e3 => ?_
    ·obtain ⟨c, hc, rfl⟩ := List.mem_map.mp hx
     have c0 := (hcs c hc).1
     have cm : c ≤ eO rows.flatten := le_maxI gd.fne c (List.mem_flatten.mpr ⟨ns, hmem, hc⟩)
     have hlt : c.toNat < cs.length := by omega
     have pq3 := (pq1.mono sm).mono s3
     obtain ⟨⟨dx, hp⟩, cv⟩ := id pq3
     refine ⟨_, rfl, p, dx, _, rfl, hp, fY (by decide +kernel), _, rfl, p, l, cs, _, rfl, pq3, .int c, fun n d e hd => ?_, fun hw => ?_⟩
     ·have en : c = (n : Int) := by injection e
      have := kk3 H3 (aB.refl _)
      have e2 : clr cs c = .ref d.1 := by
       unfold clr
       rw [en, Int.toNat_natCast, List.getD_eq_getElem?_getD, hd]; rfl
      show Q3 (.ref d.1) H3
      rw [← e2]; exact this
     ·exact absurd (show bU 0 ((cs.length : Int) - 1) (.int c) = true by simp only [bU, Bool.and_eq_true, decide_eq_true_eq]; omega) (by rw [hw]; decide)
    ·refine kk D2 H3 s3 hD2 ?_
     rw [e3, cR]; rfl
   ·refine kY hm D qs H2 (s1.trans s2) (s1.free hD) (fun q hq => s1.free (fq q hq)) ?_
    have e : (ps.map V.ref).map (fun x => ((rowOf H1 x).getD []).map fun v => match v with | .int c => clr cs c | _ => .non) = shR cs rows := by
     have key : ∀ (qs : List Addr) (R : List (List Int)), Paired (fun p r => H1 p = some (.lst r)) qs (ir R) → (qs.map V.ref).map (fun x => ((rowOf H1 x).getD []).map fun v => match v with | .int c => clr cs c | _ => .non) = shR cs R := by
      intro qs
      induction qs with
      | nil => intro R h; cases R with
       | nil => rfl
       | cons r R => cases h
      | cons q qs ih =>
       intro R h
       cases R with
       | nil => cases h
       | cons r R =>
        cases h with
        | cons e1 h2 =>
         rw [List.map_cons, List.map_cons, ih R h2, aH e1]
         show List.map _ (r.map V.int) :: _ = (r.map (clr cs)) :: shR cs R
         rw [List.map_map]; rfl
     exact key ps rows pic1.row
    rw [← e]; exact pv
  ·exact ⟨_, rfl, _, rfl, x, p, l, cs, rfl, pq, .inr ⟨bad, k⟩⟩
end
noncomputable def rowCB (H : Hp) (ys : List V) : Bool := ys.all (dX H) && bU 1 24 (.int (ys.length : Int))
noncomputable def jf (H : Hp) (x : V) : Bool := match rowOf H x with
 | some ys => rowCB H ys
 | none => false
noncomputable def picCB (H : Hp) (v : V) : Bool := match rowOf H v with
 | some xs => bU 1 24 (.int (xs.length : Int)) && (xs.all (jf H) && xs.all fun x => decide (lenOf H x = lenOf H (xs.headD .non)))
 | none => false
structure RwC (K : W.Frag) (H : Hp) (x : V) : Prop where
 kd : Kd K H x
 len : ∀ ys, rowOf H x = some ys → ys.length ≤ 1000
 it : ∀ ys, rowOf H x = some ys → ∀ y ∈ ys, TC K H y
structure ThC (K : W.Frag) (H : Hp) (v : V) : Prop where
 kd : Kd K H v
 len : ∀ xs, rowOf H v = some xs → xs.length ≤ 1000
 it : ∀ xs, rowOf H v = some xs → ∀ x ∈ xs, RwC K H x
section
variable {K : W.Frag} {H H' : Hp} {x : V}
theorem RwC.mono (r : RwC K H x) (s : aB H H') : RwC K H' x := by
 have e := bN r.kd s
 exact ⟨r.kd.mono s, fun ys h => r.len ys (by rw [← e]; exact h), fun ys h y hy => (r.it ys (by rw [← e]; exact h) y hy).mono s⟩
theorem ThC.mono (t : ThC K H x) (s : aB H H') : ThC K H' x := by
 have e := bN t.kd s
 exact ⟨t.kd.mono s, fun ys h => t.len ys (by rw [← e]; exact h), fun ys h y hy => (t.it ys (by rw [← e]; exact h) y hy).mono s⟩
theorem je {p q : V → Bool} {xs : List V} (h : ∀ x ∈ xs, p x = q x) : xs.all p = xs.all q := by
 rw [Bool.eq_iff_iff, List.all_eq_true, List.all_eq_true]
 exact ⟨fun h2 y hy => by rw [← h y hy]; exact h2 y hy, fun h2 y hy => by rw [h y hy]; exact h2 y hy⟩
theorem rowQC_mono (r : RwC K H x) (s : aB H H') : jf H' x = jf H x := by
 unfold jf; rw [bN r.kd s]
 cases h : rowOf H x with
 | none => rfl
 | some ys =>
  show rowCB H' ys = rowCB H ys
  unfold rowCB
  rw [je fun y hy => cF (r.it ys h y hy) s]
theorem picCB_mono (t : ThC K H x) (s : aB H H') : picCB H' x = picCB H x := by
 unfold picCB
 rw [bN t.kd s]
 cases h : rowOf H x with
 | none => rfl
 | some xs =>
  dsimp only
  rw [je fun y hy => rowQC_mono (t.it xs h y hy) s]
  congr 2
  cases xs with
  | nil => rfl
  | cons z r =>
   refine je fun y hy => ?_
   show decide (lenOf H' y = lenOf H' z) = decide (lenOf H y = lenOf H z)
   rw [eF (t.it _ h y hy).kd s, eF (t.it _ h z List.mem_cons_self).kd s]
end
structure BadC (K : W.Frag) (H : Hp) (v : V) : Prop where
 th : ThC K H v
 no : picCB H v = false
theorem BadC.mono {K : W.Frag} {H H' : Hp} {v : V} (b : BadC K H v) (s : aB H H') : BadC K H' v := ⟨b.th.mono s, by rw [picCB_mono b.th s]; exact b.no⟩
noncomputable def spPicFC (K : W.Frag) (fC : Addr) : Sp := fun vs H Q E => ∃ x, vs = [x, .ref fC] ∧ ThC K H x ∧ ∀ H', aB H H' → Q (.bl (picCB H x)) H'
noncomputable def cr (rws : List (List (C4))) : List (List V) := rws.map fun r => r.map (fun c : C4 => V.ref c.1)
structure eG (H : Hp) (a : Addr) (ps : List Addr) (rws : List (List (C4))) : Prop where
 pic : bx H a ps (cr rws)
 col : ∀ r ∈ rws, ∀ d ∈ r, iM H d.1 d.2.1 d.2.2.1 d.2.2.2
structure GoodC (rws : List (List (C4))) (w : Nat) : Prop where
 ne : 1 ≤ rws.length
 le : rws.length ≤ 24
 w1 : 1 ≤ w
 w24 : w ≤ 24
 row : ∀ r ∈ rws, r.length = w
theorem eG.mono {H H' : Hp} {a : Addr} {ps : List Addr} {rws : List (List (C4))} (p : eG H a ps rws) (s : aB H H') : eG H' a ps rws := ⟨p.pic.mono s, fun r hr d hd => (p.col r hr d hd).mono s⟩
noncomputable def fG (c : List (C4)) (d : C4) : List (C4) := if (c.findIdx? (isC d.2.1 d.2.2.1 d.2.2.2)).isSome then c else c ++ [d]
noncomputable def aG (c ds : List (C4)) : List (C4) := ds.foldl fG c
noncomputable def idx (c : List (C4)) (d : C4) : Nat := (c.findIdx? (isC d.2.1 d.2.2.1 d.2.2.2)).getD 0
theorem addC_pre (c : List (C4)) (d : C4) : ∃ e, fG c d = c ++ e := by
 unfold fG
 split
 ·exact ⟨[], by simp⟩
 ·exact ⟨[d], rfl⟩
theorem pour_pre : ∀ (ds c : List (C4)), ∃ e, aG c ds = c ++ e
 | [], c => ⟨[], by simp [aG]⟩
 | d :: ds, c => by
  obtain ⟨e1, h1⟩ := addC_pre c d
  obtain ⟨e2, h2⟩ := pour_pre ds (fG c d)
  exact ⟨e1 ++ e2, by show aG (fG c d) ds = _; rw [h2, h1, List.append_assoc]⟩
theorem find_pre {c e : List (C4)} {p : C4 → Bool} {j : Nat} (h : c.findIdx? p = some j) : (c ++ e).findIdx? p = some j := by rw [List.findIdx?_append, h]; rfl
theorem find_new {c : List (C4)} {d : C4} (h : c.findIdx? (isC d.2.1 d.2.2.1 d.2.2.2) = none) : (c ++ [d]).findIdx? (isC d.2.1 d.2.2.1 d.2.2.2) = some c.length := by
 rw [List.findIdx?_append, h]
 have : isC d.2.1 d.2.2.1 d.2.2.2 d = true := by unfold isC; exact decide_eq_true rfl
 simp [List.findIdx?_cons, this]
theorem addC_find (c : List (C4)) (d : C4) : ∃ j, (fG c d).findIdx? (isC d.2.1 d.2.2.1 d.2.2.2) = some j := by
 unfold fG
 cases h : c.findIdx? (isC d.2.1 d.2.2.1 d.2.2.2) with
 | some j => exact ⟨j, by simp [h]⟩
 | none => exact ⟨c.length, by simpa using find_new h⟩
theorem pour_snoc (c ds : List (C4)) (d : C4) : aG c (ds ++ [d]) = fG (aG c ds) d := by unfold aG; rw [List.foldl_append]; rfl
theorem pour_take (c ds : List (C4)) (i : Nat) : ∃ e, aG c ds = aG c (ds.take i) ++ e := by
 obtain ⟨e, h⟩ := pour_pre (ds.drop i) (aG c (ds.take i))
 refine ⟨e, ?_⟩
 rw [← h]
 unfold aG
 rw [← List.foldl_append, List.take_append_drop]
theorem pour_mem : ∀ (ds c : List (C4)) (x : C4), x ∈ aG c ds → x ∈ c ∨ x ∈ ds
 | [], c, x, h => .inl h
 | d :: ds, c, x, h => by
  rcases pour_mem ds (fG c d) x h with q | q
  ·unfold fG at q
   split at q
   ·exact .inl q
   ·rcases List.mem_append.mp q with q | q
    ·exact .inl q
    ·rw [List.mem_singleton.mp q]; exact .inr List.mem_cons_self
  ·exact .inr (List.mem_cons_of_mem _ q)
noncomputable def Fr0 (x : Addr) (H H' : Hp) : Prop := ∀ b o, H b = some o → b ≠ x → H' b = some o
theorem Fr0.oth {x : Addr} {H H' : Hp} {b : Addr} {o : HO} {ys : List V} (f : Fr0 x H H') (l : H x = some (.lst ys)) (h : H b = some o) (d : ∀ ys, o ≠ .lst ys) : H' b = some o :=
 f b o h fun z => by rw [z, l] at h; exact d ys (Option.some.inj h).symm
theorem Fr0.col {x : Addr} {H H' : Hp} {a : Addr} {r g b : Nat} {ys : List V} (f : Fr0 x H H') (l : H x = some (.lst ys)) (c : iM H a r g b) : iM H' a r g b := ⟨f.oth l c.top (fun ys z => by cases z), c.lr, c.lg, c.lb⟩
theorem Fr0.cols {x : Addr} {H H' : Hp} {a : Addr} {cs : List (C4)} {ys : List V} (f : Fr0 x H H') (l : H x = some (.lst ys)) (v : bF H a cs) (n : a ≠ x) : bF H' a cs := ⟨f a _ v.1 n, fun c hc => f.col l (v.2 c hc)⟩
theorem Fr0.pal {x : Addr} {H H' : Hp} {cL p q : Addr} {cs : List (C4)} {ys : List V} (f : Fr0 x H H') (l : H x = some (.lst ys)) (v : jd cL H p q cs) (n : q ≠ x) : jd cL H' p q cs := by
 obtain ⟨⟨dx, h⟩, c⟩ := v
 exact ⟨⟨dx, f.oth l h (fun ys z => by cases z)⟩, f.cols l c n⟩
noncomputable def ixR (C : List (C4)) (rws : List (List (C4))) : List (List V) := rws.map fun r => r.map fun d => V.int (idx C d : Int)
noncomputable def spTaken (K : W.Frag) (cB cM cL : Addr) : Sp := fun vs H Q E => ∃ v, vs = [v] ∧ ((BadC K H v ∧ ∀ H', aB H H' → E (.ref cB) none H') ∨ ∃ a ps rws wd, v = .ref a ∧ eG H a ps rws ∧ GoodC rws wd ∧
 ((aG [] rws.flatten).length ≤ 16 → ∀ t p l q qs H', aB H H' → H t = none → H p = none → H l = none → H q = none → Fresh H qs → jd cL H' p l (aG [] rws.flatten) → bx H' q qs (ixR (aG [] rws.flatten) rws) → l ∉ q :: qs → H' t = some (.tup [.ref p, .ref q]) → Q (.ref t) H') ∧
 (16 < (aG [] rws.flatten).length → ∀ H', aB H H' → E (.ref cM) none H'))
section
variable {K : W.Frag} {H H' : Hp} {v : V}
theorem bF.tc {a : Addr} {cs : List (C4)} (w : bF H a cs) : ∀ x ∈ cs.map (fun c => V.ref c.1), TC K H x := fun x hx => by
 obtain ⟨c, hc, rfl⟩ := List.mem_map.mp hx
 exact (w.2 c hc).tc
end
theorem bF.tm {K : W.Frag} {H : Hp} {a : Addr} {cs : List (C4)} (w : bF H a cs) (hl : cs.length ≤ 1000000) : TM K H (.ref a) :=
 ⟨.lst w.1, fun ys h => (by rw [aH w.1] at h; cases h; rw [List.length_map]; exact hl), fun ys h => (by rw [aH w.1] at h; cases h; exact w.tc)⟩
theorem eG.row {H : Hp} {a : Addr} {ps : List Addr} {rws : List (List (C4))} (p : eG H a ps rws) {i : Nat} {q : Addr} (hq : ps[i]? = some q) : ∃ r, rws[i]? = some r ∧ H q = some (.lst (r.map (fun c : C4 => V.ref c.1))) := by
 obtain ⟨r', h1, h2⟩ := p.pic.at hq
 unfold cr at h1
 rw [List.getElem?_map] at h1
 cases h : rws[i]? with
 | none => rw [h] at h1; cases h1
 | some r => rw [h] at h1; cases h1; exact ⟨r, rfl, h2⟩
theorem eG.len {H : Hp} {a : Addr} {ps : List Addr} {rws : List (List (C4))} (p : eG H a ps rws) : ps.length = rws.length := by rw [p.pic.len]; unfold cr; rw [List.length_map]
theorem picC_good {K : W.Frag} {H : Hp} {a : Addr} {ps : List Addr} {rws : List (List (C4))} {wd : Nat} (p : eG H a ps rws) (g : GoodC rws wd) : ThC K H (.ref a) ∧ picCB H (.ref a) = true := by
 have hl := p.len
 have row : ∀ x ∈ ps.map V.ref, ∃ q r, x = .ref q ∧ r ∈ rws ∧ H q = some (.lst (r.map (fun c : C4 => V.ref c.1))) := fun x hx => by
  obtain ⟨q, hq, rfl⟩ := List.mem_map.mp hx
  obtain ⟨i, hi⟩ := List.getElem?_of_mem hq
  obtain ⟨r, hr, e⟩ := p.row hi
  exact ⟨q, r, rfl, List.mem_of_getElem? hr, e⟩
 have le : ∀ x ∈ ps.map V.ref, lenOf H x = wd := fun x hx => by
  obtain ⟨q, r, rfl, hr, e⟩ := row x hx
  unfold lenOf; rw [aH e]; dsimp only
  rw [List.length_map]; exact g.row r hr
 refine ⟨⟨.lst p.pic.top, fun xs h => ?_, fun xs h x hx => ?_⟩, ?_⟩
 ·rw [aH p.pic.top] at h; cases h
  rw [List.length_map, hl]; have := g.le; omega
 ·rw [aH p.pic.top] at h; cases h
  obtain ⟨q, r, rfl, hr, e⟩ := row x hx
  refine ⟨.lst e, fun ys h => ?_, fun ys h y hy => ?_⟩
  ·rw [aH e] at h; cases h
   rw [List.length_map, g.row r hr]; have := g.w24; omega
  ·rw [aH e] at h; cases h
   obtain ⟨d, hd, rfl⟩ := List.mem_map.mp hy
   exact (p.col r hr d hd).tc
 ·unfold picCB
  rw [aH p.pic.top]
  dsimp only
  rw [Bool.and_eq_true, Bool.and_eq_true]
  refine ⟨wh_len (by rw [List.length_map, hl]; exact g.ne) (by rw [List.length_map, hl]; exact g.le), List.all_eq_true.mpr fun x hx => ?_, List.all_eq_true.mpr fun x hx => decide_eq_true ?_⟩
  ·obtain ⟨q, r, rfl, hr, e⟩ := row x hx
   unfold jf; rw [aH e]; dsimp only; unfold rowCB
   rw [Bool.and_eq_true]
   refine ⟨List.all_eq_true.mpr fun y hy => ?_, wh_len (by rw [List.length_map, g.row r hr]; exact g.w1) (by rw [List.length_map, g.row r hr]; exact g.w24)⟩
   obtain ⟨d, hd, rfl⟩ := List.mem_map.mp hy
   exact (p.col r hr d hd).yes
  ·rw [le x hx]
   cases hps : ps.map V.ref with
   | nil => rw [hps] at hx; cases hx
   | cons z r => show wd = lenOf H z; rw [le z (by rw [hps]; exact List.mem_cons_self)]
section
variable {P : Program} {w : World} {K : W.Frag} {mg : Str → Option Value} {base : Heap} {cFE cC cN cM cP cL cB cD cZ : Addr} {tP tS tC tI : Tok}
theorem ok_are_rows_of_col {fC f : Addr} {fd : FuncData} (F : bI K "are_rows_of" "are_rows_of" bC .none f fd) (T : Txt K mg cFE cC cN cM cP cL cB cD cZ tP tS tC tI) (g_is_list_of : iR P w K mg base 4 "is_list_of" ["thing", "is_one"] [] (spLocC K fC)) (g_is_side : iR P w K mg base 3 "is_side" ["thing"] [] (spSide K)) : bB P w K mg base gh 5 f fd ["thing", "is_one"] (spPicFC K fC) := by
 refine F.ok sc_are_rows_of (fun vs H Q E h => ?_) (fun cdv A outer s H vs Q E hr h => ?_)
 ·obtain ⟨x, rfl, _⟩ := h; rfl
 ·obtain ⟨x, rfl, th, k⟩ := h
  refine ⟨_, (au (bK (PW.pt (iw (bW (bH (isiK K rfl (pv 0) rfl T.isinstance rfl T.list PyProof.Rows.boot_list))) (gQ (bW (bH (aD g_is_side (hr.mono (by decide)) rfl (aa (aN (lenK K rfl) rfl T.len PySem.boot_len (aa (pv 0) aj)) aj))))))) (aA (aM fj)) aV)
    (au (bK (bW (bH (aN (allK K rfl rfl) rfl T.all PyProof.Rows.boot_all (aa (bG (N := ["row", "is_one"]) (src := [none, some 1]) rfl ⟨rfl, rfl, rfl, rfl, rfl, by decide +kernel⟩ (piK K rfl (pv 0)) (fun s H C fp => aP (i := 0) (show (["row", "is_one"] : List Str).Nodup by decide +kernel) rfl (.inl rfl)) (fun s H C fp => bh) (fun s H C fp => (pe_and (aD g_is_list_of (hr.mono (by decide)) rfl (aa (pv 0) (aa (pv 1) aj))) (pe_one (aD g_is_side (hr.mono (by decide)) rfl (aa (aN (lenK K rfl) rfl T.len PySem.boot_len (aa (pv 0) aj)) aj)))))) aj)))) (aA (aM fj)) aV)
    (aA (aM (aN (allK K rfl rfl) rfl T.all PyProof.Rows.boot_all (aa (bG (N := ["row", "thing"]) (src := [none, some 0]) rfl ⟨rfl, rfl, rfl, rfl, rfl, by decide +kernel⟩ (piK K rfl (pv 0)) (fun s H C fp => aP (i := 0) (show (["row", "thing"] : List Str).Nodup by decide +kernel) rfl (.inl rfl)) (fun s H C fp => bh) (fun s H C fp => (gW op_eq (aN (lenK K rfl) rfl T.len PySem.boot_len (aa (pv 0) aj)) (aN (lenK K rfl) rfl T.len PySem.boot_len (aa (bM (ixK K rfl) (pv 1) aq (fun _ _ => rfl)) aj)) (bA _)))) aj)))))), ?_⟩
  cases hx : rowOf H x with
  | none =>
   have ek : picCB H x = false := by unfold picCB; rw [hx]
   rw [ek] at k
   refine ⟨_, rfl, _, th.kd.isList, _, rfl, ?_⟩
   rw [isL_row th.kd, hx]
   exact k H (aB.refl H)
  | some xs =>
   obtain ⟨a, rfl, e⟩ := fQ hx
   have ek : picCB H (.ref a) = (bU 1 24 (.int (xs.length : Int)) && (xs.all (jf H) && xs.all fun x => decide (lenOf H x = lenOf H (xs.headD .non)))) := by unfold picCB; rw [hx]
   rw [ek] at k
   have hz : xs.length ≤ sizeLine := Nat.le_trans (th.len xs hx) (by decide)
   refine ⟨_, rfl, true, gj e, _, rfl, ⟨_, rfl, a, _, rfl, .inl (aU.of e), _, rfl, .int _, _, rfl, iteN (fun h1 => ?_) (fun h1 => ?_)⟩⟩
   ·rw [h1, Bool.false_and] at k
    exact k H (aB.refl H)
   rw [h1, Bool.true_and] at k
   refine ⟨_, rfl, a, rfl, ⟨_, aU.of e⟩, fun D hD => ?_⟩
   refine cU (k := 0) (fun y => .bl (jf H y)) (fun _ => true) (src_list (aU.of e)) hz hD (fun x _ H' Qb _ kk => kk H' (aB.refl _)) (fun y hy _ H' Q' sm kk => ?_) fun H1 s1 hD1 => ?_
   ·have r1 := th.it xs hx y hy
    have r2 := r1.mono sm
    have k2 : ∀ H2, aB H' H2 → Q' (.bl (jf H' y)) H2 := fun H2 s2 => by rw [rowQC_mono r1 sm]; exact kk H2 s2
    refine ⟨_, rfl, _, rfl, y, rfl, ?_⟩
    cases hr0 : rowOf H' y with
    | none =>
     refine .inr ⟨r2.kd, by rw [isL_row r2.kd, hr0]; rfl, _, rfl, ?_⟩
     have := k2 H' (aB.refl H')
     unfold jf at this
     rw [hr0] at this
     exact this
    | some ys =>
     obtain ⟨b, rfl, e2⟩ := fQ hr0
     have ek : jf H' (.ref b) = rowCB H' ys := by unfold jf; rw [hr0]
     refine .inl ⟨b, ys, rfl, e2, Nat.le_trans (r2.len ys hr0) (by decide), r2.it ys hr0, fun H1 s1 => ⟨_, rfl, iteB (fun h1 => ?_) (fun h1 => ?_)⟩⟩
     ·refine ⟨_, rfl, b, _, rfl, .inl (aU.of (s1 _ _ e2)), _, rfl, .int _, ?_⟩
      have := k2 H1 s1
      rw [ek] at this
      unfold rowCB at this
      rw [h1, Bool.true_and] at this
      exact this
     ·have := k2 H1 s1
      rw [ek] at this
      unfold rowCB at this
      rw [h1, Bool.false_and] at this
      exact this
   refine ⟨D, xs.map (jf H), rfl, aU.of (by rw [hD1, cR, List.map_map]; rfl), _, rfl, ?_⟩
   rw [fL]
   refine iteN (fun h2 => ?_) (fun h2 => ?_)
   ·rw [h2, Bool.false_and] at k
    exact k H1 s1
   rw [h2, Bool.true_and] at k
   have hpos : 0 < xs.length := by
    obtain ⟨n, en, n1, _⟩ := wh_side h1
    injection en with en
    omega
   have lst : ∀ y ∈ xs, ∃ b ys, y = .ref b ∧ H b = some (.lst ys) ∧ lenOf H y = ys.length := fun y hy => by
    have q := List.all_eq_true.mp h2 y hy
    unfold jf at q
    cases hy2 : rowOf H y with
    | none => rw [hy2] at q; cases q
    | some ys =>
     obtain ⟨b, rfl, e2⟩ := fQ hy2
     exact ⟨b, ys, rfl, e2, by unfold lenOf; rw [hy2]⟩
   obtain ⟨b0, y0, eh, e0, l0⟩ := lst (xs.headD .non) (by cases xs with | nil => simp at hpos | cons z r => exact List.mem_cons_self)
   refine ⟨_, rfl, a, rfl, ⟨_, aU.of (s1 _ _ e)⟩, fun D2 hD2 => ?_⟩
   refine cU (k := 0) (fun y => .bl (decide (lenOf H y = lenOf H (xs.headD .non)))) (fun _ => true) (src_list (aU.of (s1 _ _ e))) hz hD2 (fun x _ H' Qb _ kk => kk H' (aB.refl _)) (fun y hy _ H' Q' sm kk => ?_) fun H2 s2 hD2' => ?_
   ·have sm2 := s1.trans sm
    obtain ⟨b, ys, rfl, e2, l2⟩ := lst y hy
    refine ⟨_, rfl, b, _, rfl, .inl (aU.of (sm2 _ _ e2)), _, rfl, a, _, _, _, rfl, rfl, aU.of (sm2 _ _ e), aW (j := 0) (head_at hpos), b0, _, eh ▸ rfl, .inl (aU.of (sm2 _ _ e0)), rfl, ?_⟩
    have ed : decide (V.int (ys.length : Int) = V.int (y0.length : Int)) = decide (lenOf H (.ref b) = lenOf H (xs.headD .non)) := by
     rw [l2, l0, dec_int, Bool.eq_iff_iff]
     simp
     omega
    rw [ed]
    exact kk H' (aB.refl _)
   ·refine ⟨D2, xs.map fun y => decide (lenOf H y = lenOf H (xs.headD .non)), rfl, aU.of (by rw [hD2', cR, List.map_map]; rfl), ?_⟩
    rw [fL]
    exact k H2 (s1.trans s2)
end
theorem eq_self {K : W.Frag} {H : Hp} {xs : List V} (hf : ∀ x ∈ xs, (∃ a, x = .ref a) ∨ gM x = true) (i : Nat) (x y : V) (hx : xs[i]? = some x) (hy : xs[i]? = some y) : EqD K H 0 x y true := by
 rw [hx] at hy; cases hy
 rcases hf x (List.mem_of_getElem? hx) with ⟨a, rfl⟩ | h
 ·exact .inl ⟨a, rfl, rfl, rfl⟩
 ·exact .inr ⟨h, h, by cases x <;> simp_all [eqV, gM]⟩
theorem iH {K : W.Frag} {H : Hp} {t u : Addr} {xs : List V} (e1 : H t = some (.tup xs)) (e2 : H u = some (.tup xs)) (hf : ∀ x ∈ xs, (∃ a, x = .ref a) ∨ gM x = true) : EqL K H (EqD K H 0) t u true :=
 ⟨_, _, .inr ⟨.inr ⟨dC.of e1, dC.of e2⟩, rfl, fun _ => true, fun i x y hx hy => eq_self hf i x y hx hy, by simp⟩⟩
theorem eq_lsts {K : W.Frag} {H : Hp} {t u : Addr} {xs : List V} (e1 : H t = some (.lst xs)) (e2 : H u = some (.lst xs)) (hf : ∀ x ∈ xs, (∃ a, x = .ref a) ∨ gM x = true) : EqL K H (EqD K H 0) t u true :=
 ⟨_, _, .inr ⟨.inl ⟨aU.of e1, aU.of e2⟩, rfl, fun _ => true, fun i x y hx hy => eq_self hf i x y hx hy, by simp⟩⟩
theorem refs_flat {cs : List (C4)} : ∀ x ∈ (cs.map fun c => V.ref c.1), (∃ a, x = .ref a) ∨ gM x = true := fun x hx => by
 obtain ⟨c, _, rfl⟩ := List.mem_map.mp hx
 exact .inl ⟨_, rfl⟩
noncomputable def spSize : Sp := fun vs H Q _ => ∃ n : Nat, vs = [.int (n : Int)] ∧ ∀ (t : Addr) (w h : Nat) H', aB H H' → H t = none → H' t = some (.tup [.int (w : Int), .int (h : Int)]) → 1 ≤ w → w ≤ 24 → 1 ≤ h → h ≤ 24 → Q (.ref t) H'
noncomputable def spLPic (K : W.Frag) : Sp := fun vs H Q _ => ∃ (a : Addr) (ns : List Int) (k m : Nat), vs = [.ref a, .int (k : Int), .int (m : Int)] ∧ aU K H a (ns.map V.int) ∧ k ≤ 100 ∧ 1 ≤ m ∧ m ≤ 16 ∧ ∀ p ps rows wd H', aB H H' → H p = none → Fresh H ps → bx H' p ps (ir rows) → Good rows wd → (∀ r ∈ rows, ∀ c ∈ r, c < (m : Int)) → Q (.ref p) H'
noncomputable def spCop : Sp := fun vs H Q _ => ∃ (a : Addr) (ps : List Addr) (R : List (List V)), vs = [.ref a] ∧ bx H a ps R ∧ R.length ≤ 1000 ∧ ∀ q qs H', aB H H' → H q = none → Fresh H qs → bx H' q qs R → Q (.ref q) H'
noncomputable def RowsEq (K : W.Frag) (H : Hp) (R S : List (List V)) : Prop := R.length = S.length ∧ ∀ (i : Nat) r s, R[i]? = some r → S[i]? = some s → r.length = s.length ∧ ∀ (j : Nat) x y, r[j]? = some x → s[j]? = some y → EqD K H 1 x y true
noncomputable def spRG (K : W.Frag) : Sp := fun vs H Q _ => ∃ (f d : Addr) (ps qs : List Addr) (R S : List (List V)), vs = [.ref f, .ref d] ∧ bx H f ps R ∧ bx H d qs S ∧ R.length ≤ 1000 ∧ RowsEq K H R S ∧ ∀ H', aB H H' → Q (.bl true) H'
theorem eqD_up {K : W.Frag} {H : Hp} {n : Nat} {x y : V} {b : Bool} (h : EqD K H n x y b) : EqD K H (n + 1) x y b := .inl h
theorem eq_pics {K : W.Frag} {H : Hp} {f d : Addr} {ps qs : List Addr} {R S : List (List V)} (pf : bx H f ps R) (pd : bx H d qs S) (e : RowsEq K H R S) : EqL K H (EqD K H 2) f d true := by
 have l1 := pf.len
 have l2 := pd.len
 have l3 := e.1
 refine ⟨_, _, .inr ⟨.inl ⟨aU.of pf.top, aU.of pd.top⟩, by rw [List.length_map, List.length_map]; omega, fun _ => true, fun i x y hx hy => ?_, by simp⟩⟩
 obtain ⟨p, hp, rfl⟩ := getElem?_ref hx
 obtain ⟨q, hq, rfl⟩ := getElem?_ref hy
 obtain ⟨r, hr, er⟩ := pf.at hp
 obtain ⟨s, hs, es⟩ := pd.at hq
 obtain ⟨hl, hh⟩ := e.2 i r s hr hs
 by_cases hpq : p = q
 ·subst hpq
  exact .inl (.inl (.inl ⟨p, rfl, rfl, rfl⟩))
 ·exact .inr ⟨p, q, rfl, rfl, hpq, _, _, .inr ⟨.inl ⟨aU.of er, aU.of es⟩, hl, fun _ => true, fun j x y hx hy => hh j x y hx hy, by simp⟩⟩
theorem jg {K : W.Frag} {H : Hp} {R : List (List V)} (hf : ∀ r ∈ R, ∀ x ∈ r, (∃ a, x = .ref a) ∨ gM x = true) : RowsEq K H R R := ⟨rfl, fun i r s hr hs => by
 rw [hr] at hs; cases hs
 exact ⟨rfl, fun j x y hx hy => eqD_up (eq_self (hf r (List.mem_of_getElem? hr)) j x y hx hy)⟩⟩
theorem eqL_mono {K : W.Frag} {H H' : Hp} {rec rec' : V → V → Bool → Prop} {p q : Addr} {b : Bool} (hr : ∀ x y b, rec x y b → rec' x y b) (e : EqL K H rec p q b) (s : aB H H') : EqL K H' rec' p q b := by
 obtain ⟨xs, ys, h⟩ := e
 refine ⟨xs, ys, ?_⟩
 rcases h with ⟨a, b', c, d⟩ | ⟨a, c, f, d, g⟩
 ·exact .inl ⟨s.seq a, s.seq b', c, d⟩
 ·refine .inr ⟨?_, c, f, fun i x y hx hy => hr _ _ _ (d i x y hx hy), g⟩
  rcases a with ⟨a, b'⟩ | ⟨a, b'⟩
  ·exact .inl ⟨s.seq a, s.seq b'⟩
  ·exact .inr ⟨s.seqT a, s.seqT b'⟩
theorem eqD_mono {K : W.Frag} {H H' : Hp} : ∀ {n : Nat} {x y : V} {b : Bool}, EqD K H n x y b → aB H H' → EqD K H' n x y b
 | 0, _, _, _, h, _ => h
 | n + 1, _, _, _, .inl h, s => .inl (eqD_mono h s)
 | n + 1, _, _, _, .inr ⟨p, q, e1, e2, ne, e⟩, s => .inr ⟨p, q, e1, e2, ne, eqL_mono (fun _ _ _ h => eqD_mono h s) e s⟩
theorem ir_flat {R : List (List Int)} : ∀ r ∈ ir R, ∀ x ∈ r, (∃ a, x = .ref a) ∨ gM x = true := fun r hr x hx => by
 obtain ⟨ns, _, rfl⟩ := List.mem_map.mp hr
 obtain ⟨n, _, rfl⟩ := List.mem_map.mp hx
 exact .inr rfl
theorem map_pair {H1 : Hp} {g : V → List V} {φ : List V → List V} (hg : ∀ q r, H1 q = some (.lst r) → g (.ref q) = φ r) : ∀ (qs : List Addr) (R : List (List V)), Paired (fun p r => H1 p = some (.lst r)) qs R → (qs.map V.ref).map g = R.map φ
 | [], [], _ => rfl
 | [], _ :: _, h => nomatch h
 | _ :: _, [], h => nomatch h
 | q :: qs, r :: R, h => by
  cases h with
  | cons e1 h2 => rw [List.map_cons, List.map_cons, List.map_cons, map_pair hg qs R h2, hg q r e1]
section
variable {P : Program} {w : World} {K : W.Frag} {mg : Str → Option Value} {base : Heap} {cFE cC cN cM cP cL cB cD cZ : Addr} {tP tS tC tI : Tok}
theorem sc_law_size : aO ["_law_number"] ["_law_number"] (ao gr) := ⟨rfl, rfl, rfl, by decide +kernel, rfl, by decide +kernel, by decide +kernel⟩
theorem ok_law_size {f : Addr} {fd : FuncData} (F : bI K "_law_size" "_law_size" gr .none f fd) (T : Txt K mg cFE cC cN cM cP cL cB cD cZ tP tS tC tI) : bB P w K mg base gh 1 f fd ["_law_number"] (spSize) := by
 refine F.ok sc_law_size (fun vs H Q E h => ?_) (fun cdv A outer s H vs Q E hr h => ?_)
 ·obtain ⟨n, rfl, _⟩ := h; rfl
 ·obtain ⟨n, rfl, k⟩ := h
  refine ⟨_, (au (bK (bj op_eq (aC bf (aC bz (pv 0) aq) aq) aq (bA _)) (aA (aM (bD (aa (aC cj aq (aC bf (aC bz (pv 0) aq) aq)) (aa (aC cj aq (aC bf (pv 0) aq)) aj))))) aV)
    (au (bK (bj op_eq (aC bf (aC bz (pv 0) aq) aq) aq (bA _)) (aA (aM (bD (aa (aC cj aq (aC bf (pv 0) aq)) (aa (aC cj aq (aC bf (aC bz (pv 0) aq) aq)) aj))))) aV)
    (aA (aM (bD (aa (aC cj aq (aC bf (pv 0) aq)) (aa (aC cj aq (aC bf (aC bz (pv 0) aq) aq)) aj))))))), ?_⟩
  have fin : ∀ (x y : Int) (w h : Nat), x = (w : Int) → y = (h : Int) → 1 ≤ w → w ≤ 24 → 1 ≤ h → h ≤ 24 → ∀ t, H t = none → Q (.ref t) (upd H t (.tup [.int x, .int y])) := fun x y w h e1 e2 a b c d t ht => by
   subst e1; subst e2
   exact k t w h _ (az ht) ht ak a b c d
  refine ⟨_, rfl, _, _, rfl, rfl, ⟨by decide, by decide⟩, _, _, rfl, rfl, (by show (0 : Int) < 8; decide), rfl, _, rfl, ite2 (fun _ => ?_) (fun _ => ?_)⟩
  ·exact ⟨_, rfl, _, _, rfl, rfl, ⟨by decide, by decide⟩, _, _, rfl, rfl, (by show (0 : Int) < 24; decide), _, _, rfl, rfl, _, rfl, _, _, rfl, rfl, (by show (0 : Int) < 2; decide), _, _, rfl, rfl, sz2, fin _ _ (1 + n / 288 % 24) (1 + n % 2) (by omega) (by omega) (by omega) (by omega) (by omega) (by omega)⟩
  refine ⟨_, rfl, _, _, rfl, rfl, ⟨by decide, by decide⟩, _, _, rfl, rfl, (by show (0 : Int) < 8; decide), rfl, _, rfl, ite2 (fun _ => ?_) (fun _ => ?_)⟩
  ·exact ⟨_, rfl, _, _, rfl, rfl, (by show (0 : Int) < 2; decide), _, _, rfl, rfl, _, rfl, _, _, rfl, rfl, ⟨by decide, by decide⟩, _, _, rfl, rfl, (by show (0 : Int) < 24; decide), _, _, rfl, rfl, sz2, fin _ _ (1 + n % 2) (1 + n / 288 % 24) (by omega) (by omega) (by omega) (by omega) (by omega) (by omega)⟩
  ·exact ⟨_, rfl, _, _, rfl, rfl, (by show (0 : Int) < 6; decide), _, _, rfl, rfl, _, rfl, _, _, rfl, rfl, ⟨by decide, by decide⟩, _, _, rfl, rfl, (by show (0 : Int) < 6; decide), _, _, rfl, rfl, sz2, fin _ _ (1 + n % 6) (1 + n / 6 % 6) (by omega) (by omega) (by omega) (by omega) (by omega) (by omega)⟩
theorem sc_law_copied : aO ["_law_rows"] ["_law_rows"] (ao eH) := ⟨rfl, rfl, rfl, by decide +kernel, rfl, by decide +kernel, by decide +kernel⟩
theorem ok_law_copied {f : Addr} {fd : FuncData} (F : bI K "_law_copied" "_law_copied" eH .none f fd) (T : Txt K mg cFE cC cN cM cP cL cB cD cZ tP tS tC tI) : bB P w K mg base gh 1 f fd ["_law_rows"] (spCop) := by
 refine F.ok sc_law_copied (fun vs H Q E h => ?_) (fun cdv A outer s H vs Q E hr h => ?_)
 ·obtain ⟨a, ps, R, rfl, _⟩ := h; rfl
 ·obtain ⟨a, ps, R, rfl, pic, hl, k⟩ := h
  refine ⟨_, (aA (aM (bG (N := ["_law_row"]) (src := [none]) rfl ⟨rfl, rfl, rfl, rfl, rfl, by decide +kernel⟩ (piK K rfl (pv 0)) (fun s H C fp => aP (i := 0) (show (["_law_row"] : List Str).Nodup by decide +kernel) rfl (.inl rfl)) (fun s H C fp => bh) (fun s H C fp => (cQ (listK K rfl) rfl T.list PyProof.Rows.boot_list (aa (pv 0) aj)))))), ?_⟩
  refine ⟨_, rfl, a, rfl, ⟨_, aU.of pic.top⟩, fun D hD => ?_⟩
  refine ie (k := 0) (fun x => (rowOf H x).getD []) (src_list (aU.of pic.top)) (by rw [List.length_map, pic.len]; exact Nat.le_trans hl (by decide)) hD (fun x hx H' Q' sm kk => ?_) fun qs H2 s2 fq pv => ?_
  ·obtain ⟨q, hq, rfl⟩ := List.mem_map.mp hx
   obtain ⟨r, _, er⟩ := pic.mem hq
   rw [aH er] at kk
   exact ⟨_, rfl, q, _, rfl, .inl (aU.of (sm _ _ er)), fun l hl => kk l _ (az hl) hl ak⟩
  ·rw [map_pair (φ := id) (fun q r e => by rw [aH e]; rfl) ps R pic.row, List.map_id] at pv
   exact k D qs H2 s2 hD fq pv
theorem sc_law_rows_good : aO ["_law_found", "_law_due"] ["_law_found", "_law_due"] (ao cV) := ⟨rfl, rfl, rfl, by decide +kernel, rfl, by decide +kernel, by decide +kernel⟩
theorem ok_law_rows_good {f : Addr} {fd : FuncData} (F : bI K "_law_rows_good" "_law_rows_good" cV .none f fd) (T : Txt K mg cFE cC cN cM cP cL cB cD cZ tP tS tC tI) : bB P w K mg base gh 1 f fd ["_law_found", "_law_due"] (spRG K) := by
 refine F.ok sc_law_rows_good (fun vs H Q E h => ?_) (fun cdv A outer s H vs Q E hr h => ?_)
 ·obtain ⟨f, d, ps, qs, R, S, rfl, _⟩ := h; rfl
 ·obtain ⟨f, d, ps, qs, R, S, rfl, pf, pd, hl, e, k⟩ := h
  have hu : _ + 64 < cLine := hr.units
  refine ⟨_, (au (bK (PW.pt (iw (bW (bH (isiK K rfl (pv 0) rfl T.isinstance rfl T.list PyProof.Rows.boot_list))) (gQ (bW (bH (aN (allK K rfl rfl) rfl T.all PyProof.Rows.boot_all (aa (bG (N := ["_law_row"]) (src := [none]) rfl ⟨rfl, rfl, rfl, rfl, rfl, by decide +kernel⟩ (piK K rfl (pv 0)) (fun s H C fp => aP (i := 0) (show (["_law_row"] : List Str).Nodup by decide +kernel) rfl (.inl rfl)) (fun s H C fp => bh) (fun s H C fp => (isiK K rfl (pv 0) rfl T.isinstance rfl T.list PyProof.Rows.boot_list))) aj))))))) (aA (aM fj)) aV)
    (aA (aM (gW (eqDK K rfl hu) (pv 0) (pv 1) (bA _))))), ?_⟩
  refine ⟨_, rfl, true, gj pf.top, _, rfl, ?_⟩
  refine ⟨_, rfl, f, rfl, ⟨_, aU.of pf.top⟩, fun D hD => ?_⟩
  refine cU (k := 0) (fun _ => .bl true) (fun _ => true) (src_list (aU.of pf.top)) (by rw [List.length_map, pf.len]; exact Nat.le_trans hl (by decide)) hD (fun x _ H' Qb _ kk => kk H' (aB.refl _)) (fun x hx _ H' Q' sm kk => ?_) fun H2 s2 hD2 => ?_
  ·obtain ⟨q, hq, rfl⟩ := List.mem_map.mp hx
   obtain ⟨r, _, er⟩ := pf.mem hq
   exact ⟨_, rfl, true, gj (sm _ _ er), kk H' (aB.refl _)⟩
  have eD : H2 D = some (.lst (((ps.map V.ref).map fun _ => true).map V.bl)) := by rw [hD2, cR]; simp only [List.map_map]; rfl
  refine ⟨D, _, rfl, aU.of eD, ?_⟩
  rw [all_rep]
  refine ⟨_, rfl, ?_⟩
  have e2 : RowsEq K H2 R S := ⟨e.1, fun i r s hr hs => ⟨(e.2 i r s hr hs).1, fun j x y hx hy => eqD_mono ((e.2 i r s hr hs).2 j x y hx hy) s2⟩⟩
  exact ⟨_, rfl, _, rfl, 2, f, d, true, by decide, rfl, rfl, eq_pics (pf.mono s2) (pd.mono s2) e2, k H2 s2⟩
end
theorem picPut {H : Hp} {a x : Addr} {ps : List Addr} {R : List (List V)} {o : HO} (p : bx H a ps R) (h1 : x ≠ a) (h2 : x ∉ ps) : bx (upd H x o) a ps R :=
 ⟨by rw [aJ h1.symm]; exact p.top, Paired.mapI p.row fun q r hq e => by rw [aJ (fun z => h2 (by rw [← z]; exact hq))]; exact e, p.nd, p.out⟩
theorem picSnoc {H : Hp} {a x : Addr} {ps : List Addr} {R : List (List V)} {r : List V} (p : bx H a ps R) (h1 : x ≠ a) (h2 : x ∉ ps) (e : H x = some (.lst r)) : bx (upd H a (.lst (ps.map V.ref ++ [.ref x]))) a (ps ++ [x]) (R ++ [r]) := by
 refine ⟨by rw [ak, List.map_append]; rfl, ?_, ?_, ?_⟩
 ·refine Paired.app (Paired.mapI p.row fun q r hq e => ?_) (.cons (by rw [aJ h1]; exact e) .nil)
  rw [aJ (fun z => p.out (by rw [← z]; exact hq))]; exact e
 ·refine List.nodup_append.mpr ⟨p.nd, by simp, fun u hu w hw => ?_⟩
  rw [List.mem_singleton.mp hw]
  exact fun z => h2 (by rw [← z]; exact hu)
 ·intro z
  rcases List.mem_append.mp z with z | z
  ·exact p.out z
  ·exact h1 (List.mem_singleton.mp z).symm
section
variable {P : Program} {w : World} {K : W.Frag} {mg : Str → Option Value} {base : Heap} {cFE cC cN cM cP cL cB cD cZ : Addr} {tP tS tC tI : Tok}
theorem bw : aO ["_law_script", "_law_first", "_law_many", "_law_number", "_law_wide", "_law_high", "_law_found", "_law_y", "_law_row", "_law_x", "_law_more", "_law_cell"] ["_law_script", "_law_first", "_law_many"] (ao dM) := ⟨rfl, rfl, rfl, by decide +kernel, rfl, by decide +kernel, by decide +kernel⟩
theorem ok_law_picture {f : Addr} {fd : FuncData} (F : bI K "_law_picture" "_law_picture" dM .none f fd) (T : Txt K mg cFE cC cN cM cP cL cB cD cZ tP tS tC tI) (g__law_draw : iR P w K mg base 1 "_law_draw" ["_law_script", "_law_k"] [] (spDraw K)) (g__law_size : iR P w K mg base 1 "_law_size" ["_law_number"] [] (spSize)) : bB P w K mg base gh 2 f fd ["_law_script", "_law_first", "_law_many"] (spLPic K) := by
 refine F.ok bw (fun vs H Q E h => ?_) (fun cdv A outer s H vs Q E hr h => ?_)
 ·obtain ⟨a, ns, k, m, rfl, _⟩ := h; rfl
 ·obtain ⟨a, ns, fk, m, rfl, hS, hk, m1, m16, k⟩ := h
  refine ⟨_, (au (aQ (i := 3) bw.nd rfl (.inl rfl) (aD g__law_draw (hr.mono (by decide)) rfl (aa (pv 0) (aa (pv 1) aj))))
    (au (ps_asg (aD g__law_size (hr.mono (by decide)) rfl (aa (aC bz (pv 3) aq) aj)) (pg_tup rfl (jb (aP (i := 4) bw.nd rfl (.inl rfl)) (jb (aP (i := 5) bw.nd rfl (.inl rfl)) pgs_nil))))
    (au (aQ (i := 6) bw.nd rfl (.inl rfl) (aZ aj))
    (au (ps_for PassesOwn.never rfl (fV rfl T.range (aa (pv 5) aj)) (aP (i := 7) bw.nd rfl (.inl rfl)) (au (aQ (i := 8) bw.nd rfl (.inl rfl) (aZ aj))
    (au (ps_for PassesOwn.never rfl (fV rfl T.range (aa (pv 4) aj)) (aP (i := 9) bw.nd rfl (.inl rfl)) (au (aQ (i := 10) bw.nd rfl (.inl rfl) (aD g__law_draw (hr.mono (by decide)) rfl (aa (pv 0) (aa (aC cj (aC cj (aC cj (pv 1) aq) (aC op_mul (pv 7) (pv 4))) (pv 9)) aj))))
    (au (aQ (i := 11) bw.nd rfl (.inl rfl) (aC bf (aC bz (pv 10) aq) (pv 2)))
    (au (bK (PW.pt (pw_and (bj op_eq (aC bf (pv 3) aq) aq (bA _)) (pw_and1 (bj op_gt (aC bf (pv 10) aq) aq (bA _))))) (aA (aQ (i := 11) bw.nd rfl (.inl rfl) (bM (ixK K rfl) (aZ (aa (aC bf (aC bz (pv 3) aq) (pv 2)) (aa (aC bf (aC bz (pv 3) aq) (pv 2)) aj))) (aC bf (pv 10) aq) (fun _ _ => rfl)))) aV)
    (aA (cz (pe_bm PySem.F.plainAttrs_list PySem.F.slot_list_append PySem.F.type_list_append cH (pv 8) (aa (pv 11) aj))))))))
    (aA (cz (pe_bm PySem.F.plainAttrs_list PySem.F.slot_list_append PySem.F.type_list_append cH (pv 6) (aa (pv 8) aj)))))))
    (aA (aM (pv 6))))))), ?_⟩
  refine ⟨_, rfl, _, rfl, a, ns, fk, rfl, hS, by omega, fun n H1 _ s1 => ?_⟩
  refine ⟨_, rfl, _, _, rfl, rfl, ⟨by decide, by decide⟩, n / 2, ?_, fun t w h H2 s2 ht et w1 w24 h1 h24 => ?_⟩
  ·show [V.int ((n : Int) / 2)] = _
   rw [show (n : Int) / 2 = ((n / 2 : Nat) : Int) by omega]
  refine ⟨t, _, rfl, dC.of et, rfl, _, _, rfl, _, _, rfl, rfl, ?_⟩
  have s12 := s1.trans s2
  refine ⟨sz0, fun fd' hfd => ?_⟩
  have hfH := s12.free hfd
  have z3 := az (o := HO.lst []) hfd
  refine ⟨_, rfl, (h : Int), rfl, by omega, by omega, ?_⟩
  refine for_range (lo := 0) (n := h) (fun i σ H3 => aB H H3 ∧ ∃ (ps : List Addr) (rows : List (List Int)) (v7 v8 v9 v10 v11 : Option V), σ = [some (.ref a), some (.int (fk : Int)), some (.int (m : Int)), some (.int (n : Int)), some (.int (w : Int)), some (.int (h : Int)), some (.ref fd'), v7, v8, v9, v10, v11] ∧ bx H3 fd' ps (ir rows) ∧ Fresh H ps ∧ rows.length = i ∧ ∀ r ∈ rows, r.length = w ∧ ∀ c ∈ r, 0 ≤ c ∧ c < (m : Int))
   ⟨s12.trans z3, [], [], none, none, none, none, none, rfl, ⟨ak, .nil, List.nodup_nil, by simp⟩, (fun q hq => nomatch hq), rfl, fun r hr => nomatch hr⟩ ?_ ?_
  ·rintro y σ H3 hy ⟨s3, ps, rows, v7, v8, v9, v10, v11, rfl, pic, fps, hrl, hrows⟩
   refine ⟨sz0, fun rw hrw => ?_⟩
   have hrwH := s3.free hrw
   have z4 := az (o := HO.lst []) hrw
   have hrf : rw ≠ fd' := (aK pic.top hrw).symm
   have hrp : rw ∉ ps := fun z => by
    obtain ⟨r, _, e⟩ := pic.mem z
    rw [hrw] at e; cases e
   refine ⟨_, rfl, (w : Int), rfl, by omega, by omega, ?_⟩
   refine for_range (lo := 0) (n := w) (fun i σ H5 => aB H H5 ∧ ∃ (r : List Int) (v9 v10 v11 : Option V), σ = [some (.ref a), some (.int (fk : Int)), some (.int (m : Int)), some (.int (n : Int)), some (.int (w : Int)), some (.int (h : Int)), some (.ref fd'), some (.int (0 + (y : Int))), some (.ref rw), v9, v10, v11] ∧ H5 rw = some (.lst (r.map V.int)) ∧ r.length = i ∧ (∀ c ∈ r, 0 ≤ c ∧ c < (m : Int)) ∧ bx H5 fd' ps (ir rows))
    ⟨s3.trans z4, [], v9, v10, v11, rfl, ak, rfl, (fun c hc => nomatch hc), pic.mono z4⟩ ?_ ?_
   ·rintro x σ H5 hx ⟨s5, r, v9, v10, v11, rfl, er, hl, hcs, pic⟩
    have hyw : y * w ≤ 23 * 24 := Nat.mul_le_mul (by omega) w24
    have ek : (fk : Int) + 1 + (0 + (y : Int)) * (w : Int) + (0 + (x : Int)) = ((fk + 1 + y * w + x : Nat) : Int) := by rw [Int.zero_add, Int.zero_add]; push_cast; rfl
    refine ⟨_, rfl, _, rfl, _, _, rfl, rfl, _, rfl, _, rfl, _, _, rfl, rfl, .inl ⟨by omega, by omega⟩, _, _, rfl, rfl, _, rfl, _, _, rfl, rfl, a, ns, fk + 1 + y * w + x, ?_, s5.seq hS, by omega, fun mr H6 _ s6 => ?_⟩
    ·show [V.ref a, .int ((fk : Int) + 1 + (0 + (y : Int)) * (w : Int) + (0 + (x : Int)))] = _
     rw [ek]
    have hm0 : ∀ u : Int, 0 ≤ u % (m : Int) ∧ u % (m : Int) < (m : Int) := fun u => ⟨Int.emod_nonneg _ (by omega), Int.emod_lt_of_pos _ (by omega)⟩
    refine ⟨_, rfl, _, _, rfl, rfl, ⟨by decide, by decide⟩, _, rfl, _, _, rfl, rfl, (by show (0 : Int) < (m : Int); omega), ?_⟩
    refine ⟨_, rfl, _, _, rfl, rfl, (by show (0 : Int) < 2; decide), rfl, _, rfl, ite2 (fun _ => ?_) (fun _ => ?_)⟩
    ·refine ⟨_, rfl, _, _, rfl, rfl, (by show (0 : Int) < 8; decide), _, _, rfl, rfl, _, rfl, iteB (fun _ => ?_) (fun _ => ?_)⟩
     ·refine ⟨_, rfl, _, _, rfl, rfl, ⟨by decide, by decide⟩, _, rfl, _, _, rfl, rfl, (by show (0 : Int) < (m : Int); omega), _, rfl, _, _, rfl, rfl, ⟨by decide, by decide⟩, _, rfl, _, _, rfl, rfl, (by show (0 : Int) < (m : Int); omega), sz2, fun q hq => ?_⟩
      have zq := az (o := HO.lst [V.int ((n : Int) / 4096 % (m : Int)), .int ((n : Int) / 65536 % (m : Int))]) hq
      obtain ⟨v, hv, ev⟩ := at_mod (xs := [V.int ((n : Int) / 4096 % (m : Int)), .int ((n : Int) / 65536 % (m : Int))]) (m := (mr : Int)) 2 rfl (by decide)
      obtain ⟨cc, rfl, hcc⟩ : ∃ cc : Int, v = .int cc ∧ 0 ≤ cc ∧ cc < (m : Int) := by
       simp only [List.mem_cons, List.not_mem_nil, or_false] at hv
       rcases hv with rfl | rfl
       ·exact ⟨_, rfl, hm0 _⟩
       ·exact ⟨_, rfl, hm0 _⟩
      refine ⟨_, rfl, _, _, rfl, rfl, (by show (0 : Int) < 2; decide), q, _, _, _, rfl, rfl, aU.of ak, ev, ?_⟩
      have s7 := s6.trans zq
      refine ⟨_, rfl, .inl ⟨rfl, _, aU.of (s7 _ _ er)⟩, _, rfl, rw, _, _, rfl, rfl, s7 _ _ er, Nat.lt_of_lt_of_le (by rw [List.length_map]; omega : _ < 5000) (by decide), ?_⟩
      refine ⟨aY (s5.trans s7) hrwH, r ++ [(cc : Int)], _, _, _, rfl, by rw [ak, List.map_append]; rfl, by rw [List.length_append, hl]; rfl, fun c hc => ?_, picPut (pic.mono s7) hrf hrp⟩
      rcases List.mem_append.mp hc with hc | hc
      ·exact hcs c hc
      ·rw [List.mem_singleton.mp hc]; exact hcc
     ·refine ⟨_, rfl, .inl ⟨rfl, _, aU.of (s6 _ _ er)⟩, _, rfl, rw, _, _, rfl, rfl, s6 _ _ er, Nat.lt_of_lt_of_le (by rw [List.length_map]; omega : _ < 5000) (by decide), ?_⟩
      refine ⟨aY (s5.trans s6) hrwH, r ++ [((mr : Int) / 8 % (m : Int) : Int)], _, _, _, rfl, by rw [ak, List.map_append]; rfl, by rw [List.length_append, hl]; rfl, fun c hc => ?_, picPut (pic.mono s6) hrf hrp⟩
      rcases List.mem_append.mp hc with hc | hc
      ·exact hcs c hc
      ·rw [List.mem_singleton.mp hc]; exact hm0 _
    ·refine ⟨_, rfl, .inl ⟨rfl, _, aU.of (s6 _ _ er)⟩, _, rfl, rw, _, _, rfl, rfl, s6 _ _ er, Nat.lt_of_lt_of_le (by rw [List.length_map]; omega : _ < 5000) (by decide), ?_⟩
     refine ⟨aY (s5.trans s6) hrwH, r ++ [((mr : Int) / 8 % (m : Int) : Int)], _, _, _, rfl, by rw [ak, List.map_append]; rfl, by rw [List.length_append, hl]; rfl, fun c hc => ?_, picPut (pic.mono s6) hrf hrp⟩
     rcases List.mem_append.mp hc with hc | hc
     ·exact hcs c hc
     ·rw [List.mem_singleton.mp hc]; exact hm0 _
   ·rintro σ H5 ⟨s5, r, v9, v10, v11, rfl, er, hl, hcs, pic⟩
    refine ⟨_, rfl, .inl ⟨rfl, _, aU.of pic.top⟩, _, rfl, fd', _, _, rfl, rfl, pic.top, Nat.lt_of_lt_of_le (by rw [List.length_map, pic.len, gP]; omega : _ < 5000) (by decide), ?_⟩
    refine ⟨aY s5 hfH, ps ++ [rw], rows ++ [r], _, _, _, _, _, rfl, ?_, fun q hq => ?_, by rw [List.length_append, hrl]; rfl, fun r' hr' => ?_⟩
    ·have := picSnoc pic hrf hrp er
     unfold ir at this ⊢
     rw [List.map_append]; exact this
    ·rcases List.mem_append.mp hq with hq | hq
     ·exact fps q hq
     ·rw [List.mem_singleton.mp hq]; exact hrwH
    ·rcases List.mem_append.mp hr' with hr' | hr'
     ·exact hrows r' hr'
     ·rw [List.mem_singleton.mp hr']; exact ⟨hl, hcs⟩
  ·rintro σ H3 ⟨s3, ps, rows, v7, v8, v9, v10, v11, rfl, pic, fps, hrl, hrows⟩
   exact ⟨_, rfl, k fd' ps rows w H3 s3 hfH fps pic ⟨by omega, by omega, w1, w24, fun r hr => ⟨(hrows r hr).1, fun c hc => by have := (hrows r hr).2 c hc; omega⟩⟩ (fun r hr c hc => ((hrows r hr).2 c hc).2)⟩
end
noncomputable def R99 (R : List (List V)) : List (List V) := R.map fun r => r ++ [V.int 99]
theorem own_step {H : Hp} {f p : Addr} {ps : List Addr} {R : List (List V)} {i : Nat} {r : List V} (pic : bx H f ps ((R99 (R.take i)) ++ R.drop i)) (hp : ps[i]? = some p) (hr : R[i]? = some r) : H p = some (.lst (r)) ∧ bx (upd H p (.lst (r ++ [.int 99]))) f ps ((R99 (R.take (i + 1))) ++ R.drop (i + 1)) := by
 have hi : i < R.length := (List.getElem?_eq_some_iff.mp hr).1
 have hl : (R99 (R.take i)).length = i := by unfold R99; rw [List.length_map, List.length_take]; omega
 have hat : ((R99 (R.take i)) ++ R.drop i)[i]? = some (r) := by
  rw [List.getElem?_append_right (by omega), hl, Nat.sub_self, List.getElem?_drop, Nat.add_zero, hr]
 obtain ⟨r', hr', e⟩ := pic.at hp
 rw [hat] at hr'
 cases hr'
 refine ⟨e, ?_⟩
 have nf : p ≠ f := fun z => pic.out (by rw [← z]; exact List.mem_of_getElem? hp)
 refine ⟨by rw [aJ nf.symm]; exact pic.top, ?_, pic.nd, pic.out⟩
 have key : ∀ (ps : List Addr) (S T : List (List V)) (i : Nat), Paired (fun q s => H q = some (.lst s)) ps S → ps.Nodup → ps[i]? = some p → T.length = S.length → (∀ j s, j ≠ i → S[j]? = some s → T[j]? = some s) → (∀ s, T[i]? = some s → s = r ++ [.int 99]) → Paired (fun q s => upd H p (.lst (r ++ [.int 99])) q = some (.lst s)) ps T := by
  intro ps
  induction ps with
  | nil =>
   intro S T i h _ hp _ _ _
   cases hp
  | cons q qs ih =>
   intro S T i h nd hp hl ho hi
   cases h with
   | @cons _ s _ S' e1 h2 =>
    cases T with
    | nil => cases hl
    | cons t T' =>
     rw [List.nodup_cons] at nd
     cases i with
     | zero =>
      cases hp
      refine .cons (by rw [ak, hi t rfl]) ?_
      have : T' = S' := List.ext_getElem? fun j => by
       rcases Nat.lt_or_ge j S'.length with q | q
       ·have := ho (j + 1) S'[j] (by omega) (by rw [List.getElem?_cons_succ]; exact List.getElem?_eq_getElem q)
        rw [List.getElem?_cons_succ] at this
        rw [this, List.getElem?_eq_getElem q]
       ·have hl' : T'.length = S'.length := by simpa using hl
        rw [List.getElem?_eq_none q, List.getElem?_eq_none (by omega)]
      rw [this]
      exact Paired.mapI h2 fun u s hu e => by rw [aJ (fun z => nd.1 (by rw [← z]; exact hu))]; exact e
     | succ i =>
      have hqs : qs[i]? = some p := hp
      have nq : q ≠ p := fun z => nd.1 (by rw [z]; exact List.mem_of_getElem? hqs)
      have et : t = s := by
       have := ho 0 s (by omega) rfl
       injection this
      refine .cons (by rw [aJ nq, et]; exact e1) (ih S' T' i h2 nd.2 hqs (by simpa using hl) (fun j s hj hs => ?_) (fun s hs => hi s hs))
      exact ho (j + 1) s (by omega) hs
 refine key ps _ _ i pic.row pic.nd hp ?_ ?_ ?_
 ·unfold R99
  simp only [List.length_map, List.length_append, List.length_take, List.length_drop]; omega
 ·intro j s hj hs
  unfold R99 at hs ⊢
  rw [← hs]
  rcases Nat.lt_or_ge j i with q | q
  ·rw [List.getElem?_append_left (by simp; omega), List.getElem?_append_left (by simp; omega), List.getElem?_map, List.getElem?_map, List.getElem?_take_of_lt (by omega), List.getElem?_take_of_lt q]
  ·rw [List.getElem?_append_right (by simp; omega), List.getElem?_append_right (by simp; omega)]
   simp only [List.length_map, List.length_take, List.getElem?_drop]
   congr 1; omega
 ·intro s hs
  unfold R99 at hs
  rw [List.getElem?_append_left (by simp; omega), List.getElem?_map, List.getElem?_take_of_lt (by omega), hr] at hs
  injection hs with hs
  exact hs.symm
noncomputable def spOwnV : Sp := fun vs H Q _ => ∃ (f d : Addr) (ps qs : List Addr) (R : List (List V)), vs = [.ref f, .ref d] ∧ bx H f ps R ∧ bx H d qs R ∧ (∀ p ∈ ps, p ∉ d :: qs) ∧ R.length ≤ 1000 ∧ (∀ r ∈ R, r.length ≤ 1000) ∧ (∀ r ∈ R, ∀ x ∈ r, (∃ a, x = .ref a) ∨ gM x = true) ∧ ∀ H', (∀ b o, H b = some o → b ∉ ps → H' b = some o) → Q (.bl true) H'
section
variable {P : Program} {w : World} {K : W.Frag} {mg : Str → Option Value} {base : Heap} {cFE cC cN cM cP cL cB cD cZ : Addr} {tP tS tC tI : Tok}
theorem sc_law_own : aO ["_law_found", "_law_due", "_law_row"] ["_law_found", "_law_due"] (ao gZ) := ⟨rfl, rfl, rfl, by decide +kernel, rfl, by decide +kernel, by decide +kernel⟩
theorem ok_law_own {f : Addr} {fd : FuncData} (F : bI K "_law_own" "_law_own" gZ .none f fd) (T : Txt K mg cFE cC cN cM cP cL cB cD cZ tP tS tC tI) : bB P w K mg base gh 1 f fd ["_law_found", "_law_due"] (spOwnV) := by
 refine F.ok sc_law_own (fun vs H Q E h => ?_) (fun cdv A outer s H vs Q E hr h => ?_)
 ·obtain ⟨f, d, ps, qs, R, rfl, _⟩ := h; rfl
 ·obtain ⟨f, d, ps, qs, R, rfl, pf, pd, dis, hl, hw, hf, k⟩ := h
  have hu : _ + 64 < cLine := hr.units
  have lf : ps.length = R.length := by exact pf.len
  refine ⟨_, (au (ps_for PassesOwn.never rfl (piK K rfl (pv 0)) (aP (i := 2) sc_law_own.nd rfl (.inl rfl)) (aA (cz (pe_bm PySem.F.plainAttrs_list PySem.F.slot_list_append PySem.F.type_list_append cH (pv 2) (aa aq aj)))))
    (aA (aM (gW (eqDK K rfl hu) (pv 0) (bG (N := ["_law_row"]) (src := [none]) rfl ⟨rfl, rfl, rfl, rfl, rfl, by decide +kernel⟩ (piK K rfl (pv 1)) (fun s H C fp => aP (i := 0) (show (["_law_row"] : List Str).Nodup by decide +kernel) rfl (.inl rfl)) (fun s H C fp => bh) (fun s H C fp => (aC gm (pv 0) (aZ (aa aq aj))))) (bA _))))), ?_⟩
  refine ⟨_, rfl, f, rfl, ⟨_, aU.of pf.top⟩, ?_⟩
  refine for_list (xs := ps.map V.ref) (fun i σ H1 => (∀ b o, H b = some o → b ∉ ps → H1 b = some o) ∧ bx H1 f ps ((R99 (R.take i)) ++ R.drop i) ∧ ∃ v, σ = [some (.ref f), some (.ref d), v]) ⟨fun b o h _ => h, by simpa [R99] using pf, none, rfl⟩ (fun i σ H1 _ q => aU.of q.2.1.top) ?_ ?_
  ·rintro i x σ H1 hx ⟨fr, pic, v, rfl⟩
   obtain ⟨p, hp, rfl⟩ := getElem?_ref hx
   have hi : i < R.length := by rw [← lf]; exact (List.getElem?_eq_some_iff.mp hp).1
   obtain ⟨e, pic'⟩ := own_step pic hp (List.getElem?_eq_getElem hi)
   refine ⟨_, rfl, .inl ⟨rfl, _, aU.of e⟩, p, _, _, rfl, rfl, e, Nat.lt_of_lt_of_le (by have := hw _ (List.getElem_mem hi); omega : _ < 5000) (by decide), ?_⟩
   exact ⟨fun b o hb hn => by rw [aJ (fun z => hn (by rw [z]; exact List.mem_of_getElem? hp))]; exact fr b o hb hn, pic', _, rfl⟩
  ·rintro σ H1 ⟨fr, pic, v, rfl⟩
   rw [List.length_map, lf, List.take_length, List.drop_length, List.append_nil] at pic
   have pd1 : bx H1 d qs R := ⟨fr _ _ pd.top (fun z => dis d z List.mem_cons_self), Paired.mapI pd.row fun q r hq e => fr _ _ e (fun z => dis q z (List.mem_cons_of_mem _ hq)), pd.nd, pd.out⟩
   refine ⟨_, rfl, _, rfl, d, rfl, ⟨_, aU.of pd1.top⟩, fun D hD => ?_⟩
   refine ie (k := 0) (fun x => (rowOf H1 x).getD [] ++ [.int 99]) (src_list (aU.of pd1.top)) (by rw [List.length_map, pd1.len]; exact Nat.le_trans hl (by decide)) hD (fun x hx H' Q' sm kk => ?_) fun us H2 s2 fq pv => ?_
   ·obtain ⟨q, hq, rfl⟩ := List.mem_map.mp hx
    obtain ⟨r, hr', er⟩ := pd1.mem hq
    rw [aH er] at kk
    refine ⟨_, rfl, sz1, fun l1 h1 => ?_⟩
    have z1 := az (o := HO.lst [V.int 99]) h1
    refine ⟨q, l1, _, _, rfl, rfl, z1 _ _ (sm _ _ er), ak, Nat.le_trans (by show r.length + 1 ≤ 5000; have := hw r hr'; omega) (by decide), fun l2 h2 => ?_⟩
    exact kk l2 _ (z1.trans (az h2)) (z1.free h2) ak
   ·rw [map_pair (φ := fun r => r ++ [.int 99]) (fun q r e => by rw [aH e]; rfl) qs _ pd1.row] at pv
    have hf99 : ∀ r ∈ R99 R, ∀ x ∈ r, (∃ a, x = .ref a) ∨ gM x = true := fun r hr x hx => by
     obtain ⟨r1, h1, rfl⟩ := List.mem_map.mp hr
     rcases List.mem_append.mp hx with hx | hx
     ·exact hf r1 h1 x hx
     ·rw [List.mem_singleton.mp hx]; exact .inr rfl
    exact ⟨2, f, D, true, by decide, rfl, rfl, eq_pics (pic.mono s2) pv (jg hf99), k H2 (fun b o hb hn => s2 _ _ (fr b o hb hn))⟩
end
theorem Fr0.pic {x : Addr} {H H' : Hp} {a : Addr} {ps : List Addr} {R : List (List V)} (f : Fr0 x H H') (p : bx H a ps R) (n : x ∉ a :: ps) : bx H' a ps R :=
 ⟨f _ _ p.top (fun z => n (by rw [z]; exact List.mem_cons_self)), Paired.mapI p.row fun q _ hq e => f _ _ e (fun z => n (by rw [← z]; exact List.mem_cons_of_mem _ hq)), p.nd, p.out⟩
theorem pour_first (d : C4) (ds : List (C4)) : aG [d] (d :: ds) = aG [] (d :: ds) := by
 have h1 : isC d.2.1 d.2.2.1 d.2.2.2 d = true := by unfold isC; exact decide_eq_true rfl
 have h2 : fG [d] d = [d] := by unfold fG; rw [List.findIdx?_cons, h1]; rfl
 show aG (fG [d] d) ds = aG (fG [] d) ds
 rw [h2]; rfl
theorem pour_split (c X Y : List (C4)) : ∃ e, aG c (X ++ Y) = aG c X ++ e := by
 obtain ⟨e, h⟩ := pour_pre Y (aG c X)
 exact ⟨e, by rw [← h]; unfold aG; rw [List.foldl_append]⟩
theorem take_at {α : Type} {xs : List α} {i : Nat} {x : α} (h : xs[i]? = some x) : xs.take (i + 1) = xs.take i ++ [x] := by rw [List.take_add_one, h]; rfl
theorem flat_split {rws : List (List (C4))} {i : Nat} {r : List (C4)} (h : rws[i]? = some r) (j : Nat) : ∃ Y, rws.flatten = ((rws.take i).flatten ++ r.take j) ++ Y := by
 refine ⟨r.drop j ++ (rws.drop (i + 1)).flatten, ?_⟩
 have e : rws = rws.take (i + 1) ++ rws.drop (i + 1) := (List.take_append_drop _ _).symm
 rw [List.append_assoc, ← List.append_assoc (r.take j), List.take_append_drop]
 calc rws.flatten = (rws.take (i + 1) ++ rws.drop (i + 1)).flatten := by rw [← e]
  _ = _ := by rw [take_at h, List.flatten_append, List.flatten_append, List.append_assoc]; simp
theorem flat_next {rws : List (List (C4))} {i : Nat} {r : List (C4)} (h : rws[i]? = some r) : (rws.take (i + 1)).flatten = (rws.take i).flatten ++ r := by rw [take_at h, List.flatten_append]; simp
theorem not_pic {H : Hp} {a x : Addr} {ps : List Addr} {R : List (List V)} (p : bx H a ps R) (h : H x = none) : x ∉ a :: ps := fun z => by
 rcases List.mem_cons.mp z with z | z
 ·rw [z, p.top] at h; cases h
 ·obtain ⟨_, _, e⟩ := p.mem z
  rw [h] at e; cases e
section
variable {P : Program} {w : World} {K : W.Frag} {mg : Str → Option Value} {base : Heap} {cFE cC cN cM cP cL cB cD cZ : Addr} {tP tS tC tI : Tok}
theorem gn : aO ["rows", "palette", "picture"] ["rows"] (ao dh) := ⟨rfl, rfl, rfl, by decide +kernel, rfl, by decide +kernel, by decide +kernel⟩
theorem ok_taken_picture {f : Addr} {fd : FuncData} (F : bI K "taken_picture" "taken_picture" dh .none f fd) (T : Txt K mg cFE cC cN cM cP cL cB cD cZ tP tS tC tI) {fC : Addr} (hC : mg "is_colour" = some (.ref fC)) (g_are_rows_of : iR P w K mg base 5 "are_rows_of" ["thing", "is_one"] [] (spPicFC K fC)) (g_Palette : MakX P w K mg base cL 5 "Palette" ["self", "colours"] (spInit K cP cL)) (g_m_add_colour : MetX P w K mg base cL 6 "add_colour" ["self", "colour"] (spAdd K cC cM cL)) : bB P w K mg base (CX1 P w) 8 f fd ["rows"] (spTaken K cB cM cL) := by
 refine F.okX gn (fun vs H Q E h => ?_) (fun cdv A outer s H vs Q E hr h => ?_)
 ·obtain ⟨v, rfl, _⟩ := h; rfl
 ·obtain ⟨v, rfl, h⟩ := h
  refine ⟨_, (au (bK (bW (bH (aD g_are_rows_of (hr.mono (by decide)) rfl (aa (pv 0) (aa (bR (v := .ref fC) rfl hC rfl) aj))))) (aA (gG rfl iG rfl T.BadPicture T.xBadPicture (aa bJ aj))) aV)
    (au (aQ (i := 1) gn.nd rfl (by first | exact Or.inl rfl | exact Or.inr rfl) (pe_makX g_Palette (hr.mono (by decide)) iu rfl (aa (aZ (aa (bM (ixK K rfl) (bM (ixK K rfl) (pv 0) aq (fun _ _ => rfl)) aq (fun _ _ => rfl)) aj)) aj)))
    (au (ps_setCX (ix := 2) (N := ["row", "palette"]) (src := [none, some 1]) gn.nd rfl rfl passesE1 ⟨_, _, _, rfl, rfl, rfl⟩ rfl ⟨rfl, rfl, rfl, rfl, rfl, by decide +kernel⟩ (piK K rfl (pv 0)) (fun s H C fp XE hE1 => aP (i := 0) (show (["row", "palette"] : List Str).Nodup by decide +kernel) rfl (by first | exact Or.inl rfl | exact Or.inr rfl)) (fun s H C fp XE hE1 => bh) (fun s H C fp XE hE1 => (pe_compX (N := ["colour", "palette"]) (src := [none, some 1]) hE1 ⟨_, _, _, rfl, rfl, rfl⟩ rfl ⟨rfl, rfl, rfl, rfl, rfl, by decide +kernel⟩ (piK K rfl (pv 0)) (fun s H C fp XE hE2 => aP (i := 0) (show (["colour", "palette"] : List Str).Nodup by decide +kernel) rfl (by first | exact Or.inl rfl | exact Or.inr rfl)) (fun s H C fp XE hE2 => bh) (fun s H C fp XE hE2 => (pe_metX (pv 1) T.cl g_m_add_colour (hr.mono (by decide)) hE2.R (aa (pv 0) aj))))))
    (aA (aM (bD (aa (pv 1) (aa (pv 2) aj)))))))), ?_⟩
  rcases h with ⟨bad, kB⟩ | ⟨a, ps, rws, wd, rfl, cp, gd, kY, kN⟩
  ·exact ⟨_, rfl, v, rfl, bad.th, fun H1 s1 => ⟨_, rfl, iteN (fun _ => ⟨sz1, kB H1 s1⟩) (fun z => by rw [bad.no] at z; cases z)⟩⟩
  obtain ⟨th, yes⟩ := picC_good (K := K) cp gd
  refine ⟨_, rfl, _, rfl, th, fun H1 s1 => ⟨_, rfl, iteN (fun z => by rw [yes] at z; cases z) (fun _ => ?_)⟩⟩
  have cp1 := cp.mono s1
  obtain ⟨q0, hq0⟩ : ∃ q, ps[0]? = some q := ⟨_, List.getElem?_eq_getElem (by rw [cp.len]; have := gd.ne; omega)⟩
  obtain ⟨r0, hr0, e0⟩ := cp1.row hq0
  have m0 := List.mem_of_getElem? hr0
  obtain ⟨d0, hd0⟩ : ∃ d, r0[0]? = some d := ⟨_, List.getElem?_eq_getElem (by rw [gd.row r0 m0]; have := gd.w1; omega)⟩
  have at0 : (ps.map V.ref)[0]? = some (.ref q0) := by rw [List.getElem?_map, hq0]; rfl
  have at00 : (r0.map (fun c : C4 => V.ref c.1))[0]? = some (.ref d0.1) := by rw [List.getElem?_map, hd0]; rfl
  refine ⟨_, rfl, a, _, _, _, rfl, rfl, aU.of cp1.pic.top, aW (j := 0) at0, q0, _, _, _, rfl, rfl, aU.of e0, aW (j := 0) at00, sz1, fun L hL => ?_⟩
  have y2 := az (o := HO.lst [V.ref d0.1]) hL
  have cL0 : bF (upd H1 L (.lst [V.ref d0.1])) L [d0] := ⟨ak, fun c hc => by rw [List.mem_singleton.mp hc]; exact (cp1.col r0 m0 d0 (List.mem_of_getElem? hd0)).mono y2⟩
  generalize upd H1 L (.lst [V.ref d0.1]) = H2 at y2 cL0 ⊢
  intro p3 dx3 np3 ndx3 ne3
  have x1 : aB H2 (upd (upd H2 dx3 (.own p3)) p3 (.ins cL dx3 [])) := fun b q e => by rw [aJ (aK e np3), aJ (aK e ndx3)]; exact e
  refine ⟨p3, dx3, _, rfl, ak, (cL0.mono x1).tm (by simp), fun a' d' ea cv' _ _ _ l3 H3 hl3 kp3 pq3 => ⟨rfl, ?_⟩, fun ng => (ng ⟨L, [d0], rfl, cL0.mono x1, by simp, by simp, by simp⟩).elim⟩
  cases ea
  cases (cL0.mono x1).inj cv'
  have s23 : aB H2 H3 := fun b q e => kp3 b q (x1 b q e) (aK e np3)
  have sH2 := s1.trans y2
  have sH3 := sH2.trans s23
  have fl3 : H l3 = none := sH2.free (x1.free hl3)
  have fp3 : H p3 = none := sH2.free np3
  have cp3 := cp.mono sH3
  clear kp3 cv' x1 np3 ndx3 ne3 hl3 cL0 y2 hL
  have eC : (aG [d0] rws.flatten) = aG [] rws.flatten := by
   have e1 : rws = r0 :: rws.tail := by
    cases rws with
    | nil => cases hr0
    | cons z zs => cases hr0; rfl
   have e2 : r0 = d0 :: r0.tail := by
    cases r0 with
    | nil => cases hd0
    | cons z zs => cases hd0; rfl
   have e3 : rws.flatten = d0 :: (r0.tail ++ rws.tail.flatten) := by
    rw [e1, List.flatten_cons]
    conv => lhs; rw [e2]
    rfl
   rw [e3]; exact pour_first _ _
  rw [← eC] at kY kN
  refine ⟨_, rfl, a, rfl, ⟨_, aU.of cp3.pic.top⟩, fun D hD => ?_⟩
  have nDl : D ≠ l3 := (aK pq3.2.1 hD).symm
  have fD : H D = none := sH3.free hD
  refine comp_st (K := K) (a := a) (L := ps.map V.ref) (k := 0) (fun i H' => aB H H' ∧ jd cL H' p3 l3 (aG [d0] (rws.take i).flatten) ∧ (aG [d0] (rws.take i).flatten).length ≤ 16 ∧ ∃ qs, bx H' D qs (ixR (aG [d0] rws.flatten) (rws.take i)) ∧ l3 ∉ D :: qs ∧ Fresh H qs)
   ⟨aY sH3 fD, pq3.mono (az hD), by show 1 ≤ 16; decide, [], ⟨ak, .nil, List.nodup_nil, by simp⟩, by simp [nDl.symm], fun q hq => nomatch hq⟩ (fun i H' q => aU.of (q.1 _ _ cp.pic.top)) (fun i x H' hx q => ?_) (fun H' q => ?_)
  ·obtain ⟨sm, pal, l16, qs, pq, nl, fq⟩ := q
   rw [List.getElem?_map] at hx
   cases hb : ps[i]? with
   | none => rw [hb] at hx; cases hx
   | some b =>
    rw [hb] at hx
    cases hx
    obtain ⟨r, hr, er⟩ := cp.row hb
    have mr := List.mem_of_getElem? hr
    have hil : i < ps.length := (List.getElem?_eq_some_iff.mp hb).1
    have lps := cp.len
    have lps2 := gd.le
    have lr := gd.row r mr
    have lr2 := gd.w24
    refine ⟨_, rfl, b, rfl, ⟨_, aU.of (sm _ _ er)⟩, fun D2 hD2 => ?_⟩
    have n2 := not_pic pq hD2
    have n2l : D2 ≠ l3 := (aK pal.2.1 hD2).symm
    have fD2 : H D2 = none := sm.free hD2
    refine comp_st (K := K) (a := b) (L := r.map (fun c : C4 => V.ref c.1)) (k := 0) (fun j H' => aB H H' ∧ jd cL H' p3 l3 (aG [d0] ((rws.take i).flatten ++ r.take j)) ∧ (aG [d0] ((rws.take i).flatten ++ r.take j)).length ≤ 16 ∧ bx H' D qs (ixR (aG [d0] rws.flatten) (rws.take i)) ∧ H' D2 = some (.lst ((r.take j).map fun d => V.int (idx (aG [d0] rws.flatten) d : Int))))
     ⟨aY sm fD2, by rw [List.take_zero, List.append_nil]; exact pal.mono (az hD2), by rw [List.take_zero, List.append_nil]; exact l16, pq.mono (az hD2), ak⟩ (fun j H' q => aU.of (q.1 _ _ er)) (fun j x H4 hx q => ?_) (fun H4 q => ?_)
    ·obtain ⟨sm2, pal2, l2, pv2, eD2⟩ := q
     rw [List.getElem?_map] at hx
     cases hd : r[j]? with
     | none => rw [hd] at hx; cases hx
     | some d =>
      rw [hd] at hx
      cases hx
      have md := List.mem_of_getElem? hd
      have cd := (cp.col r mr d md).mono sm2
      have hjl : j < r.length := (List.getElem?_eq_some_iff.mp hd).1
      have tk := take_at hd
      have pk : aG [d0] ((rws.take i).flatten ++ r.take (j + 1)) = fG (aG [d0] ((rws.take i).flatten ++ r.take j)) d := by rw [tk, ← List.append_assoc, pour_snoc]
      obtain ⟨Y, hY⟩ := flat_split hr (j + 1)
      obtain ⟨ex, eex⟩ := pour_split [d0] ((rws.take i).flatten ++ r.take (j + 1)) Y
      rw [← hY, pk] at eex
      have lD : ((r.take j).map fun d => V.int (idx (aG [d0] rws.flatten) d : Int)).length < sizeLine := Nat.lt_of_lt_of_le (by rw [List.length_map, List.length_take]; omega : _ < 5000) (by decide)
      obtain ⟨⟨dx, hp⟩, cva⟩ := id pal2
      refine ⟨_, rfl, p3, dx, _, rfl, hp, fY (by decide +kernel), _, rfl, p3, l3, _, _, rfl, pal2, l2, cd.tc, fun a' r' g' b' e c' => ?_, fun hb => (by rw [cd.yes] at hb; cases hb)⟩
      cases e
      obtain ⟨rfl, rfl, rfl⟩ := cd.inj c'
      refine ⟨fun ji hj H5 s5 => ?_, fun hn h16' H5 s5 => kN ?_ H5 (sm2.trans s5), fun hn hlt H5 k5 e5 => ?_⟩
      ·have ea : fG (aG [d0] ((rws.take i).flatten ++ r.take j)) d = aG [d0] ((rws.take i).flatten ++ r.take j) := by unfold fG; rw [hj]; rfl
       rw [ea] at eex pk
       have ei : idx (aG [d0] rws.flatten) d = ji := by unfold idx; rw [eex, find_pre hj]; rfl
       have fo : Fr0 D2 H5 (upd H5 D2 (.lst (((r.take j).map fun d => V.int (idx (aG [d0] rws.flatten) d : Int)) ++ [.int (ji : Int)]))) := fun b o hb hne => by rw [aJ hne]; exact hb
       refine ⟨_, s5 _ _ eD2, lD, aY (sm2.trans s5) fD2, by rw [pk]; exact fo.pal (s5 _ _ eD2) (pal2.mono s5) n2l.symm, by rw [pk]; exact l2, fo.pic (pv2.mono s5) n2, ?_⟩
       rw [ak, tk, List.map_append, ← ei]; rfl
      ·have ea : fG (aG [d0] ((rws.take i).flatten ++ r.take j)) d = aG [d0] ((rws.take i).flatten ++ r.take j) ++ [d] := by unfold fG; rw [hn]; rfl
       rw [eex, ea, List.length_append, List.length_append]
       show 16 < (aG [d0] ((rws.take i).flatten ++ r.take j)).length + 1 + ex.length
       omega
      ·have ea : fG (aG [d0] ((rws.take i).flatten ++ r.take j)) d = aG [d0] ((rws.take i).flatten ++ r.take j) ++ [d] := by unfold fG; rw [hn]; rfl
       rw [ea] at eex pk
       have ei : idx (aG [d0] rws.flatten) d = (aG [d0] ((rws.take i).flatten ++ r.take j)).length := by unfold idx; rw [eex, find_pre (find_new hn)]; rfl
       have s5 : aB H H5 := fun b o hb => k5 b o (sm2 b o hb) (aK hb fl3)
       have eD5 := k5 _ _ eD2 n2l
       have f5 : Fr0 l3 H4 H5 := k5
       have cd5 := f5.col pal2.2.1 cd
       have pal5 : jd cL H5 p3 l3 (aG [d0] ((rws.take i).flatten ++ r.take j) ++ [d]) := ⟨⟨dx, f5.oth pal2.2.1 hp (fun ys z => by cases z)⟩, bF.snoc e5 (fun x hx => f5.col pal2.2.1 (cva.2 x hx)) cd5⟩
       have fo : Fr0 D2 H5 (upd H5 D2 (.lst (((r.take j).map fun d => V.int (idx (aG [d0] rws.flatten) d : Int)) ++ [.int ((aG [d0] ((rws.take i).flatten ++ r.take j)).length : Int)]))) := fun b o hb hne => by rw [aJ hne]; exact hb
       refine ⟨_, eD5, lD, aY s5 fD2, by rw [pk]; exact fo.pal eD5 pal5 n2l.symm, by rw [pk, List.length_append]; show _ + 1 ≤ 16; omega, fo.pic (f5.pic pv2 nl) n2, ?_⟩
       rw [ak, tk, List.map_append, ← ei]; rfl
    ·obtain ⟨sm2, pal2, l2, pv2, eD2⟩ := q
     have erl : r.take (r.map (fun c : C4 => V.ref c.1)).length = r := by rw [List.length_map, List.take_length]
     rw [erl] at eD2
     rw [erl, ← flat_next hr] at pal2 l2
     have h1 : D2 ≠ D := fun z => n2 (by rw [z]; exact List.mem_cons_self)
     have h2 : D2 ∉ qs := fun z => n2 (List.mem_cons_of_mem _ z)
     have fo : Fr0 D H4 (upd H4 D (.lst (qs.map V.ref ++ [.ref D2]))) := fun b o hb hne => by rw [aJ hne]; exact hb
     refine ⟨_, pv2.top, Nat.lt_of_lt_of_le (by rw [List.length_map, pv2.len]; unfold ixR; rw [List.length_map, List.length_take]; omega : _ < 5000) (by decide), aY sm2 fD, fo.pal pv2.top pal2 nDl.symm, l2, qs ++ [D2], ?_, ?_, fun q hq => ?_⟩
     ·have := picSnoc pv2 h1 h2 eD2
      unfold ixR at this ⊢
      rw [take_at hr, List.map_append]; exact this
     ·intro z
      rcases List.mem_cons.mp z with z | z
      ·exact nDl z.symm
      ·rcases List.mem_append.mp z with z | z
       ·exact nl (List.mem_cons_of_mem _ z)
       ·exact n2l (List.mem_singleton.mp z).symm
     ·rcases List.mem_append.mp hq with hq | hq
      ·exact fq q hq
      ·rw [List.mem_singleton.mp hq]; exact fD2
  ·obtain ⟨sm, pal, l16, qs, pq, nl, fq⟩ := q
   have erl : rws.take (ps.map V.ref).length = rws := by rw [List.length_map, cp.len, List.take_length]
   rw [erl] at pal l16 pq
   refine ⟨_, rfl, _, rfl, sz2, fun t ht => ?_⟩
   have zt := az (o := HO.tup [V.ref p3, .ref D]) ht
   exact kY l16 t p3 l3 D qs _ (sm.trans zt) (sm.free ht) fp3 fl3 fD fq (pal.mono zt) (pq.mono zt) nl ak
end
theorem bY {H : Hp} {a : Addr} (o : HO) (h : H a = none) : aB H (upd H a o) ∧ upd H a o a = some o := ⟨az h, ak⟩
noncomputable abbrev spWs (cN cM cB ea : Addr) : Sp := fun vs H Q E => spW cN "none" ea vs H Q E ∨ (spW cM "many" ea vs H Q E ∨ spW cB "picture" ea vs H Q E)
noncomputable def spRefd (K : W.Frag) (cL : Addr) : Sp := fun vs H Q _ => ∃ (v pv : V) (way : Int), vs = [.int way, v, pv] ∧
 ((way = 0 ∧ ∃ p l cs, pv = .ref p ∧ jd cL H p l cs ∧ ((BadQ K H v ∧ ∀ u H', aB H H' → H u = none → H' u = some (.tup [.str "picture"]) → Q (.ref u) H') ∨ ∃ a ps rows wd, v = .ref a ∧ bx H a ps (ir rows) ∧ Good rows wd ∧ (cs.length : Int) ≤ eO rows.flatten ∧ ∀ u H', aB H H' → H u = none → H' u = some (.tup [.str "none"]) → Q (.ref u) H')) ∨
  (way = 1 ∧ ((BadC K H v ∧ ∀ u H', aB H H' → H u = none → H' u = some (.tup [.str "picture"]) → Q (.ref u) H') ∨ ∃ a ps rws wd, v = .ref a ∧ eG H a ps rws ∧ GoodC rws wd ∧ 16 < (aG [] rws.flatten).length ∧ ∀ u H', aB H H' → H u = none → H' u = some (.tup [.str "many"]) → Q (.ref u) H')))
section
variable {P : Program} {w : World} {K : W.Frag} {mg : Str → Option Value} {base : Heap} {cFE cC cN cM cP cL cB cD cZ : Addr} {tP tS tC tI : Tok}
theorem sc_law_refused : aO ["_law_way", "_law_one", "_law_palette", "_law_e"] ["_law_way", "_law_one", "_law_palette"] (ao dN) := ⟨rfl, rfl, rfl, by decide +kernel, rfl, by decide +kernel, by decide +kernel⟩
theorem ok_law_refused {f : Addr} {fd : FuncData} (F : bI K "_law_refused" "_law_refused" dN .none f fd) (T : Txt K mg cFE cC cN cM cP cL cB cD cZ tP tS tC tI) (g_shown_picture : DefX P w K mg base 11 "shown_picture" ["picture", "palette"] [] (spShow K cB cN cL)) (g_taken_picture : DefX P w K mg base 8 "taken_picture" ["rows"] [] (spTaken K cB cM cL)) (g__law_word : DefM P w K mg base 2 "_law_word" ["_law_e"] [] (spWs cN cM cB)) : bB P w K mg base gh 12 f fd ["_law_way", "_law_one", "_law_palette"] (spRefd K cL) := by
 refine F.ok sc_law_refused (fun vs H Q E h => ?_) (fun cdv A outer s H vs Q E hr h => ?_)
 ·obtain ⟨v, pv', way, rfl, _⟩ := h; rfl
 ·obtain ⟨v, pv', way, rfl, h⟩ := h
  have hr1 : fB 2 _ := hr.mono (by decide)
  refine ⟨_, (au (ps_tryG (i := 3) sc_law_refused.nd rfl rfl rfl T.FolioError rfl rfl (fun pn XE R hx => (aA (bK (bj op_eq (pv 0) aq (bA _)) (aA (cz (fK g_shown_picture (hr.mono (by decide)) hx rfl (aa (pv 1) (aa (pv 2) aj))))) (aA (cz (fK g_taken_picture (hr.mono (by decide)) hx rfl (aa (pv 1) aj))))))) (fun ea => (aA (aM (pe_callM g__law_word hr1 rfl (aa (pv 3) aj))))))
    (aA (aM (bD aj)))), ?_⟩
  rcases h with ⟨rfl, p, l, cs, rfl, pq, ⟨bad, k⟩ | ⟨a, ps, rows, wd, rfl, pic, gd, hm, k⟩⟩ | ⟨rfl, ⟨bad, k⟩ | ⟨a, ps, rws, wd, rfl, cp, gd, hm, k⟩⟩
  ·refine ⟨_, rfl, rfl, _, rfl, ?_⟩
   refine ⟨_, rfl, _, rfl, v, p, l, cs, rfl, pq, .inr ⟨bad, fun H3 s3 => ⟨cB, rfl, T.eB, fun ea hea => ?_⟩⟩⟩
   have ex : upd H3 ea (iY ea cB) ea = some (iY ea cB) := ak
   have s4 := s3.trans (az (o := iY ea cB) hea)
   exact ⟨_, rfl, .inr (.inr ⟨rfl, ex, fun t H5 s5 ht et => k t H5 (s4.trans s5) (s4.free ht) et⟩)⟩
  ·refine ⟨_, rfl, rfl, _, rfl, ?_⟩
   refine ⟨_, rfl, _, rfl, _, p, l, cs, rfl, pq, .inl ⟨a, ps, rows, wd, rfl, pic, gd, fun h => absurd h (by omega), fun _ H3 s3 => ⟨cN, rfl, T.eN, fun ea hea => ?_⟩⟩⟩
   have ex : upd H3 ea (iY ea cN) ea = some (iY ea cN) := ak
   have s4 := s3.trans (az (o := iY ea cN) hea)
   exact ⟨_, rfl, .inl ⟨rfl, ex, fun t H5 s5 ht et => k t H5 (s4.trans s5) (s4.free ht) et⟩⟩
  ·refine ⟨_, rfl, rfl, _, rfl, ?_⟩
   refine ⟨_, rfl, v, rfl, .inl ⟨bad, fun H3 s3 => ⟨cB, rfl, T.eB, fun ea hea => ?_⟩⟩⟩
   have ex : upd H3 ea (iY ea cB) ea = some (iY ea cB) := ak
   have s4 := s3.trans (az (o := iY ea cB) hea)
   exact ⟨_, rfl, .inr (.inr ⟨rfl, ex, fun t H5 s5 ht et => k t H5 (s4.trans s5) (s4.free ht) et⟩)⟩
  ·refine ⟨_, rfl, rfl, _, rfl, ?_⟩
   refine ⟨_, rfl, _, rfl, .inr ⟨a, ps, rws, wd, rfl, cp, gd, fun h => absurd h (by omega), fun _ H3 s3 => ⟨cM, rfl, T.eM, fun ea hea => ?_⟩⟩⟩
   have ex : upd H3 ea (iY ea cM) ea = some (iY ea cM) := ak
   have s4 := s3.trans (az (o := iY ea cM) hea)
   exact ⟨_, rfl, .inr (.inl ⟨rfl, ex, fun t H5 s5 ht et => k t H5 (s4.trans s5) (s4.free ht) et⟩)⟩
end
theorem key_rows {H : Hp} (g : Int → V) : ∀ (qs : List Addr) (R : List (List Int)), Paired (fun p r => H p = some (.lst r)) qs (ir R) → (qs.map V.ref).map (fun x => ((rowOf H x).getD []).map fun v => match v with | .int c => g c | _ => .non) = R.map fun r => r.map g := by
 intro qs
 induction qs with
 | nil => intro R h; cases R with
  | nil => rfl
  | cons r R => cases h
 | cons q qs ih =>
  intro R h
  cases R with
  | nil => cases h
  | cons r R =>
   cases h with
   | cons e1 h2 =>
    rw [List.map_cons, List.map_cons, ih R h2, aH e1]
    show List.map _ (r.map V.int) :: _ = (r.map g) :: R.map fun r => r.map g
    rw [List.map_map]; rfl
theorem max_lt {rows : List (List Int)} {wd : Nat} {m : Int} (g : Good rows wd) (lt : ∀ r ∈ rows, ∀ x ∈ r, x < m) : eO rows.flatten < m := by
 obtain ⟨r, hr, hc⟩ := List.mem_flatten.mp (maxI_mem g.fne)
 exact lt r hr _ hc
theorem shR_flat {cs : List (C4)} {rows : List (List Int)} : ∀ r ∈ shR cs rows, ∀ x ∈ r, (∃ a, x = .ref a) ∨ gM x = true := fun r hr x hx => by
 obtain ⟨r0, _, rfl⟩ := List.mem_map.mp hr
 obtain ⟨c, _, rfl⟩ := List.mem_map.mp hx
 exact .inl ⟨_, rfl⟩
theorem shR_len {cs : List (C4)} {rows : List (List Int)} : (shR cs rows).length = rows.length := List.length_map _
noncomputable def spSG (K : W.Frag) (cL : Addr) : Sp := fun vs H Q _ => ∃ (a o p l : Addr) (bv : V) (ps : List Addr) (rows : List (List Int)) (wd : Nat) (cs : List (C4)), vs = [.ref a, .ref o, .ref p, bv] ∧ bx H a ps (ir rows) ∧ Good rows wd ∧ bF H o cs ∧ jd cL H p l cs ∧ (∀ r ∈ rows, ∀ x ∈ r, x < (cs.length : Int)) ∧ BadQ K H bv ∧ ∀ H', aB H H' → Q (.bl true) H'
section
variable {P : Program} {w : World} {K : W.Frag} {mg : Str → Option Value} {base : Heap} {cFE cC cN cM cP cL cB cD cZ : Addr} {tP tS tC tI : Tok}
theorem dO : aO ["_law_picture_here", "_law_colours", "_law_palette", "_law_odd_here", "_law_due", "_law_handed", "_law_found"] ["_law_picture_here", "_law_colours", "_law_palette", "_law_odd_here"] (ao cJ) := ⟨rfl, rfl, rfl, by decide +kernel, rfl, by decide +kernel, by decide +kernel⟩
theorem ok_law_shown_good {f : Addr} {fd : FuncData} (F : bI K "_law_shown_good" "_law_shown_good" cJ .none f fd) (T : Txt K mg cFE cC cN cM cP cL cB cD cZ tP tS tC tI) (g__law_copied : iR P w K mg base 1 "_law_copied" ["_law_rows"] [] (spCop)) (g_shown_picture : DefX P w K mg base 11 "shown_picture" ["picture", "palette"] [] (spShow K cB cN cL)) (g__law_rows_good : iR P w K mg base 1 "_law_rows_good" ["_law_found", "_law_due"] [] (spRG K)) (g_m_colours : MetD P w K mg base cL 1 "colours" ["self"] (spCols cL)) (g__law_refused : iR P w K mg base 12 "_law_refused" ["_law_way", "_law_one", "_law_palette"] [] (spRefd K cL)) (g__law_own : iR P w K mg base 1 "_law_own" ["_law_found", "_law_due"] [] (spOwnV)) : bB P w K mg base gh 13 f fd ["_law_picture_here", "_law_colours", "_law_palette", "_law_odd_here"] (spSG K cL) := by
 refine F.ok dO (fun vs H Q E h => ?_) (fun cdv A outer s H vs Q E hr h => ?_)
 ·obtain ⟨a, o, p, l, bv, ps, rows, wd, cs, rfl, _⟩ := h; rfl
 ·obtain ⟨a, o, p, l, bv, ps, rows, wd, cs, rfl, pic, gd, co, pq, lt, bad, k⟩ := h
  have hu : _ + 64 < cLine := hr.units
  refine ⟨_, (au (ps_setC (ix := 4) (N := ["_law_row", "_law_colours"]) (src := [none, some 1]) dO.nd rfl rfl rfl ⟨rfl, rfl, rfl, rfl, rfl, by decide +kernel⟩ (piK K rfl (pv 0)) (fun s H C fp => aP (i := 0) (show (["_law_row", "_law_colours"] : List Str).Nodup by decide +kernel) rfl (by first | exact Or.inl rfl | exact Or.inr rfl)) (fun s H C fp => bh) (fun s H C fp => (bG (N := ["_law_cell", "_law_colours"]) (src := [none, some 1]) rfl ⟨rfl, rfl, rfl, rfl, rfl, by decide +kernel⟩ (piK K rfl (pv 0)) (fun s H C fp => aP (i := 0) (show (["_law_cell", "_law_colours"] : List Str).Nodup by decide +kernel) rfl (by first | exact Or.inl rfl | exact Or.inr rfl)) (fun s H C fp => bh) (fun s H C fp => (bM (ixK K rfl) (pv 1) (pv 0) (fun _ _ => rfl))))))
    (au (aQ (i := 5) dO.nd rfl (by first | exact Or.inl rfl | exact Or.inr rfl) (aD g__law_copied (hr.mono (by decide)) rfl (aa (pv 0) aj)))
    (au (aQ (i := 6) dO.nd rfl (by first | exact Or.inl rfl | exact Or.inr rfl) (fK g_shown_picture (hr.mono (by decide)) passF rfl (aa (pv 5) (aa (pv 2) aj))))
    (au (bK (PW.pt (iw (bW (bH (aD g__law_rows_good (hr.mono (by decide)) rfl (aa (pv 6) (aa (pv 4) aj))))) (iw (bj (neDK K rfl hu) (pv 5) (pv 0) (bA _)) (gQ (bj (neDK K rfl hu) (iz (pv 2) T.cl g_m_colours (hr.mono (by decide))) (pv 1) (bA _)))))) (aA (aM fj)) aV)
    (aA (aM (pe_and (gW (eqDK K rfl hu) (aD g__law_refused (hr.mono (by decide)) rfl (aa aq (aa (pv 3) (aa (pv 2) aj)))) (bD (aa bJ aj)) (bA _)) (pe_one (aD g__law_own (hr.mono (by decide)) rfl (aa (pv 6) (aa (pv 4) aj))))))))))), ?_⟩
  have sm := aB.refl H
  refine ⟨_, rfl, a, rfl, ⟨_, aU.of pic.top⟩, fun due hD_ => ?_⟩
  refine ie (k := 0) (fun x => ((rowOf H x).getD []).map fun v => match v with | .int c => clr cs c | _ => .non) (src_list (aU.of pic.top)) (by rw [List.length_map, pic.len, gP]; exact Nat.le_trans gd.le (by decide)) hD_ (fun x hx H' Q' sm' kk => ?_) fun qsdue Hdue sdue fqdue pvdue => ?_
  case refine_1 =>
   obtain ⟨y, hy, rfl⟩ := List.mem_map.mp hx
   obtain ⟨rs, ey, hl', hcs, hmem⟩ := gd.mem2 pic hy
   rw [aH ey] at kk
   refine ⟨_, rfl, y, rfl, ⟨_, aU.of (sm' _ _ ey)⟩, fun D3 hD3 => ?_⟩
   refine cU (k := 0) (fun v => match v with | .int c => clr cs c | _ => .non) (fun _ => true) (src_list (aU.of (sm' _ _ ey))) (by rw [List.length_map, hl']; exact Nat.le_trans gd.w24 (by decide)) hD3 (fun x _ H' Qb _ kk => kk H' (aB.refl _)) (fun x hx _ H8 Q8 s8 kk8 => ?_) fun H8 s8 e8 => ?_
   ·obtain ⟨v, hv, rfl⟩ := List.mem_map.mp hx
    have v0 := (hcs v hv).1
    have vl : v.toNat < cs.length := by have := lt rs hmem v hv; omega
    have co8 := (co.mono sm').mono s8
    refine ⟨_, rfl, _, rfl, o, _, _, _, rfl, rfl, aU.of co8.1, ?_, kk8 H8 (aB.refl _)⟩
    have := aW (xs := cs.map (fun c : C4 => V.ref c.1)) (j := v.toNat) (v := clr cs v) (by unfold clr; rw [List.getElem?_map, List.getD_eq_getElem?_getD, List.getElem?_eq_getElem vl]; rfl)
    rw [Int.toNat_of_nonneg v0] at this
    exact this
   ·refine kk D3 H8 s8 hD3 ?_
    rw [e8, cR]; rfl
  have pvdue : bx Hdue due qsdue (shR cs rows) := Eq.mp (congrArg (bx Hdue due qsdue) (key_rows (H := H) (clr cs) ps rows pic.row)) pvdue
  have sm := sm.trans sdue
  have pic := pic.mono sdue
  have co := co.mono sdue
  have pq := pq.mono sdue
  have bad := bad.mono sdue
  clear sdue
  refine ⟨_, rfl, a, ps, _, rfl, pic, by rw [gP]; have := gd.le; omega, fun h0 hs H1 s1 fh0 fhs pich => ?_⟩
  have sm := sm.trans s1
  have pic := pic.mono s1
  have co := co.mono s1
  have pq := pq.mono s1
  have bad := bad.mono s1
  have pvdue := pvdue.mono s1
  clear s1
  have Ksm := sm
  have sK := aB.refl H1
  refine ⟨_, rfl, _, rfl, _, p, l, cs, rfl, pq, .inl ⟨h0, hs, rows, wd, rfl, pich, gd, fun _ fo fs H2 s2 ffo ffs picf => ?_, fun h => absurd h (by have := max_lt gd lt; omega)⟩⟩
  have nfd : ∀ p ∈ fs, p ∉ due :: qsdue := fun p hp z => by
   have fp := ffs p hp
   rcases List.mem_cons.mp z with z | z
   ·rw [z, pvdue.top] at fp; cases fp
   ·obtain ⟨_, _, e⟩ := pvdue.mem z
    rw [fp] at e; cases e
  have sm := sm.trans s2
  have pic := pic.mono s2
  have co := co.mono s2
  have pq := pq.mono s2
  have bad := bad.mono s2
  have pvdue := pvdue.mono s2
  have pich := pich.mono s2
  clear s2
  refine ⟨_, rfl, _, rfl, fo, due, fs, qsdue, _, _, rfl, picf, pvdue, by rw [shR_len]; have := gd.le; omega, jg shR_flat, fun H3 s3 => ⟨_, rfl, ?_⟩⟩
  have sm := sm.trans s3
  have pic := pic.mono s3
  have co := co.mono s3
  have pq := pq.mono s3
  have bad := bad.mono s3
  have pvdue := pvdue.mono s3
  have pich := pich.mono s3
  have picf := picf.mono s3
  clear s3
  refine ⟨_, rfl, _, rfl, 2, h0, a, true, by decide, rfl, rfl, eq_pics pich pic (jg ir_flat), _, rfl, ?_⟩
  obtain ⟨⟨dx_, hp_⟩, _⟩ := id pq
  refine ⟨_, rfl, p, dx_, _, rfl, hp_, fY (by decide +kernel), p, l, cs, rfl, pq, fun r1 h_ => ?_⟩
  obtain ⟨z_, er1⟩ := bY (HO.lst (cs.map (fun c : C4 => V.ref c.1))) h_
  generalize upd H3 r1 (HO.lst (cs.map (fun c : C4 => V.ref c.1))) = G1 at z_ er1 ⊢
  have sm := sm.trans z_
  have co := co.mono z_
  have pq := pq.mono z_
  have bad := bad.mono z_
  have pvdue := pvdue.mono z_
  have picf := picf.mono z_
  clear z_ h_
  refine ⟨_, rfl, 0, r1, o, true, by decide, rfl, rfl, eq_lsts er1 co.1 refs_flat, _, rfl, ?_⟩
  refine ⟨_, rfl, _, rfl, bv, _, 0, rfl, .inl ⟨rfl, p, l, cs, rfl, pq, .inl ⟨bad, fun u H4 s4 fu eu => ?_⟩⟩⟩
  have sm := sm.trans s4
  have pvdue := pvdue.mono s4
  have picf := picf.mono s4
  clear s4
  refine ⟨sz1, fun v1 h_ => ?_⟩
  obtain ⟨z_, ev1⟩ := bY (HO.tup [V.str "picture"]) h_
  generalize upd H4 v1 (HO.tup [V.str "picture"]) = G2 at z_ ev1 ⊢
  have sm := sm.trans z_
  have pvdue := pvdue.mono z_
  have picf := picf.mono z_
  have eu := z_ _ _ eu
  clear z_ h_
  refine ⟨0, u, v1, true, by decide, rfl, rfl, iH eu ev1 (fun y hy => (by rw [List.mem_singleton.mp hy]; exact .inr rfl)), _, rfl, ?_⟩
  refine ⟨_, rfl, _, rfl, fo, due, fs, qsdue, _, rfl, picf, pvdue, nfd, by rw [shR_len]; have := gd.le; omega, fun r hr => ?_, shR_flat, fun H9 k9 => k H9 fun b ob hb => k9 b ob (sm b ob hb) fun z => ?_⟩
  ·obtain ⟨r0, h0, rfl⟩ := List.mem_map.mp hr
   rw [List.length_map, (gd.row r0 h0).1]; have := gd.w24; omega
  ·have := Ksm.free (ffs b z); rw [hb] at this; cases this
end
theorem pour_find {c1 c2 : List (C4)} {d : C4} (h : d ∈ c2) : (aG c1 c2).findIdx? (isC d.2.1 d.2.2.1 d.2.2.2) = some (idx (aG c1 c2) d) := by
 obtain ⟨i, hi⟩ := List.getElem?_of_mem h
 have tk : c2.take (i + 1) = c2.take i ++ [d] := by rw [List.take_add_one, hi]; rfl
 obtain ⟨e, he⟩ := pour_take c1 c2 (i + 1)
 rw [tk, pour_snoc] at he
 obtain ⟨j, hj⟩ := addC_find (aG c1 (c2.take i)) d
 have := find_pre (e := e) hj
 rw [← he] at this
 unfold idx
 rw [this]; rfl
theorem pour_len (c1 c2 : List (C4)) : (aG c1 c2).length ≤ c1.length + c2.length := by
 induction c2 generalizing c1 with
 | nil => exact Nat.le_refl _
 | cons d ds ih =>
  have := ih (fG c1 d)
  have h2 : (fG c1 d).length ≤ c1.length + 1 := by unfold fG; split <;> simp
  show (aG (fG c1 d) ds).length ≤ _
  rw [List.length_cons]; omega
theorem flat_lenC {rws : List (List (C4))} {wd : Nat} (g : GoodC rws wd) (i : Nat) : (rws.take i).flatten.length ≤ 576 := by
 have key : ∀ (R : List (List (C4))), (∀ r ∈ R, r.length = wd) → R.flatten.length = R.length * wd := by
  intro R
  induction R with
  | nil => intro _; simp
  | cons r R ih =>
   intro h
   rw [List.flatten_cons, List.length_append, ih fun r hr => h r (List.mem_cons_of_mem _ hr), h r List.mem_cons_self, List.length_cons, Nat.add_mul]
   omega
 rw [key _ fun r hr => g.row r (List.mem_of_mem_take hr)]
 have h1 : (rws.take i).length ≤ 24 := by rw [List.length_take]; have := g.le; omega
 exact Nat.le_trans (Nat.mul_le_mul h1 g.w24) (by decide)
theorem ix_rows {H1 : Hp} {a : Addr} {ps : List Addr} {rws : List (List (C4))} (p : eG H1 a ps rws) : (ps.map V.ref).map (fun x => ((rowOf H1 x).getD []).map (fun y => match dB H1 y with | some [.int r, .int g, .int b] => .int (((aG [] rws.flatten).findIdx? (isC r.toNat g.toNat b.toNat)).getD 0 : Nat) | _ => .non)) = ixR (aG [] rws.flatten) rws := by
 rw [map_pair (φ := fun r => r.map (fun y => match dB H1 y with | some [.int r, .int g, .int b] => .int (((aG [] rws.flatten).findIdx? (isC r.toNat g.toNat b.toNat)).getD 0 : Nat) | _ => .non)) (fun q r e => by rw [aH e]; rfl) ps _ p.pic.row]
 unfold cr ixR
 rw [List.map_map]
 refine List.map_congr_left fun r hr => ?_
 show (r.map (fun c : C4 => V.ref c.1)).map _ = _
 rw [List.map_map]
 refine List.map_congr_left fun d hd => ?_
 show (match dB H1 (.ref d.1) with | some [.int r, .int g, .int b] => V.int (((aG [] rws.flatten).findIdx? (isC r.toNat g.toNat b.toNat)).getD 0 : Nat) | _ => .non) = _
 rw [fW (p.col r hr d hd).top]; rfl
noncomputable def spTD : Sp := fun vs H Q _ => ∃ (a : Addr) (ps : List Addr) (rws : List (List (C4))) (wd : Nat), vs = [.ref a] ∧ eG H a ps rws ∧ GoodC rws wd ∧ ∀ t q d qs H', aB H H' → H t = none → H q = none → H d = none → Fresh H qs → bF H' q (aG [] rws.flatten) → bx H' d qs (ixR (aG [] rws.flatten) rws) → H' t = some (.tup [.ref q, .ref d]) → Q (.ref t) H'
section
variable {P : Program} {w : World} {K : W.Frag} {mg : Str → Option Value} {base : Heap} {cFE cC cN cM cP cL cB cD cZ : Addr} {tP tS tC tI : Tok}
theorem eY : aO ["_law_rows", "_law_colours", "_law_row", "_law_colour_here"] ["_law_rows"] (ao cX) := ⟨rfl, rfl, rfl, by decide +kernel, rfl, by decide +kernel, by decide +kernel⟩
theorem ok_law_taken_due {f : Addr} {fd : FuncData} (F : bI K "_law_taken_due" "_law_taken_due" cX .none f fd) (T : Txt K mg cFE cC cN cM cP cL cB cD cZ tP tS tC tI) : bB P w K mg base gh 1 f fd ["_law_rows"] (spTD) := by
 refine F.ok eY (fun vs H Q E h => ?_) (fun cdv A outer s H vs Q E hr h => ?_)
 ·obtain ⟨a, ps, rws, wd, rfl, _⟩ := h; rfl
 ·obtain ⟨a, ps, rws, wd, rfl, cp, gd, k⟩ := h
  have hu : _ + 64 < cLine := hr.units
  refine ⟨_, (au (aQ (i := 1) eY.nd rfl (by first | exact Or.inl rfl | exact Or.inr rfl) (aZ aj))
    (au (ps_for PassesOwn.never rfl (piK K rfl (pv 0)) (aP (i := 2) eY.nd rfl (by first | exact Or.inl rfl | exact Or.inr rfl)) (aA (ps_for PassesOwn.never rfl (piK K rfl (pv 2)) (aP (i := 3) eY.nd rfl (by first | exact Or.inl rfl | exact Or.inr rfl)) (aA (bK (bj (op_notInD K rfl 1 (by decide) hu) (pv 3) (pv 1) (by with_unfolding_all rfl)) (aA (cz (pe_bm PySem.F.plainAttrs_list PySem.F.slot_list_append PySem.F.type_list_append cH (pv 1) (aa (pv 3) aj)))) aV)))))
    (aA (aM (bD (aa (pv 1) (aa (bG (N := ["_law_row", "_law_colours"]) (src := [none, some 1]) rfl ⟨rfl, rfl, rfl, rfl, rfl, by decide +kernel⟩ (piK K rfl (pv 0)) (fun s H C fp => aP (i := 0) (show (["_law_row", "_law_colours"] : List Str).Nodup by decide +kernel) rfl (by first | exact Or.inl rfl | exact Or.inr rfl)) (fun s H C fp => bh) (fun s H C fp => (bG (N := ["_law_colour_here", "_law_colours"]) (src := [none, some 1]) rfl ⟨rfl, rfl, rfl, rfl, rfl, by decide +kernel⟩ (piK K rfl (pv 0)) (fun s H C fp => aP (i := 0) (show (["_law_colour_here", "_law_colours"] : List Str).Nodup by decide +kernel) rfl (by first | exact Or.inl rfl | exact Or.inr rfl)) (fun s H C fp => bh) (fun s H C fp => (pe_bmK K rfl PySem.F.plainAttrs_list PySem.F.slot_list_index PySem.F.type_list_index (mt_indexL K rfl 1 (by decide) hu) (pv 1) (aa (pv 0) aj)))))) aj))))))), ?_⟩
  refine ⟨sz0, fun q hq => ?_⟩
  have z1 := az (o := HO.lst []) hq
  refine ⟨_, rfl, a, rfl, ⟨_, aU.of (z1 _ _ cp.pic.top)⟩, ?_⟩
  refine for_list (xs := ps.map V.ref) (fun i σ H1 => aB H H1 ∧ bF H1 q (aG [] (rws.take i).flatten) ∧ ∃ v1 v2, σ = [some (.ref a), some (.ref q), v1, v2]) ⟨z1, ⟨ak, fun c hc => nomatch hc⟩, none, none, rfl⟩ (fun i σ H1 _ p => aU.of (p.1 _ _ cp.pic.top)) ?_ ?_
  ·rintro i x σ H1 hx ⟨s1, cq, v1, v2, rfl⟩
   obtain ⟨b, hb, rfl⟩ := getElem?_ref hx
   obtain ⟨r, hr', er⟩ := cp.row hb
   have mr := List.mem_of_getElem? hr'
   refine ⟨_, rfl, b, rfl, ⟨_, aU.of (s1 _ _ er)⟩, ?_⟩
   refine for_list (xs := r.map (fun c : C4 => V.ref c.1)) (fun j σ H2 => aB H H2 ∧ bF H2 q (aG [] ((rws.take i).flatten ++ r.take j)) ∧ ∃ v2, σ = [some (.ref a), some (.ref q), some (.ref b), v2]) ⟨s1, by rw [List.take_zero, List.append_nil]; exact cq, _, rfl⟩ (fun j σ H2 _ p => aU.of (p.1 _ _ er)) ?_ ?_
   ·rintro j x σ H2 hx ⟨s2, cq2, v2, rfl⟩
    rw [List.getElem?_map] at hx
    cases hd : r[j]? with
    | none => rw [hd] at hx; cases hx
    | some d =>
     rw [hd] at hx
     cases hx
     have cd := (cp.col r mr d (List.mem_of_getElem? hd)).mono s2
     have tk := take_at hd
     have pk : aG [] ((rws.take i).flatten ++ r.take (j + 1)) = fG (aG [] ((rws.take i).flatten ++ r.take j)) d := by rw [tk, ← List.append_assoc, pour_snoc]
     refine ⟨_, rfl, _, rfl, in_cols (neg := true) cq2 cd ⟨_, rfl, ?_⟩⟩
     cases hf : (aG [] ((rws.take i).flatten ++ r.take j)).findIdx? (isC d.2.1 d.2.2.1 d.2.2.2) with
     | some jj =>
      have ea : fG (aG [] ((rws.take i).flatten ++ r.take j)) d = aG [] ((rws.take i).flatten ++ r.take j) := by unfold fG; rw [hf]; rfl
      exact ⟨s2, by rw [pk, ea]; exact cq2, _, rfl⟩
     | none =>
      have ea : fG (aG [] ((rws.take i).flatten ++ r.take j)) d = aG [] ((rws.take i).flatten ++ r.take j) ++ [d] := by unfold fG; rw [hf]; rfl
      have pl := pour_len [] ((rws.take i).flatten ++ r.take j)
      have fl := flat_lenC gd i
      have rl := gd.row r mr
      have w24 := gd.w24
      rw [List.length_append, List.length_take] at pl
      refine ⟨_, rfl, .inl ⟨rfl, _, aU.of cq2.1⟩, _, rfl, q, _, _, rfl, rfl, cq2.1, Nat.lt_of_lt_of_le (by rw [List.length_map]; simp only [List.length_nil] at pl; omega : _ < 5000) (by decide), ?_⟩
      have f5 : Fr0 q H2 (upd H2 q (.lst ((aG [] ((rws.take i).flatten ++ r.take j)).map (fun c : C4 => V.ref c.1) ++ [.ref d.1]))) := fun b o hb hne => by rw [aJ hne]; exact hb
      exact ⟨aY s2 hq, by rw [pk, ea]; exact bF.snoc ak (fun x hx => f5.col cq2.1 (cq2.2 x hx)) (f5.col cq2.1 cd), _, rfl⟩
   ·rintro σ H2 ⟨s2, cq2, v2, rfl⟩
    rw [List.length_map, List.take_length, ← flat_next hr'] at cq2
    exact ⟨s2, cq2, _, _, rfl⟩
  ·rintro σ H1 ⟨s1, cq, v1, v2, rfl⟩
   rw [List.length_map, cp.len, List.take_length] at cq
   have cp1 := cp.mono s1
   refine ⟨_, rfl, _, rfl, a, rfl, ⟨_, aU.of cp1.pic.top⟩, fun D hD => ?_⟩
   refine ie (k := 0) (fun x => ((rowOf H1 x).getD []).map (fun y => match dB H1 y with | some [.int r, .int g, .int b] => .int (((aG [] rws.flatten).findIdx? (isC r.toNat g.toNat b.toNat)).getD 0 : Nat) | _ => .non)) (src_list (aU.of cp1.pic.top)) (by rw [List.length_map, cp1.len]; exact Nat.le_trans gd.le (by decide)) hD (fun x hx H' Q' sm kk => ?_) fun qs H2 s2 fq pr => ?_
   ·obtain ⟨b, hb, rfl⟩ := List.mem_map.mp hx
    obtain ⟨i, hi⟩ := List.getElem?_of_mem hb
    obtain ⟨r, hr', er⟩ := cp1.row hi
    have mr := List.mem_of_getElem? hr'
    rw [aH er] at kk
    refine ⟨_, rfl, b, rfl, ⟨_, aU.of (sm _ _ er)⟩, fun D2 hD2 => ?_⟩
    refine cU (k := 0) (fun y => match dB H1 y with | some [.int r, .int g, .int b] => .int (((aG [] rws.flatten).findIdx? (isC r.toNat g.toNat b.toNat)).getD 0 : Nat) | _ => .non) (fun _ => true) (src_list (aU.of (sm _ _ er))) (by rw [List.length_map, gd.row r mr]; exact Nat.le_trans gd.w24 (by decide)) hD2 (fun x _ H' Qb _ kk => kk H' (aB.refl _)) (fun x hx _ H4 Q4 s4 kk4 => ?_) fun H4 s4 e4 => ?_
    ·obtain ⟨d, hd, rfl⟩ := List.mem_map.mp hx
     have cd := cp1.col r mr d hd
     have := kk4 H4 (aB.refl _)
     rw [fW cd.top] at this
     have c4 := cq.mono (sm.trans s4)
     refine ⟨_, rfl, .inl ⟨rfl, _, aU.of c4.1⟩, _, rfl, ?_⟩
     dsimp only [tNil]
     exact index_cols c4 (cd.mono (sm.trans s4)) (pour_find (List.mem_flatten.mpr ⟨r, mr, hd⟩)) this
    ·refine kk D2 H4 s4 hD2 ?_
     rw [e4, cR]; rfl
   ·rw [ix_rows cp1] at pr
    refine ⟨sz2, fun t ht => ?_⟩
    have zt := az (o := HO.tup [V.ref q, .ref D]) ht
    have s12 := s1.trans s2
    exact k t q D qs _ (s12.trans zt) (s12.free ht) hq (s1.free hD) (fun x hx => s1.free (fq x hx)) ((cq.mono s2).mono zt) (pr.mono zt) ak
end
theorem idx_at {c e : List (C4)} {d : C4} (hd : d ∈ e) : ∃ x, (aG c e)[idx (aG c e) d]? = some x ∧ x.2 = d.2 := by
 have h := pour_find (c1 := c) hd
 obtain ⟨hlt, hp, _⟩ := List.findIdx?_eq_some_iff_getElem.mp h
 exact ⟨_, List.getElem?_eq_getElem hlt, of_decide_eq_true hp⟩
theorem idx_lt {c e : List (C4)} {d : C4} (hd : d ∈ e) : idx (aG c e) d < (aG c e).length := by
 obtain ⟨x, h, _⟩ := idx_at (c := c) hd
 exact (List.getElem?_eq_some_iff.mp h).1
theorem isTup_tup {K : W.Frag} {H : Hp} {a : Addr} {xs : List V} (e : H a = some (.tup xs)) : IsX K H (.ref a) (.type "tuple") true := by
 have := (Kd.tup (K := K) e).isTuple
 have h : isT H (.ref a) = true := by simp only [isT, e]
 rw [h] at this; exact this
theorem cr_flat {rws : List (List (C4))} : ∀ r ∈ cr rws, ∀ x ∈ r, (∃ a, x = .ref a) ∨ gM x = true := fun r hr x hx => by
 obtain ⟨r0, _, rfl⟩ := List.mem_map.mp hr
 obtain ⟨c, _, rfl⟩ := List.mem_map.mp hx
 exact .inl ⟨_, rfl⟩
theorem cr_len {rws : List (List (C4))} : (cr rws).length = rws.length := List.length_map _
theorem ixR_flat {C : List (C4)} {rws : List (List (C4))} : ∀ r ∈ ixR C rws, ∀ x ∈ r, (∃ a, x = .ref a) ∨ gM x = true := fun r hr x hx => by
 obtain ⟨r0, _, rfl⟩ := List.mem_map.mp hr
 obtain ⟨c, _, rfl⟩ := List.mem_map.mp hx
 exact .inr rfl
theorem ixR_len {C : List (C4)} {rws : List (List (C4))} : (ixR C rws).length = rws.length := List.length_map _
noncomputable def ixI (C : List (C4)) (rws : List (List (C4))) : List (List Int) := rws.map fun r => r.map fun d => (idx C d : Int)
theorem ixR_ir (C : List (C4)) (rws : List (List (C4))) : ixR C rws = ir (ixI C rws) := by
 unfold ixR ir ixI
 rw [List.map_map]
 exact List.map_congr_left fun r _ => (List.map_map ..).symm
theorem good_ix {rws : List (List (C4))} {wd : Nat} (g : GoodC rws wd) (h : (aG [] rws.flatten).length ≤ 16) : Good (ixI (aG [] rws.flatten) rws) wd ∧ ∀ r ∈ ixI (aG [] rws.flatten) rws, ∀ x ∈ r, x < ((aG [] rws.flatten).length : Int) := by
 have key : ∀ r ∈ ixI (aG [] rws.flatten) rws, ∀ x ∈ r, 0 ≤ x ∧ x < ((aG [] rws.flatten).length : Int) := fun r hr x hx => by
  obtain ⟨r0, h0, rfl⟩ := List.mem_map.mp hr
  obtain ⟨d, hd, rfl⟩ := List.mem_map.mp hx
  have := idx_lt (c := []) (List.mem_flatten.mpr ⟨r0, h0, hd⟩)
  omega
 refine ⟨⟨by unfold ixI; rw [List.length_map]; exact g.ne, by unfold ixI; rw [List.length_map]; exact g.le, g.w1, g.w24, fun r hr => ⟨?_, fun c hc => by have := key r hr c hc; omega⟩⟩, fun r hr x hx => (key r hr x hx).2⟩
 obtain ⟨r0, h0, rfl⟩ := List.mem_map.mp hr
 rw [List.length_map]; exact g.row r0 h0
theorem shown_eq {K : W.Frag} {H : Hp} {q a : Addr} {ps : List Addr} {rws : List (List (C4))} (cq : bF H q (aG [] rws.flatten)) (cp : eG H a ps rws) : RowsEq K H (shR (aG [] rws.flatten) (ixI (aG [] rws.flatten) rws)) (cr rws) := by
 unfold shR ixI cr
 refine ⟨by simp only [List.length_map], fun i r s hr hs => ?_⟩
 rw [List.map_map, List.getElem?_map] at hr
 rw [List.getElem?_map] at hs
 cases hi : rws[i]? with
 | none => rw [hi] at hs; cases hs
 | some r0 =>
  rw [hi] at hr hs
  cases hr
  cases hs
  refine ⟨by simp only [Function.comp_apply, List.length_map], fun j x y hx hy => ?_⟩
  rw [List.getElem?_map] at hy
  have hx : ((r0.map fun d => (idx (aG [] rws.flatten) d : Int)).map (clr (aG [] rws.flatten)))[j]? = some x := hx
  rw [List.getElem?_map, List.getElem?_map] at hx
  cases hj : r0[j]? with
  | none => rw [hj] at hy; cases hy
  | some d =>
   rw [hj] at hx hy
   cases hx
   cases hy
   have mr := List.mem_of_getElem? hi
   have md := List.mem_of_getElem? hj
   obtain ⟨x, hx, h2⟩ := idx_at (c := []) (List.mem_flatten.mpr ⟨r0, mr, md⟩)
   have e3 : clr (aG [] rws.flatten) (idx (aG [] rws.flatten) d : Int) = .ref x.1 := by
    unfold clr; rw [Int.toNat_natCast, List.getD_eq_getElem?_getD, hx]; rfl
   rw [e3]
   have ee := colour_eqD (K := K) (cq.2 x (List.mem_of_getElem? hx)) (cp.col r0 mr d md)
   rw [decide_eq_true (show (x.2.1, x.2.2.1, x.2.2.2) = (d.2.1, d.2.2.1, d.2.2.2) by rw [h2])] at ee
   exact ee
noncomputable def spTG : Sp := fun vs H Q _ => ∃ (a : Addr) (ps : List Addr) (rws : List (List (C4))) (wd : Nat), vs = [.ref a] ∧ eG H a ps rws ∧ GoodC rws wd ∧ (aG [] rws.flatten).length ≤ 16 ∧ ∀ H', aB H H' → Q (.bl true) H'
section
variable {P : Program} {w : World} {K : W.Frag} {mg : Str → Option Value} {base : Heap} {cFE cC cN cM cP cL cB cD cZ : Addr} {tP tS tC tI : Tok}
theorem di : aO ["_law_handed", "_law_rows", "_law_colours", "_law_picture_here", "_law_found"] ["_law_handed"] (ao cI) := ⟨rfl, rfl, rfl, by decide +kernel, rfl, by decide +kernel, by decide +kernel⟩
theorem ok_law_taken_good {f : Addr} {fd : FuncData} (F : bI K "_law_taken_good" "_law_taken_good" cI .none f fd) (T : Txt K mg cFE cC cN cM cP cL cB cD cZ tP tS tC tI) (g__law_copied : iR P w K mg base 1 "_law_copied" ["_law_rows"] [] (spCop)) (g__law_taken_due : iR P w K mg base 1 "_law_taken_due" ["_law_rows"] [] (spTD)) (g_taken_picture : DefX P w K mg base 8 "taken_picture" ["rows"] [] (spTaken K cB cM cL)) (g_m_colours : MetD P w K mg base cL 1 "colours" ["self"] (spCols cL)) (g__law_rows_good : iR P w K mg base 1 "_law_rows_good" ["_law_found", "_law_due"] [] (spRG K)) (g__law_whole : iR P w K mg base 1 "_law_whole" ["_law_found"] [] (spWhole)) (g_shown_picture : DefX P w K mg base 11 "shown_picture" ["picture", "palette"] [] (spShow K cB cN cL)) (g__law_own : iR P w K mg base 1 "_law_own" ["_law_found", "_law_due"] [] (spOwnV)) : bB P w K mg base gh 12 f fd ["_law_handed"] (spTG) := by
 refine F.ok di (fun vs H Q E h => ?_) (fun cdv A outer s H vs Q E hr h => ?_)
 ·obtain ⟨a, ps, rws, wd, rfl, _⟩ := h; rfl
 ·obtain ⟨a, ps, rws, wd, rfl, cp, gd, h16, k⟩ := h
  have hu : _ + 64 < cLine := hr.units
  refine ⟨_, (au (aQ (i := 1) di.nd rfl (by first | exact Or.inl rfl | exact Or.inr rfl) (aD g__law_copied (hr.mono (by decide)) rfl (aa (pv 0) aj)))
    (au (ps_asg (aD g__law_taken_due (hr.mono (by decide)) rfl (aa (pv 1) aj)) (pg_tup rfl (jb (aP (i := 2) di.nd rfl (by first | exact Or.inl rfl | exact Or.inr rfl)) (jb (aP (i := 3) di.nd rfl (by first | exact Or.inl rfl | exact Or.inr rfl)) pgs_nil))))
    (au (aQ (i := 4) di.nd rfl (by first | exact Or.inl rfl | exact Or.inr rfl) (fK g_taken_picture (hr.mono (by decide)) passF rfl (aa (pv 0) aj)))
    (au (bK (PW.pt (iw (bW (bH (isiK K rfl (pv 4) rfl T.isinstance rfl T.tuple PyProof.Rows.boot_tuple))) (iw (bj op_ne (aN (lenK K rfl) rfl T.len PySem.boot_len (aa (pv 4) aj)) aq (bA _)) (iw (bW (bH (isiCK K rfl (bM (ixTK K rfl) (pv 4) aq (fun _ _ => rfl)) rfl T.isinstance rfl T.mgL))) (gQ (bj (neDK K rfl hu) (pv 0) (pv 1) (bA _))))))) (aA (aM fj)) aV)
    (au (bK (PW.pt (iw (bj (neDK K rfl hu) (iz (bM (ixTK K rfl) (pv 4) aq (fun _ _ => rfl)) T.cl g_m_colours (hr.mono (by decide))) (pv 2) (bA _)) (gQ (bW (bH (aD g__law_rows_good (hr.mono (by decide)) rfl (aa (bM (ixTK K rfl) (pv 4) aq (fun _ _ => rfl)) (aa (pv 3) aj)))))))) (aA (aM fj)) aV)
    (au (bK (bW (bH (aN (allK K rfl rfl) rfl T.all PyProof.Rows.boot_all (aa (bG (N := ["_law_row"]) (src := [none]) rfl ⟨rfl, rfl, rfl, rfl, rfl, by decide +kernel⟩ (piK K rfl (bM (ixTK K rfl) (pv 4) aq (fun _ _ => rfl))) (fun s H C fp => aP (i := 0) (show (["_law_row"] : List Str).Nodup by decide +kernel) rfl (by first | exact Or.inl rfl | exact Or.inr rfl)) (fun s H C fp => bh) (fun s H C fp => (aN (allK K rfl rfl) rfl T.all PyProof.Rows.boot_all (aa (bG (N := ["_law_cell"]) (src := [none]) rfl ⟨rfl, rfl, rfl, rfl, rfl, by decide +kernel⟩ (piK K rfl (pv 0)) (fun s H C fp => aP (i := 0) (show (["_law_cell"] : List Str).Nodup by decide +kernel) rfl (by first | exact Or.inl rfl | exact Or.inr rfl)) (fun s H C fp => bh) (fun s H C fp => (aD g__law_whole (hr.mono (by decide)) rfl (aa (pv 0) aj)))) aj)))) aj)))) (aA (aM fj)) aV)
    (aA (aM (pe_and (aD g__law_rows_good (hr.mono (by decide)) rfl (aa (fK g_shown_picture (hr.mono (by decide)) passF rfl (aa (bM (ixTK K rfl) (pv 4) aq (fun _ _ => rfl)) (aa (bM (ixTK K rfl) (pv 4) aq (fun _ _ => rfl)) aj))) (aa (pv 1) aj))) (pe_one (aD g__law_own (hr.mono (by decide)) rfl (aa (bM (ixTK K rfl) (pv 4) aq (fun _ _ => rfl)) (aa (pv 3) aj))))))))))))), ?_⟩
  have sm := aB.refl H
  have gle := gd.le
  refine ⟨_, rfl, a, ps, cr rws, rfl, cp.pic, by rw [cr_len]; omega, fun h hs H1 s1 fh fhs pich => ?_⟩
  have cph : eG H1 h hs rws := ⟨pich, fun r hr d hd => (cp.col r hr d hd).mono s1⟩
  have sm := sm.trans s1
  have cp := cp.mono s1
  clear s1
  refine ⟨_, rfl, h, hs, rws, wd, rfl, cph, gd, fun t q d qs H2 s2 ft fq fd fqs cq pd et => ?_⟩
  have sm := sm.trans s2
  have cp := cp.mono s2
  have cph := cph.mono s2
  clear s2
  refine ⟨t, _, rfl, dC.of et, rfl, _, _, rfl, _, _, rfl, rfl, ?_⟩
  clear et
  have Ksm := sm
  refine ⟨_, rfl, _, rfl, .inr ⟨a, ps, rws, wd, rfl, cp, gd, fun _ u p l f fs H3 s3 fu fp fl ff ffs pal pf nl eu => ?_, fun h => absurd h (by omega)⟩⟩
  have nfd : ∀ p ∈ fs, p ∉ d :: qs := fun p hp z => by
   have fp := ffs p hp
   rcases List.mem_cons.mp z with z | z
   ·rw [z, pd.top] at fp; cases fp
   ·obtain ⟨_, _, e⟩ := pd.mem z
    rw [fp] at e; cases e
  have sm := sm.trans s3
  have cp := cp.mono s3
  have cph := cph.mono s3
  have cq := cq.mono s3
  have pd := pd.mono s3
  clear s3
  refine ⟨_, rfl, true, isTup_tup eu, _, rfl, ?_⟩
  refine ⟨_, rfl, u, _, rfl, .inr (dC.of eu), rfl, _, rfl, ?_⟩
  obtain ⟨⟨dx_, hp_⟩, _⟩ := id pal
  refine ⟨_, rfl, u, _, _, _, rfl, rfl, dC.of eu, aW (j := 0) rfl, true, ⟨_, .of (TyOf.ins hp_ T.cl T.cA T.cG T.cT T.cO), T.kL⟩, _, rfl, ?_⟩
  refine ⟨_, rfl, _, rfl, 2, a, h, true, by decide, rfl, rfl, eq_pics cp.pic cph.pic (jg cr_flat), _, rfl, ?_⟩
  refine ⟨_, rfl, u, _, _, _, rfl, rfl, dC.of eu, aW (j := 0) rfl, p, dx_, _, rfl, hp_, fY (by decide +kernel), p, l, _, rfl, pal, fun r1 h_ => ?_⟩
  clear hp_
  obtain ⟨z_, er1⟩ := bY (HO.lst ((aG [] rws.flatten).map (fun c : C4 => V.ref c.1))) h_
  generalize upd H3 r1 (HO.lst ((aG [] rws.flatten).map (fun c : C4 => V.ref c.1))) = G1 at z_ er1 ⊢
  have sm := sm.trans z_
  have cph := cph.mono z_
  have cq := cq.mono z_
  have pd := pd.mono z_
  have pal := pal.mono z_
  have pf := pf.mono z_
  have eu := z_ _ _ eu
  clear z_ h_
  refine ⟨_, rfl, 0, r1, q, true, by decide, rfl, rfl, eq_lsts er1 cq.1 refs_flat, _, rfl, ?_⟩
  refine ⟨_, rfl, u, _, _, _, rfl, rfl, dC.of eu, aW (j := 1) rfl, _, rfl, f, d, fs, qs, _, _, rfl, pf, pd, by rw [ixR_len]; omega, jg ixR_flat, fun H4 s4 => ⟨_, rfl, ?_⟩⟩
  have sm := sm.trans s4
  have cph := cph.mono s4
  have cq := cq.mono s4
  have pd := pd.mono s4
  have pal := pal.mono s4
  have pf := pf.mono s4
  have eu := s4 _ _ eu
  clear s4
  obtain ⟨gI, ltI⟩ := good_ix gd h16
  have pfI := pf
  rw [ixR_ir] at pfI
  refine ⟨_, rfl, u, _, _, _, rfl, rfl, dC.of eu, aW (j := 1) rfl, f, rfl, ⟨_, aU.of pf.top⟩, fun D4 hD4 => ?_⟩
  refine cU (k := 0) (fun _ => .bl true) (fun _ => true) (src_list (aU.of pf.top)) (by rw [List.length_map, pf.len, ixR_len]; exact Nat.le_trans gle (by decide)) hD4 (fun x _ H' Qb _ kk => kk H' (aB.refl _)) (fun x hx _ H' Q' sm' kk => ?_) fun H7 s7 hD7 => ?_
  case refine_1 =>
   obtain ⟨y, hy, rfl⟩ := List.mem_map.mp hx
   obtain ⟨rs, ey, hl', hcs, hmem⟩ := gI.mem2 pfI hy
   refine ⟨_, rfl, y, rfl, ⟨_, aU.of (sm' _ _ ey)⟩, fun D3 hD3 => ?_⟩
   refine cU (k := 0) (fun _ => .bl true) (fun _ => true) (src_list (aU.of (sm' _ _ ey))) (by rw [List.length_map, hl']; exact Nat.le_trans gd.w24 (by decide)) hD3 (fun x _ H' Qb _ kk => kk H' (aB.refl _)) (fun x hx _ H8 Q8 s8 kk8 => ?_) fun H8 s8 e8 => ?_
   ·obtain ⟨v, hv, rfl⟩ := List.mem_map.mp hx
    exact ⟨_, rfl, _, rfl, kk8 H8 (aB.refl _)⟩
   ·have eD3 : H8 D3 = some (.lst (((rs.map V.int).map fun _ => true).map V.bl)) := by rw [e8, cR]; simp only [List.map_map]; rfl
    refine ⟨D3, _, rfl, aU.of eD3, ?_⟩
    rw [all_rep]
    exact kk H8 s8
  have eD4 : H7 D4 = some (.lst (((fs.map V.ref).map fun _ => true).map V.bl)) := by rw [hD7, cR]; simp only [List.map_map]; rfl
  clear hD7
  have sm := sm.trans s7
  have cph := cph.mono s7
  have cq := cq.mono s7
  have pd := pd.mono s7
  have pal := pal.mono s7
  have pf := pf.mono s7
  have eu := s7 _ _ eu
  have pfI := pfI.mono s7
  clear s7
  refine ⟨D4, _, rfl, aU.of eD4, ?_⟩
  rw [all_rep]
  refine ⟨_, rfl, ?_⟩
  refine ⟨_, rfl, u, _, _, _, rfl, rfl, dC.of eu, aW (j := 1) rfl, _, rfl, u, _, _, _, rfl, rfl, dC.of eu, aW (j := 0) rfl, _, p, l, _, rfl, pal, .inl ⟨f, fs, _, wd, rfl, pfI, gI, fun _ g gs H8 s8 _ _ pg => ?_, fun h => absurd h (by have := max_lt gI ltI; omega)⟩⟩
  have sm := sm.trans s8
  have cph := cph.mono s8
  have cq := cq.mono s8
  have pd := pd.mono s8
  have pf := pf.mono s8
  have eu := s8 _ _ eu
  clear s8
  refine ⟨_, rfl, g, h, gs, hs, _, _, rfl, pg, cph.pic, by rw [shR_len]; unfold ixI; rw [List.length_map]; omega, shown_eq cq cph, fun H9 s9 => ⟨_, rfl, ?_⟩⟩
  have sm := sm.trans s9
  have pd := pd.mono s9
  have pf := pf.mono s9
  have eu := s9 _ _ eu
  clear s9
  refine ⟨_, rfl, u, _, _, _, rfl, rfl, dC.of eu, aW (j := 1) rfl, _, rfl, f, d, fs, qs, _, rfl, pf, pd, nfd, by rw [ixR_len]; omega, fun r hr => ?_, ixR_flat, fun H10 k10 => k H10 fun b ob hb => k10 b ob (sm b ob hb) fun z => ?_⟩
  ·obtain ⟨r0, h0, rfl⟩ := List.mem_map.mp hr
   rw [List.length_map, gd.row r0 h0]; have := gd.w24; omega
  ·have := Ksm.free (ffs b z); rw [hb] at this; cases this
end
theorem cut_hi (xs : List V) (k : Nat) : aX xs none (some (k : Int)) = xs.take k := by
 unfold aX
 rw [HT.sIx_none, HT.sIx_nat, List.drop_zero, Nat.sub_zero]
 exact List.take_eq_take_iff.mpr (by omega)
theorem cutV_mem {xs : List V} {lo hi : Option Int} {y : V} (h : y ∈ aX xs lo hi) : y ∈ xs := List.mem_of_mem_drop (List.mem_of_mem_take h)
theorem cut_lo (xs : List V) (k : Nat) (h : k ≤ xs.length) : aX xs (some (k : Int)) none = xs.drop k := by
 unfold aX
 rw [HT.sIx_none, HT.sIx_nat, Nat.min_eq_left h]
 exact List.take_of_length_le (by rw [List.length_drop]; omega)
theorem ixN_at {n y : Nat} (h : y < n) : ixN n (y : Int) = some y := by
 unfold ixN
 simp [h]
 try omega
structure Item (K : W.Frag) where
 one : Hp → V → Bool
 tk : Hp → V → Prop
 mono : ∀ {H H' : Hp} {v : V}, tk H v → aB H H' → tk H' v
 kd : ∀ {H : Hp} {v : V}, tk H v → Kd K H v
 omono : ∀ {H H' : Hp} {v : V}, tk H v → aB H H' → one H' v = one H v
noncomputable def rowGB {K : W.Frag} (I : Item K) (H : Hp) (ys : List V) : Bool := ys.all (I.one H) && bU 1 24 (.int (ys.length : Int))
noncomputable def iZ {K : W.Frag} (I : Item K) (H : Hp) (x : V) : Bool := match rowOf H x with
 | some ys => rowGB I H ys
 | none => false
noncomputable def picGB {K : W.Frag} (I : Item K) (H : Hp) (v : V) : Bool := match rowOf H v with
 | some xs => bU 1 24 (.int (xs.length : Int)) && (xs.all (iZ I H) && xs.all fun x => decide (lenOf H x = lenOf H (xs.headD .non)))
 | none => false
structure RwG {K : W.Frag} (I : Item K) (H : Hp) (x : V) : Prop where
 kd : Kd K H x
 len : ∀ ys, rowOf H x = some ys → ys.length ≤ 1000
 it : ∀ ys, rowOf H x = some ys → ∀ y ∈ ys, I.tk H y
structure ThG {K : W.Frag} (I : Item K) (H : Hp) (v : V) : Prop where
 kd : Kd K H v
 len : ∀ xs, rowOf H v = some xs → xs.length ≤ 1000
 it : ∀ xs, rowOf H v = some xs → ∀ x ∈ xs, RwG I H x
structure gR {K : W.Frag} (I : Item K) (H : Hp) (v : V) : Prop where
 th : ThG I H v
 no : picGB I H v = false
structure GoodV (rows : List (List V)) (w : Nat) : Prop where
 ne : 1 ≤ rows.length
 le : rows.length ≤ 24
 w1 : 1 ≤ w
 w24 : w ≤ 24
 row : ∀ r ∈ rows, r.length = w
theorem GoodV.mem2 {H : Hp} {a q : Addr} {ps : List Addr} {rows : List (List V)} {wd : Nat} (g : GoodV rows wd) (p : bx H a ps rows) (hq : q ∈ ps) : ∃ (ns : List V), H q = some (.lst ns) ∧ ns.length = wd ∧ True ∧ ns ∈ rows := by
 obtain ⟨r, hr, e⟩ := p.mem hq
 exact ⟨r, e, g.row r hr, trivial, hr⟩
section
variable {K : W.Frag} {I : Item K} {H H' : Hp} {x v : V}
theorem RwG.mono (r : RwG I H x) (s : aB H H') : RwG I H' x := by
 have e := bN r.kd s
 exact ⟨r.kd.mono s, fun ys h => r.len ys (by rw [← e]; exact h), fun ys h y hy => I.mono (r.it ys (by rw [← e]; exact h) y hy) s⟩
theorem rowQG_mono (r : RwG I H x) (s : aB H H') : iZ I H' x = iZ I H x := by
 unfold iZ; rw [bN r.kd s]
 cases h : rowOf H x with
 | none => rfl
 | some ys =>
  show rowGB I H' ys = rowGB I H ys
  unfold rowGB
  rw [je fun y hy => I.omono (r.it ys h y hy) s]
theorem gR.mono (b : gR I H x) (s : aB H H') : gR I H' x := by
 have t := b.th
 have e := bN t.kd s
 refine ⟨⟨t.kd.mono s, fun ys h => t.len ys (by rw [← e]; exact h), fun ys h y hy => (t.it ys (by rw [← e]; exact h) y hy).mono s⟩, ?_⟩
 rw [← b.no]
 unfold picGB
 rw [e]
 cases h : rowOf H x with
 | none => rfl
 | some xs =>
  dsimp only
  rw [je fun y hy => rowQG_mono (t.it xs h y hy) s]
  congr 2
  cases xs with
  | nil => rfl
  | cons z r =>
   refine je fun y hy => ?_
   show decide (lenOf H' y = lenOf H' z) = decide (lenOf H y = lenOf H z)
   rw [eF (t.it _ h y hy).kd s, eF (t.it _ h z List.mem_cons_self).kd s]
theorem RwG.lst {q : Addr} {r : List V} (e : H q = some (.lst r)) (hl : r.length ≤ 1000) (hk : ∀ y ∈ r, I.tk H y) : RwG I H (.ref q) :=
 ⟨.lst e, fun ys h => by rw [aH e] at h; cases h; exact hl, fun ys h => by rw [aH e] at h; cases h; exact hk⟩
theorem RwG.leaf (k : Kd K H x) (h : rowOf H x = Option.none) : RwG I H x := ⟨k, fun ys e => (by rw [h] at e; cases e), fun ys e => (by rw [h] at e; cases e)⟩
theorem rowOf_tup {a : Addr} {xs : List V} (e : H a = some (.tup xs)) : rowOf H (.ref a) = Option.none := by simp only [rowOf, e]
theorem RwG.tup {a : Addr} {xs : List V} (e : H a = some (.tup xs)) : RwG I H (.ref a) := .leaf (.tup e) (rowOf_tup e)
theorem ThG.lst {p : Addr} {xs : List V} (e : H p = some (.lst xs)) (hl : xs.length ≤ 1000) (hk : ∀ x ∈ xs, RwG I H x) : ThG I H (.ref p) :=
 ⟨.lst e, fun ys h => by rw [aH e] at h; cases h; exact hl, fun ys h => by rw [aH e] at h; cases h; exact hk⟩
theorem gbad_leaf (k : Kd K H v) (h : rowOf H v = none) : gR I H v := ⟨⟨k, fun ys e => (by rw [h] at e; cases e), fun ys e => (by rw [h] at e; cases e)⟩, by unfold picGB; rw [h]⟩
theorem gbad_len {p : Addr} {xs : List V} (e : H p = some (.lst xs)) (hl : xs.length ≤ 1000) (hk : ∀ x ∈ xs, RwG I H x) (hw : bU 1 24 (.int (xs.length : Int)) = false) : gR I H (.ref p) :=
 ⟨ThG.lst e hl hk, by unfold picGB; rw [aH e]; dsimp only; rw [hw, Bool.false_and]⟩
theorem gF {p : Addr} {xs : List V} (e : H p = some (.lst xs)) (hl : xs.length ≤ 1000) (hk : ∀ x ∈ xs, RwG I H x) (hx : ∃ x ∈ xs, iZ I H x = false) : gR I H (.ref p) := by
 refine ⟨ThG.lst e hl hk, ?_⟩
 obtain ⟨x, hm, hq⟩ := hx
 have : xs.all (iZ I H) = false := by
  rw [Bool.eq_false_iff]
  intro z
  rw [List.all_eq_true] at z
  rw [z x hm] at hq; cases hq
 unfold picGB; rw [aH e]; dsimp only; rw [this, Bool.false_and, Bool.and_false]
theorem gbad_one {p q : Addr} {r : List V} (e : H p = some (.lst [.ref q])) (eq : H q = some (.lst r)) (hl : r.length ≤ 1000) (hk : ∀ y ∈ r, I.tk H y) (hq : rowGB I H r = false) : gR I H (.ref p) :=
 gF e (by show 1 ≤ 1000; decide) (fun x hx => by rw [List.mem_singleton.mp hx]; exact RwG.lst eq hl hk) ⟨.ref q, List.mem_singleton.mpr rfl, by unfold iZ; rw [aH eq]; exact hq⟩
theorem gbad_lens {p : Addr} {xs : List V} {x y : V} (e : H p = some (.lst xs)) (hl : xs.length ≤ 1000) (hk : ∀ x ∈ xs, RwG I H x) (hx : x ∈ xs) (hy : y ∈ xs) (hne : lenOf H x ≠ lenOf H y) : gR I H (.ref p) := by
 refine ⟨ThG.lst e hl hk, ?_⟩
 have : (xs.all fun x => decide (lenOf H x = lenOf H (xs.headD .non))) = false := by
  rw [Bool.eq_false_iff]
  intro z
  rw [List.all_eq_true] at z
  exact hne ((of_decide_eq_true (z x hx)).trans (of_decide_eq_true (z y hy)).symm)
 unfold picGB; rw [aH e]; dsimp only; rw [this, Bool.and_false, Bool.and_false]
theorem GoodV.rw {a : Addr} {ps : List Addr} {rows : List (List V)} {wd : Nat} (g : GoodV rows wd) (p : bx H a ps rows) (its : ∀ r ∈ rows, ∀ y ∈ r, I.tk H y) : ∀ x ∈ ps.map V.ref, RwG I H x := fun x hx => by
 obtain ⟨q, hq, rfl⟩ := List.mem_map.mp hx
 obtain ⟨ns, e, hl, _, hm⟩ := g.mem2 p hq
 exact RwG.lst e (by rw [hl]; have := g.w24; omega) (its ns hm)
theorem gnot_row {q : Addr} {r : List V} (e : H q = some (.lst r)) (hv : v ∈ r) (hw : I.one H v = false) : iZ I H (.ref q) = false := by
 unfold iZ; rw [aH e]; dsimp only; unfold rowGB
 have : r.all (I.one H) = false := by
  rw [Bool.eq_false_iff]
  intro z
  rw [List.all_eq_true] at z
  rw [z v hv] at hw; cases hw
 rw [this, Bool.false_and]
end
noncomputable def BadGs {K : W.Frag} (I : Item K) (H : Hp) (vs : List V) : Prop := ∀ v ∈ vs, gR I H v
theorem BadGs.mono {K : W.Frag} {I : Item K} {H H' : Hp} {vs : List V} (b : BadGs I H vs) (s : aB H H') : BadGs I H' vs := fun v hv => (b v hv).mono s
noncomputable def spNoPicG {K : W.Frag} (I : Item K) : Sp := fun vs H Q _ => ∃ (a : Addr) (ps : List Addr) (rows : List (List V)) (wd : Nat) (od : V) (n : Nat), vs = [.ref a, od, .int (n : Int)] ∧ bx H a ps rows ∧ GoodV rows wd ∧ (∀ r ∈ rows, ∀ y ∈ r, I.tk H y) ∧ (∀ r ∈ rows, ∀ y ∈ r, rowOf H y = none) ∧ I.tk H od ∧ I.one H od = false ∧ ∀ v H', aB H H' → gR I H' v → Q v H'
section
variable {P : Program} {w : World} {K : W.Frag} {mg : Str → Option Value} {base : Heap} {cFE cC cN cM cP cL cB cD cZ : Addr} {tP tS tC tI : Tok}
theorem bO : aO ["_law_rows", "_law_odd_here", "_law_number", "_law_y", "_law_x", "_law_spoilt", "_law_longer", "_law_some"] ["_law_rows", "_law_odd_here", "_law_number"] (ao bc) := ⟨rfl, rfl, rfl, by decide +kernel, rfl, by decide +kernel, by decide +kernel⟩
theorem iD {f : Addr} {fd : FuncData} (F : bI K "_law_no_picture" "_law_no_picture" bc .none f fd) {I : Item K} (T : Txt K mg cFE cC cN cM cP cL cB cD cZ tP tS tC tI) (g__law_copied : iR P w K mg base 1 "_law_copied" ["_law_rows"] [] (spCop)) : bB P w K mg base gh 2 f fd ["_law_rows", "_law_odd_here", "_law_number"] (spNoPicG I) := by
 refine F.ok bO (fun vs H Q E h => ?_) (fun cdv A outer s H vs Q E hr h => ?_)
 ·obtain ⟨a, ps, rows, wd, od, n, rfl, _⟩ := h; rfl
 ·obtain ⟨a, ps, rows, wd, od, n, rfl, pic, gd, its, leaf, kod, wod, k⟩ := h
  have hne := gd.ne
  have hle := gd.le
  have hw1 := gd.w1
  have hw24 := gd.w24
  have lp : (ps.map V.ref).length = rows.length := by rw [List.length_map, pic.len]
  have lir : rows.length ≤ 1000 := by omega
  obtain ⟨y, ey, hy⟩ : ∃ y : Nat, (n : Int) / 16 % (((ps.map V.ref).length : Nat) : Int) = (y : Int) ∧ y < rows.length := by
   rw [lp, show (n : Int) / 16 = ((n / 16 : Nat) : Int) by omega]
   exact ⟨n / 16 % rows.length, by push_cast; rfl, Nat.mod_lt _ (by omega)⟩
  obtain ⟨qy, hqy⟩ : ∃ q, ps[y]? = some q := ⟨_, List.getElem?_eq_getElem (by rw [← List.length_map (f := V.ref), lp]; exact hy)⟩
  have mqy := List.mem_of_getElem? hqy
  obtain ⟨rr, er, hrl, hrc, hrm⟩ := gd.mem2 pic mqy
  have lrr : rr.length = wd := hrl
  obtain ⟨x, ex, hx⟩ : ∃ x : Nat, (n : Int) / 512 % (((rr.length : Nat) : Int) + 1) = (x : Int) ∧ x ≤ wd := by
   rw [lrr, show (n : Int) / 512 = ((n / 512 : Nat) : Int) by omega]
   exact ⟨n / 512 % (wd + 1), by push_cast; rfl, Nat.le_of_lt_succ (Nat.mod_lt _ (by omega))⟩
  have eqy : (ps.map V.ref)[y]? = some (.ref qy) := by rw [List.getElem?_map, hqy]; rfl
  obtain ⟨q0, hq0⟩ : ∃ q, ps[0]? = some q := ⟨_, List.getElem?_eq_getElem (by rw [← List.length_map (f := V.ref), lp]; omega)⟩
  have mq0 := List.mem_of_getElem? hq0
  obtain ⟨r0, er0, hr0, hc0, hm0⟩ := gd.mem2 pic mq0
  have er0H := er0
  have eq0 : (ps.map V.ref)[0]? = some (.ref q0) := by rw [List.getElem?_map, hq0]; rfl
  obtain ⟨c00, hc00⟩ : ∃ c, r0[0]? = some c := ⟨_, List.getElem?_eq_getElem (by omega)⟩
  obtain ⟨t8, r8, k8⟩ : ∃ tr, PSs ((gY gh P w K mg base ["_law_rows", "_law_odd_here", "_law_number", "_law_y", "_law_x", "_law_spoilt", "_law_longer", "_law_some"] "_law_no_picture" (ao bc) f cdv A outer s H E).nox) ((aF bc).drop 8) tr ∧
    ∀ (v5 v6 : Option V) (v3 v4 : V) (L : Addr) (xs : List V) (H1 : Hp), aB H H1 → H1 L = some (.lst xs) → xs.length = 14 → BadGs I H1 xs → tr { nx := fun _ H' => Q .non H', rt := Q } [some (.ref a), some od, some (.int (n : Int)), some v3, some v4, v5, v6, some (.ref L)] H1 := by
   refine ⟨_, (aA (aM (bM (ixK K rfl) (pv 7) (aC bf (pv 2) aq) (fun _ _ => rfl)))), ?_⟩
   intro v5 v6 v3 v4 L xs H1 s1 eL hl hb
   obtain ⟨v, hv, ev⟩ := at_mod (xs := xs) (m := (n : Int)) 14 hl (by decide)
   exact ⟨_, rfl, _, rfl, _, _, rfl, rfl, (by show (0 : Int) < 14; decide), L, _, _, v, rfl, rfl, aU.of eL, ev, k v H1 s1 (hb v hv)⟩
  obtain ⟨t6, r6, k6⟩ : ∃ tr, PSs ((gY gh P w K mg base ["_law_rows", "_law_odd_here", "_law_number", "_law_y", "_law_x", "_law_spoilt", "_law_longer", "_law_some"] "_law_no_picture" (ao bc) f cdv A outer s H E).nox) ((aF bc).drop 6) tr ∧
    ∀ (sp lg : Addr) (xs us : List V) (z : V) (H1 : Hp), aB H H1 → H1 sp = some (.lst xs) → xs.length = rows.length → (∀ x ∈ xs, RwG I H1 x) → gR I H1 (.ref sp) → H1 lg = some (.lst us) → us.length ≤ 24 → (∀ x ∈ us, RwG I H1 x) → z ∈ us → lenOf H1 z = wd + 1 → tr { nx := fun _ H' => Q .non H', rt := Q } [some (.ref a), some od, some (.int (n : Int)), some (.int (y : Int)), some (.int (x : Int)), some (.ref sp), some (.ref lg), none] H1 := by
   refine ⟨_, (au (aQ (i := 7) bO.nd rfl (.inl rfl) (ShE.pe (qpe_lst (du (ShE.mk (pv 5)) slN (du (ShE.mk (pv 5)) slN (du (ShE.mk (pv 5)) slN (du (ShE.mk (aC gm (pv 6) (dq (slK K rfl) (aD g__law_copied (hr.mono (by decide)) rfl (aa (pv 0) aj)) dW (dR aq)))) slBin (du (ShE.mk (aZ aj)) slLst (du (ShE.mk iT) slC (du (ShE.mk (cQ fH rfl T.tuple PyProof.Rows.boot_tuple (aa (pv 0) aj))) slCall (du (ShE.mk (aZ (aa (bD aj) aj))) slLst (du (ShE.mk (aZ (aa (aZ aj) aj))) slLst (du (ShE.mk (bM (ixK K rfl) (pv 0) aq (fun _ _ => rfl))) slSub (du (ShE.mk pe_dict0) (fun _ _ => rfl) qpa_nil))))))))))))))
    (au (aQ (i := 7) bO.nd rfl (.inl rfl) (aC gm (pv 7) (ShE.pe (qpe_lst (du (ShE.mk (aC op_rep (aD g__law_copied (hr.mono (by decide)) rfl (aa (dq (slK K rfl) (pv 0) dW (dR aq)) aj)) aq)) slBin (du (ShE.mk (aZ (aa (aC op_rep (cQ (listK K rfl) rfl T.list PyProof.Rows.boot_list (aa (dq (slK K rfl) (bM (ixK K rfl) (pv 0) aq (fun _ _ => rfl)) dW (dR aq)) aj)) aq) aj))) slLst (du (ShE.mk (aC gm (aC gm (dq (slK K rfl) (pv 5) dW (dR (pv 3))) (aZ (aa (cQ fH rfl T.tuple PyProof.Rows.boot_tuple (aa (bM (ixK K rfl) (pv 0) (pv 3) (fun _ _ => rfl)) aj)) aj))) (dq (slK K rfl) (pv 5) (dR (aC cj (pv 3) aq)) dW))) slBin qpa_nil)))))))
    (@r8))), ?_⟩
   intro sp lg xs us z H1 sm esp hxl hxr bsp elg hul hur hz hzl
   have pic := pic.mono sm
   have er := sm _ _ er
   have er0 := sm _ _ er0
   have sm1 := aB.refl H1
   refine ⟨_, rfl, _, rfl, _, rfl, _, rfl, _, rfl, a, ps, rows, rfl, pic, lir, fun cq cqs Hc z_ fcq fcqs pcq => ?_⟩
   have sm := sm.trans z_
   have sm1 := sm1.trans z_
   have esp := z_ _ _ esp
   have bsp := bsp.mono z_
   have elg := z_ _ _ elg
   have pic := pic.mono z_
   have er := z_ _ _ er
   have er0 := z_ _ _ er0
   clear z_
   refine ⟨_, rfl, cq, _, rfl, aU.of pcq.top, fun s1 h_ => ?_⟩
   obtain ⟨z_, es1⟩ := bY (HO.lst (aX (cqs.map V.ref) none (some 1))) h_
   generalize upd Hc s1 (HO.lst (aX (cqs.map V.ref) none (some 1))) = G1 at z_ es1 ⊢
   have sm := sm.trans z_
   have sm1 := sm1.trans z_
   have esp := z_ _ _ esp
   have bsp := bsp.mono z_
   have elg := z_ _ _ elg
   have pic := pic.mono z_
   have er := z_ _ _ er
   have er0 := z_ _ _ er0
   have pcq := pcq.mono z_
   clear z_ h_
   have lc1 := dZ (cqs.map V.ref) none (some 1)
   have lcq : (cqs.map V.ref).length = rows.length := by rw [List.length_map, pcq.len]
   refine ⟨lg, s1, _, _, rfl, rfl, elg, es1, Nat.le_trans (by show us.length + (aX (cqs.map V.ref) none (some 1)).length ≤ 5000; omega) (by decide), fun e4 h_ => ?_⟩
   obtain ⟨z_, ee4⟩ := bY (HO.lst (us ++ (aX (cqs.map V.ref) none (some 1)))) h_
   generalize upd G1 e4 (HO.lst (us ++ (aX (cqs.map V.ref) none (some 1)))) = G2 at z_ ee4 ⊢
   have sm := sm.trans z_
   have sm1 := sm1.trans z_
   have esp := z_ _ _ esp
   have bsp := bsp.mono z_
   have pic := pic.mono z_
   have er := z_ _ _ er
   have er0 := z_ _ _ er0
   have pcq := pcq.mono z_
   clear z_ h_
   have be4 : gR I G2 (.ref e4) := by
    have ecut : (aX (cqs.map V.ref) none (some 1)) = (cqs.map V.ref).take 1 := cut_hi _ 1
    obtain ⟨w0, hw0⟩ : ∃ q, cqs[0]? = some q := ⟨_, List.getElem?_eq_getElem (by rw [← List.length_map (f := V.ref), lcq]; omega)⟩
    obtain ⟨ns0, en0, hn0, _, _⟩ := gd.mem2 pcq (List.mem_of_getElem? hw0)
    have mw : V.ref w0 ∈ us ++ (aX (cqs.map V.ref) none (some 1)) := List.mem_append_right _ (by rw [ecut]; exact List.mem_iff_getElem?.mpr ⟨0, by rw [List.getElem?_take_of_lt (by decide), List.getElem?_map, hw0]; rfl⟩)
    refine gbad_lens ee4 (by rw [List.length_append]; omega) (fun x hx => ?_) (List.mem_append_left _ hz) mw (by rw [eF (hur z hz).kd sm1, hzl, jc en0, hn0]; omega)
    rcases List.mem_append.mp hx with hx | hx
    ·exact (hur x hx).mono sm1
    ·exact gd.rw pcq (fun r hr y hy => I.mono (its r hr y hy) sm) x (cutV_mem hx)
   clear es1 ee4
   refine ⟨sz0, fun e5 h_ => ?_⟩
   obtain ⟨z_, ee5⟩ := bY (HO.lst []) h_
   generalize upd G2 e5 (HO.lst []) = G3 at z_ ee5 ⊢
   have sm := sm.trans z_
   have sm1 := sm1.trans z_
   have esp := z_ _ _ esp
   have bsp := bsp.mono z_
   have pic := pic.mono z_
   have er := z_ _ _ er
   have er0 := z_ _ _ er0
   have be4 := be4.mono z_
   clear z_ h_
   refine ⟨_, rfl, a, _, rfl, .inl ⟨aU.of pic.top, fun e7 h_ => ?_⟩⟩
   obtain ⟨z_, ee7⟩ := bY (HO.tup (ps.map V.ref)) h_
   generalize upd G3 e7 (HO.tup (ps.map V.ref)) = G4 at z_ ee7 ⊢
   have sm := sm.trans z_
   have sm1 := sm1.trans z_
   have esp := z_ _ _ esp
   have bsp := bsp.mono z_
   have pic := pic.mono z_
   have er := z_ _ _ er
   have er0 := z_ _ _ er0
   have be4 := be4.mono z_
   have ee5 := z_ _ _ ee5
   clear z_ h_
   refine ⟨sz0, fun i8 h_ => ?_⟩
   obtain ⟨z_, ei8⟩ := bY (HO.tup []) h_
   generalize upd G4 i8 (HO.tup []) = G5 at z_ ei8 ⊢
   have sm := sm.trans z_
   have sm1 := sm1.trans z_
   have esp := z_ _ _ esp
   have bsp := bsp.mono z_
   have pic := pic.mono z_
   have er := z_ _ _ er
   have er0 := z_ _ _ er0
   have be4 := be4.mono z_
   have ee5 := z_ _ _ ee5
   have ee7 := z_ _ _ ee7
   clear z_ h_
   refine ⟨sz1, fun e8 h_ => ?_⟩
   obtain ⟨z_, ee8⟩ := bY (HO.lst [V.ref i8]) h_
   generalize upd G5 e8 (HO.lst [V.ref i8]) = G6 at z_ ee8 ⊢
   have sm := sm.trans z_
   have sm1 := sm1.trans z_
   have esp := z_ _ _ esp
   have bsp := bsp.mono z_
   have pic := pic.mono z_
   have er := z_ _ _ er
   have er0 := z_ _ _ er0
   have be4 := be4.mono z_
   have ee5 := z_ _ _ ee5
   have ee7 := z_ _ _ ee7
   have ei8 := z_ _ _ ei8
   clear z_ h_
   refine ⟨sz0, fun i9 h_ => ?_⟩
   obtain ⟨z_, ei9⟩ := bY (HO.lst []) h_
   generalize upd G6 i9 (HO.lst []) = G7 at z_ ei9 ⊢
   have sm := sm.trans z_
   have sm1 := sm1.trans z_
   have esp := z_ _ _ esp
   have bsp := bsp.mono z_
   have pic := pic.mono z_
   have er := z_ _ _ er
   have er0 := z_ _ _ er0
   have be4 := be4.mono z_
   have ee5 := z_ _ _ ee5
   have ee7 := z_ _ _ ee7
   have ei8 := z_ _ _ ei8
   have ee8 := z_ _ _ ee8
   clear z_ h_
   refine ⟨sz1, fun e9 h_ => ?_⟩
   obtain ⟨z_, ee9⟩ := bY (HO.lst [V.ref i9]) h_
   generalize upd G7 e9 (HO.lst [V.ref i9]) = G8 at z_ ee9 ⊢
   have sm := sm.trans z_
   have sm1 := sm1.trans z_
   have esp := z_ _ _ esp
   have bsp := bsp.mono z_
   have pic := pic.mono z_
   have er := z_ _ _ er
   have er0 := z_ _ _ er0
   have be4 := be4.mono z_
   have ee5 := z_ _ _ ee5
   have ee7 := z_ _ _ ee7
   have ei8 := z_ _ _ ei8
   have ee8 := z_ _ _ ee8
   have ei9 := z_ _ _ ei9
   clear z_ h_
   refine ⟨_, rfl, a, _, _, _, rfl, rfl, aU.of pic.top, aW (j := 0) eq0, ?_⟩
   refine fun e11 h_ => ?_
   obtain ⟨z_, ee11⟩ := bY (gH e11) h_
   generalize upd G8 e11 (gH e11) = G9 at z_ ee11 ⊢
   have sm := sm.trans z_
   have sm1 := sm1.trans z_
   have esp := z_ _ _ esp
   have bsp := bsp.mono z_
   have pic := pic.mono z_
   have er := z_ _ _ er
   have er0 := z_ _ _ er0
   have be4 := be4.mono z_
   have ee5 := z_ _ _ ee5
   have ee7 := z_ _ _ ee7
   have ei8 := z_ _ _ ei8
   have ee8 := z_ _ _ ee8
   have ei9 := z_ _ _ ei9
   have ee9 := z_ _ _ ee9
   clear z_ h_
   refine ⟨sz11, fun L1 h_ => ?_⟩
   obtain ⟨z_, eL1⟩ := bY (HO.lst [V.ref sp, .ref sp, .ref sp, .ref e4, .ref e5, .non, .ref e7, .ref e8, .ref e9, .ref q0, .ref e11]) h_
   generalize upd G9 L1 (HO.lst [V.ref sp, .ref sp, .ref sp, .ref e4, .ref e5, .non, .ref e7, .ref e8, .ref e9, .ref q0, .ref e11]) = G10 at z_ eL1 ⊢
   have sm := sm.trans z_
   have sm1 := sm1.trans z_
   have esp := z_ _ _ esp
   have bsp := bsp.mono z_
   have pic := pic.mono z_
   have er := z_ _ _ er
   have er0 := z_ _ _ er0
   have be4 := be4.mono z_
   have ee5 := z_ _ _ ee5
   have ee7 := z_ _ _ ee7
   have ei8 := z_ _ _ ei8
   have ee8 := z_ _ _ ee8
   have ei9 := z_ _ _ ei9
   have ee9 := z_ _ _ ee9
   have ee11 := z_ _ _ ee11
   clear z_ h_
   have b11 : BadGs I G10 [V.ref sp, .ref sp, .ref sp, .ref e4, .ref e5, .non, .ref e7, .ref e8, .ref e9, .ref q0, .ref e11] := fun v hv => by
    simp only [List.mem_cons, List.not_mem_nil, or_false] at hv
    rcases hv with rfl | rfl | rfl | rfl | rfl | rfl | rfl | rfl | rfl | rfl | rfl
    ·exact bsp
    ·exact bsp
    ·exact bsp
    ·exact be4
    ·exact gbad_len ee5 (by decide) (fun x hx => nomatch hx) (by decide)
    ·exact gbad_leaf .non rfl
    ·exact gbad_leaf (.tup ee7) (by simp only [rowOf, ee7])
    ·exact gF ee8 (by show 1 ≤ 1000; decide) (fun x hx => by rw [List.mem_singleton.mp hx]; exact RwG.tup ei8) ⟨_, List.mem_cons_self, by unfold iZ; simp only [rowOf, ei8]⟩
    ·exact gbad_one ee9 ei9 (by decide) (fun x hx => nomatch hx) rfl
    ·exact gF er0 (by omega) (fun x hx => .leaf ((I.kd (its r0 hm0 x hx)).mono sm) (by rw [bN (I.kd (its r0 hm0 x hx)) sm]; exact leaf r0 hm0 x hx)) ⟨c00, List.mem_of_getElem? hc00, by unfold iZ; rw [bN (I.kd (its r0 hm0 c00 (List.mem_of_getElem? hc00))) sm, leaf r0 hm0 c00 (List.mem_of_getElem? hc00)]⟩
    ·exact gbad_leaf (.dict ee11) (rowOf_dict ee11)
   clear be4 ee5 ee7 ei8 ee8 ei9 ee9 ee11 pcq elg
   have epic := pic.top
   refine ⟨_, rfl, _, rfl, _, rfl, a, _, rfl, aU.of epic, fun s2 h_ => ?_⟩
   obtain ⟨z_, es2⟩ := bY (HO.lst (aX (ps.map V.ref) none (some 1))) h_
   generalize upd G10 s2 (HO.lst (aX (ps.map V.ref) none (some 1))) = G11 at z_ es2 ⊢
   have fs2 := sm.free h_
   have sm := sm.trans z_
   have sm1 := sm1.trans z_
   have esp := z_ _ _ esp
   have er := z_ _ _ er
   have er0 := z_ _ _ er0
   have eL1 := z_ _ _ eL1
   have b11 := b11.mono z_
   have epic := z_ _ _ epic
   clear z_ h_
   have pic1 : bx G11 s2 [q0] [r0] := by
    refine ⟨?_, .cons er0 .nil, by simp, fun z => ?_⟩
    ·rw [es2, show aX (ps.map V.ref) none (some 1) = (ps.map V.ref).take 1 from cut_hi _ 1]
     have : (ps.map V.ref).take 1 = [V.ref q0] := by
      cases ps with
      | nil => cases hq0
      | cons p ps => cases hq0; rfl
     rw [this]; rfl
    ·exact aK er0H fs2 (List.mem_singleton.mp z).symm
   refine ⟨s2, [q0], [r0], rfl, pic1, by show 1 ≤ 1000; decide, fun c1 c1s Hd z_ fc1 fc1s pc1 => ?_⟩
   clear es2 pic1
   have sm := sm.trans z_
   have sm1 := sm1.trans z_
   have esp := z_ _ _ esp
   have er := z_ _ _ er
   have er0 := z_ _ _ er0
   have eL1 := z_ _ _ eL1
   have b11 := b11.mono z_
   have epic := z_ _ _ epic
   clear z_
   obtain ⟨d1, rfl⟩ : ∃ d1, c1s = [d1] := by
    have := pc1.len
    match c1s, this with
    | [x], _ => exact ⟨x, rfl⟩
   have ec1 : Hd c1 = some (.lst [V.ref d1]) := pc1.top
   have ed1 : Hd d1 = some (.lst r0) := by cases pc1.row with | cons e _ => exact e
   refine ⟨c1, 25, _, rfl, rfl, ec1, by decide, by decide, by show 1 * 25 ≤ sizeLine; decide, fun f1 h_ => ?_⟩
   obtain ⟨z_, ef1⟩ := bY (HO.lst ((List.replicate (25 : Int).toNat [V.ref d1]).flatten)) h_
   generalize upd Hd f1 (HO.lst ((List.replicate (25 : Int).toNat [V.ref d1]).flatten)) = G12 at z_ ef1 ⊢
   have sm := sm.trans z_
   have sm1 := sm1.trans z_
   have esp := z_ _ _ esp
   have er := z_ _ _ er
   have er0 := z_ _ _ er0
   have eL1 := z_ _ _ eL1
   have b11 := b11.mono z_
   have epic := z_ _ _ epic
   have ed1 := z_ _ _ ed1
   clear z_ h_
   have bf1 : gR I G12 (.ref f1) := gbad_len ef1 (by rw [len25]; show 25 * 1 ≤ 1000; decide) (fun x hx => by
    obtain ⟨l, hl, hx⟩ := List.mem_flatten.mp hx
    rw [List.eq_of_mem_replicate hl] at hx
    rw [List.mem_singleton.mp hx]
    exact RwG.lst ed1 (by omega) (fun y hy => I.mono (its r0 hm0 y hy) sm)) (by rw [len25]; rfl)
   clear ef1 ec1 ed1 pc1
   refine ⟨_, rfl, a, _, _, _, rfl, rfl, aU.of epic, aW (j := 0) eq0, _, rfl, q0, _, rfl, aU.of er0, fun s3 h_ => ?_⟩
   obtain ⟨z_, es3⟩ := bY (HO.lst (aX r0 none (some 1))) h_
   generalize upd G12 s3 (HO.lst (aX r0 none (some 1))) = G13 at z_ es3 ⊢
   have sm := sm.trans z_
   have sm1 := sm1.trans z_
   have esp := z_ _ _ esp
   have er := z_ _ _ er
   have eL1 := z_ _ _ eL1
   have b11 := b11.mono z_
   have epic := z_ _ _ epic
   have bf1 := bf1.mono z_
   clear z_ h_
   refine ⟨s3, _, rfl, .inl (aU.of es3), fun l3 h_ => ?_⟩
   obtain ⟨z_, el3⟩ := bY (HO.lst (aX r0 none (some 1))) h_
   generalize upd G13 l3 (HO.lst (aX r0 none (some 1))) = G14 at z_ el3 ⊢
   have sm := sm.trans z_
   have sm1 := sm1.trans z_
   have esp := z_ _ _ esp
   have er := z_ _ _ er
   have eL1 := z_ _ _ eL1
   have b11 := b11.mono z_
   have epic := z_ _ _ epic
   have bf1 := bf1.mono z_
   clear z_ h_
   have ln1 : (aX r0 none (some 1)).length = 1 := by rw [show aX r0 none (some 1) = r0.take 1 from cut_hi _ 1, List.length_take]; omega
   refine ⟨l3, 25, _, rfl, rfl, el3, by decide, by decide, by rw [ln1]; decide, fun m3 h_ => ?_⟩
   obtain ⟨z_, em3⟩ := bY (HO.lst ((List.replicate (25 : Int).toNat (aX r0 none (some 1))).flatten)) h_
   generalize upd G14 m3 (HO.lst ((List.replicate (25 : Int).toNat (aX r0 none (some 1))).flatten)) = G15 at z_ em3 ⊢
   have sm := sm.trans z_
   have sm1 := sm1.trans z_
   have esp := z_ _ _ esp
   have er := z_ _ _ er
   have eL1 := z_ _ _ eL1
   have b11 := b11.mono z_
   have epic := z_ _ _ epic
   have bf1 := bf1.mono z_
   clear z_ h_
   refine ⟨sz1, fun f2 h_ => ?_⟩
   obtain ⟨z_, ef2⟩ := bY (HO.lst [V.ref m3]) h_
   generalize upd G15 f2 (HO.lst [V.ref m3]) = G16 at z_ ef2 ⊢
   have sm := sm.trans z_
   have sm1 := sm1.trans z_
   have esp := z_ _ _ esp
   have er := z_ _ _ er
   have eL1 := z_ _ _ eL1
   have b11 := b11.mono z_
   have epic := z_ _ _ epic
   have bf1 := bf1.mono z_
   have em3 := z_ _ _ em3
   clear z_ h_
   have bf2 : gR I G16 (.ref f2) := gbad_one ef2 em3 (by rw [len25, ln1]; decide) (fun x hx => by
    obtain ⟨l, hl, hx⟩ := List.mem_flatten.mp hx
    rw [List.eq_of_mem_replicate hl] at hx
    exact I.mono (its r0 hm0 x (cutV_mem hx)) sm) (by unfold rowGB; rw [len25, ln1]; rw [show bU 1 24 (.int ((25 * 1 : Nat) : Int)) = false from rfl, Bool.and_false])
   clear es3 el3 em3 ef2
   refine ⟨_, rfl, _, rfl, _, rfl, sp, _, rfl, aU.of esp, fun t1 h_ => ?_⟩
   obtain ⟨z_, et1⟩ := bY (HO.lst (aX xs none (some (y : Int)))) h_
   generalize upd G16 t1 (HO.lst (aX xs none (some (y : Int)))) = G17 at z_ et1 ⊢
   have sm := sm.trans z_
   have sm1 := sm1.trans z_
   have esp := z_ _ _ esp
   have er := z_ _ _ er
   have eL1 := z_ _ _ eL1
   have b11 := b11.mono z_
   have epic := z_ _ _ epic
   have bf1 := bf1.mono z_
   have bf2 := bf2.mono z_
   clear z_ h_
   refine ⟨_, rfl, _, rfl, a, _, _, _, rfl, rfl, aU.of epic, aW (j := y) eqy, qy, _, rfl, .inl ⟨aU.of er, fun tr h_ => ?_⟩⟩
   obtain ⟨z_, etr⟩ := bY (HO.tup rr) h_
   generalize upd G17 tr (HO.tup rr) = G18 at z_ etr ⊢
   have sm := sm.trans z_
   have sm1 := sm1.trans z_
   have esp := z_ _ _ esp
   have eL1 := z_ _ _ eL1
   have b11 := b11.mono z_
   have bf1 := bf1.mono z_
   have bf2 := bf2.mono z_
   have et1 := z_ _ _ et1
   clear z_ h_
   refine ⟨sz1, fun t2 h_ => ?_⟩
   obtain ⟨z_, et2⟩ := bY (HO.lst [V.ref tr]) h_
   generalize upd G18 t2 (HO.lst [V.ref tr]) = G19 at z_ et2 ⊢
   have sm := sm.trans z_
   have sm1 := sm1.trans z_
   have esp := z_ _ _ esp
   have eL1 := z_ _ _ eL1
   have b11 := b11.mono z_
   have bf1 := bf1.mono z_
   have bf2 := bf2.mono z_
   have et1 := z_ _ _ et1
   have etr := z_ _ _ etr
   clear z_ h_
   have lx1 := dZ xs none (some (y : Int))
   have lx2 := dZ xs (some ((y : Int) + 1)) none
   refine ⟨t1, t2, _, _, rfl, rfl, et1, et2, Nat.le_trans (by show (aX xs none (some (y : Int))).length + 1 ≤ 5000; omega) (by decide), fun t3 h_ => ?_⟩
   obtain ⟨z_, et3⟩ := bY (HO.lst ((aX xs none (some (y : Int))) ++ [V.ref tr])) h_
   generalize upd G19 t3 (HO.lst ((aX xs none (some (y : Int))) ++ [V.ref tr])) = G20 at z_ et3 ⊢
   have sm := sm.trans z_
   have sm1 := sm1.trans z_
   have esp := z_ _ _ esp
   have eL1 := z_ _ _ eL1
   have b11 := b11.mono z_
   have bf1 := bf1.mono z_
   have bf2 := bf2.mono z_
   have etr := z_ _ _ etr
   clear z_ h_
   refine ⟨_, rfl, _, rfl, _, _, rfl, rfl, _, rfl, sp, _, rfl, aU.of esp, fun t4 h_ => ?_⟩
   obtain ⟨z_, et4⟩ := bY (HO.lst (aX xs (some ((y : Int) + 1)) none)) h_
   generalize upd G20 t4 (HO.lst (aX xs (some ((y : Int) + 1)) none)) = G21 at z_ et4 ⊢
   have sm := sm.trans z_
   have sm1 := sm1.trans z_
   have eL1 := z_ _ _ eL1
   have b11 := b11.mono z_
   have bf1 := bf1.mono z_
   have bf2 := bf2.mono z_
   have etr := z_ _ _ etr
   have et3 := z_ _ _ et3
   clear z_ h_
   refine ⟨t3, t4, _, _, rfl, rfl, et3, et4, Nat.le_trans (by show ((aX xs none (some (y : Int))) ++ [V.ref tr]).length + (aX xs (some ((y : Int) + 1)) none).length ≤ 5000; rw [List.length_append]; show _ + 1 + _ ≤ _; omega) (by decide), fun f3 h_ => ?_⟩
   obtain ⟨z_, ef3⟩ := bY (HO.lst (((aX xs none (some (y : Int))) ++ [V.ref tr]) ++ (aX xs (some ((y : Int) + 1)) none))) h_
   generalize upd G21 f3 (HO.lst (((aX xs none (some (y : Int))) ++ [V.ref tr]) ++ (aX xs (some ((y : Int) + 1)) none))) = G22 at z_ ef3 ⊢
   have sm := sm.trans z_
   have sm1 := sm1.trans z_
   have eL1 := z_ _ _ eL1
   have b11 := b11.mono z_
   have bf1 := bf1.mono z_
   have bf2 := bf2.mono z_
   have etr := z_ _ _ etr
   clear z_ h_
   have bf3 : gR I G22 (.ref f3) := gF ef3 (by rw [List.length_append, List.length_append]; show _ + 1 + _ ≤ _; omega) (fun x hx => by
    rcases List.mem_append.mp hx with hx | hx
    ·rcases List.mem_append.mp hx with hx | hx
     ·exact (hxr x (cutV_mem hx)).mono sm1
     ·rw [List.mem_singleton.mp hx]; exact RwG.tup etr
    ·exact (hxr x (cutV_mem hx)).mono sm1) ⟨.ref tr, List.mem_append_left _ (List.mem_append_right _ List.mem_cons_self), by unfold iZ; simp only [rowOf, etr]⟩
   clear et1 et2 et3 et4 etr ef3
   refine ⟨sz3, fun L2 h_ => ?_⟩
   obtain ⟨z_, eL2⟩ := bY (HO.lst [V.ref f1, .ref f2, .ref f3]) h_
   generalize upd G22 L2 (HO.lst [V.ref f1, .ref f2, .ref f3]) = G23 at z_ eL2 ⊢
   have sm := sm.trans z_
   have eL1 := z_ _ _ eL1
   have b11 := b11.mono z_
   have bf1 := bf1.mono z_
   have bf2 := bf2.mono z_
   have bf3 := bf3.mono z_
   clear z_ h_
   refine ⟨L1, L2, _, _, rfl, rfl, eL1, eL2, by show 11 + 3 ≤ sizeLine; decide, fun L3 h_ => ?_⟩
   obtain ⟨z_, eL3⟩ := bY (HO.lst ([V.ref sp, .ref sp, .ref sp, .ref e4, .ref e5, .non, .ref e7, .ref e8, .ref e9, .ref q0, .ref e11] ++ [V.ref f1, .ref f2, .ref f3])) h_
   generalize upd G23 L3 (HO.lst ([V.ref sp, .ref sp, .ref sp, .ref e4, .ref e5, .non, .ref e7, .ref e8, .ref e9, .ref q0, .ref e11] ++ [V.ref f1, .ref f2, .ref f3])) = G24 at z_ eL3 ⊢
   have sm := sm.trans z_
   have b11 := b11.mono z_
   have bf1 := bf1.mono z_
   have bf2 := bf2.mono z_
   have bf3 := bf3.mono z_
   clear z_ h_
   exact k8 _ _ _ _ L3 _ _ sm eL3 rfl (fun v hv => by
    rcases List.mem_append.mp hv with hv | hv
    ·exact b11 v hv
    ·simp only [List.mem_cons, List.not_mem_nil, or_false] at hv
     rcases hv with rfl | rfl | rfl
     ·exact bf1
     ·exact bf2
     ·exact bf3)
  refine ⟨_, (au (aQ (i := 3) bO.nd rfl (.inl rfl) (aC bf (aC bz (pv 2) aq) (aN (lenK K rfl) rfl T.len PySem.boot_len (aa (pv 0) aj))))
    (au (aQ (i := 4) bO.nd rfl (.inl rfl) (aC bf (aC bz (pv 2) aq) (aC cj (aN (lenK K rfl) rfl T.len PySem.boot_len (aa (bM (ixK K rfl) (pv 0) (pv 3) (fun _ _ => rfl)) aj)) aq)))
    (au (aQ (i := 5) bO.nd rfl (.inl rfl) (aD g__law_copied (hr.mono (by decide)) rfl (aa (pv 0) aj)))
    (au (ps_asg (aC gm (aC gm (dq (slK K rfl) (bM (ixK K rfl) (pv 5) (pv 3) (fun _ _ => rfl)) dW (dR (pv 4))) (aZ (aa (pv 1) aj))) (dq (slK K rfl) (bM (ixK K rfl) (pv 5) (pv 3) (fun _ _ => rfl)) (dR (aC cj (pv 4) aq)) dW)) (pg_sub (pv 5) (pv 3) set_list))
    (au (aQ (i := 6) bO.nd rfl (.inl rfl) (aD g__law_copied (hr.mono (by decide)) rfl (aa (pv 0) aj)))
    (au (cz (pe_bm PySem.F.plainAttrs_list PySem.F.slot_list_append PySem.F.type_list_append cH (bM (ixK K rfl) (pv 6) (pv 3) (fun _ _ => rfl)) (aa (bM (ixK K rfl) (bM (ixK K rfl) (pv 0) aq (fun _ _ => rfl)) aq (fun _ _ => rfl)) aj)))
    (@r6))))))), ?_⟩
  refine ⟨_, rfl, _, _, rfl, rfl, ⟨by decide, by decide⟩, _, rfl, a, _, rfl, .inl (aU.of pic.top), _, _, rfl, rfl, (by rw [lp]; omega), ?_⟩
  show dG 3 (.int ((n : Int) / 16 % (((ps.map V.ref).length : Nat) : Int))) _ _ _
  rw [ey]
  refine ⟨_, rfl, _, _, rfl, rfl, ⟨by decide, by decide⟩, _, rfl, _, rfl, a, _, _, _, rfl, rfl, aU.of pic.top, aW (j := y) eqy, qy, _, rfl, .inl (aU.of er), _, _, rfl, rfl, _, _, rfl, rfl, (by show (0 : Int) < ((rr.length : Nat) : Int) + 1; omega), ?_⟩
  show dG 4 (.int ((n : Int) / 512 % (((rr.length : Nat) : Int) + 1))) _ _ _
  rw [ex]
  refine ⟨_, rfl, a, ps, rows, rfl, pic, lir, fun sp sps H1 s1 fsp fsps psp => ?_⟩
  obtain ⟨sy, hsy⟩ : ∃ q, sps[y]? = some q := ⟨_, List.getElem?_eq_getElem (by rw [psp.len]; exact hy)⟩
  have esy : H1 sy = some (.lst rr) := by
   obtain ⟨r1, h1, e1⟩ := psp.at hsy
   obtain ⟨r2, h2, e2⟩ := pic.at hqy
   rw [h2] at h1
   cases h1
   rw [er] at e2
   rw [e1]; exact e2.symm
  have lsp : (sps.map V.ref).length = rows.length := by rw [List.length_map, psp.len]
  have eqs : (sps.map V.ref)[y]? = some (.ref sy) := by rw [List.getElem?_map, hsy]; rfl
  have sm := s1
  have tsp := psp.top
  refine ⟨_, rfl, _, rfl, sp, _, _, _, rfl, rfl, aU.of tsp, aW (j := y) eqs, _, rfl, _, rfl, sy, _, rfl, aU.of esy, fun u1 h_ => ?_⟩
  obtain ⟨z_, eu1⟩ := bY (HO.lst (aX rr none (some (x : Int)))) h_
  generalize upd H1 u1 (HO.lst (aX rr none (some (x : Int)))) = B1 at z_ eu1 ⊢
  have sm := sm.trans z_
  have esy := z_ _ _ esy
  have psp := psp.mono z_
  have tsp := z_ _ _ tsp
  clear z_ h_
  refine ⟨_, rfl, sz1, fun u2 h_ => ?_⟩
  obtain ⟨z_, eu2⟩ := bY (HO.lst [od]) h_
  generalize upd B1 u2 (HO.lst [od]) = B2 at z_ eu2 ⊢
  have sm := sm.trans z_
  have esy := z_ _ _ esy
  have psp := psp.mono z_
  have tsp := z_ _ _ tsp
  have eu1 := z_ _ _ eu1
  clear z_ h_
  have lk1 := dZ rr none (some (x : Int))
  have lk2 := dZ rr (some ((x : Int) + 1)) none
  refine ⟨u1, u2, _, _, rfl, rfl, eu1, eu2, Nat.le_trans (by show (aX rr none (some (x : Int))).length + 1 ≤ 5000; omega) (by decide), fun u3 h_ => ?_⟩
  obtain ⟨z_, eu3⟩ := bY (HO.lst ((aX rr none (some (x : Int))) ++ [od])) h_
  generalize upd B2 u3 (HO.lst ((aX rr none (some (x : Int))) ++ [od])) = B3 at z_ eu3 ⊢
  have sm := sm.trans z_
  have esy := z_ _ _ esy
  have psp := psp.mono z_
  have tsp := z_ _ _ tsp
  clear z_ h_
  refine ⟨_, rfl, _, rfl, sp, _, _, _, rfl, rfl, aU.of tsp, aW (j := y) eqs, _, rfl, _, _, rfl, rfl, _, rfl, sy, _, rfl, aU.of esy, fun u4 h_ => ?_⟩
  obtain ⟨z_, eu4⟩ := bY (HO.lst (aX rr (some ((x : Int) + 1)) none)) h_
  generalize upd B3 u4 (HO.lst (aX rr (some ((x : Int) + 1)) none)) = B4 at z_ eu4 ⊢
  have sm := sm.trans z_
  have psp := psp.mono z_
  have tsp := z_ _ _ tsp
  have eu3 := z_ _ _ eu3
  clear z_ h_
  refine ⟨u3, u4, _, _, rfl, rfl, eu3, eu4, Nat.le_trans (by show ((aX rr none (some (x : Int))) ++ [od]).length + (aX rr (some ((x : Int) + 1)) none).length ≤ 5000; rw [List.length_append]; show _ + 1 + _ ≤ _; omega) (by decide), fun nr h_ => ?_⟩
  have nspn : sp ≠ nr := aK tsp h_
  obtain ⟨z_, enr⟩ := bY (HO.lst (((aX rr none (some (x : Int))) ++ [od]) ++ (aX rr (some ((x : Int) + 1)) none))) h_
  generalize upd B4 nr (HO.lst (((aX rr none (some (x : Int))) ++ [od]) ++ (aX rr (some ((x : Int) + 1)) none))) = B5 at z_ enr ⊢
  have sm := sm.trans z_
  have psp := psp.mono z_
  have tsp := z_ _ _ tsp
  clear z_ h_
  refine ⟨_, rfl, _, rfl, sp, _, _, y, rfl, rfl, tsp, (by rw [lsp]; exact ixN_at hy), ?_⟩
  dsimp only
  have nq : ∀ q ∈ sps, q ≠ sp := fun q hq z => psp.out (by rw [← z]; exact hq)
  have eX : upd B5 sp (.lst ((sps.map V.ref).set y (.ref nr))) sp = some (.lst ((sps.map V.ref).set y (.ref nr))) := ak
  have enr6 : upd B5 sp (.lst ((sps.map V.ref).set y (.ref nr))) nr = some (.lst (((aX rr none (some (x : Int))) ++ [od]) ++ (aX rr (some ((x : Int) + 1)) none))) := by rw [aJ nspn.symm]; exact enr
  have eq6 : ∀ q ∈ sps, ∃ ns : List V, upd B5 sp (.lst ((sps.map V.ref).set y (.ref nr))) q = some (.lst ns) ∧ ns.length = wd ∧ ns ∈ rows := fun q hq => by
   obtain ⟨ns, e, hl, _, hm⟩ := gd.mem2 psp hq
   exact ⟨ns, by rw [aJ (nq q hq)]; exact e, hl, hm⟩
  have s6 : aB H (upd B5 sp (.lst ((sps.map V.ref).set y (.ref nr)))) := aY sm fsp
  generalize upd B5 sp (.lst ((sps.map V.ref).set y (.ref nr))) = H6 at eX enr6 eq6 s6 ⊢
  have rwX : ∀ v ∈ ((sps.map V.ref).set y (.ref nr)), RwG I H6 v := fun v hv => by
   rcases List.mem_or_eq_of_mem_set hv with hv | rfl
   ·obtain ⟨q, hq, rfl⟩ := List.mem_map.mp hv
    obtain ⟨ns, e, hl, hm⟩ := eq6 q hq
    exact RwG.lst e (by rw [hl]; omega) (fun y hy => I.mono (its ns hm y hy) s6)
   ·refine RwG.lst enr6 (by rw [List.length_append, List.length_append]; show _ + 1 + _ ≤ _; omega) fun v hv => ?_
    rcases List.mem_append.mp hv with hv | hv
    ·rcases List.mem_append.mp hv with hv | hv
     ·exact I.mono (its rr hrm v (cutV_mem hv)) s6
     ·rw [List.mem_singleton.mp hv]; exact I.mono kod s6
    ·exact I.mono (its rr hrm v (cutV_mem hv)) s6
  have lX : ((sps.map V.ref).set y (.ref nr)).length = rows.length := by rw [List.length_set, lsp]
  have bX : gR I H6 (.ref sp) := gF eX (by rw [lX]; omega) rwX ⟨.ref nr, List.mem_set (by rw [lsp]; exact hy) _, gnot_row enr6 (List.mem_append_left _ (List.mem_append_right _ List.mem_cons_self)) (by rw [I.omono kod s6]; exact wod)⟩
  refine ⟨_, rfl, a, ps, rows, rfl, pic.mono s6, lir, fun lg lgs H7 s7 flg flgs plg => ?_⟩
  obtain ⟨ly, hly⟩ : ∃ q, lgs[y]? = some q := ⟨_, List.getElem?_eq_getElem (by rw [plg.len]; exact hy)⟩
  have mly := List.mem_of_getElem? hly
  have ely : H7 ly = some (.lst rr) := by
   obtain ⟨r1, h1, e1⟩ := plg.at hly
   obtain ⟨r2, h2, e2⟩ := pic.at hqy
   rw [h2] at h1
   cases h1
   rw [er] at e2
   rw [e1]; exact e2.symm
  have llg : (lgs.map V.ref).length = rows.length := by rw [List.length_map, plg.len]
  have eql : (lgs.map V.ref)[y]? = some (.ref ly) := by rw [List.getElem?_map, hly]; rfl
  have s07 := s6.trans s7
  refine ⟨_, rfl, _, rfl, lg, _, _, _, rfl, rfl, aU.of plg.top, aW (j := y) eql, .inl ⟨rfl, _, aU.of ely⟩, _, rfl, a, _, _, _, rfl, rfl, aU.of (s07 _ _ pic.top), aW (j := 0) eq0, q0, _, _, _, rfl, rfl, aU.of (s07 _ _ er0), aW (j := 0) hc00, ly, _, _, rfl, rfl, ely, Nat.lt_of_lt_of_le (by rw [lrr]; omega : _ < 5000) (by decide), ?_⟩
  dsimp only
  have fly : H6 ly = none := flgs ly mly
  have s8 : aB H6 (upd H7 ly (.lst (rr ++ [c00]))) := aY s7 fly
  have nll : lg ≠ ly := fun z => plg.out (by rw [z]; exact mly)
  have rwL : ∀ v ∈ lgs.map V.ref, RwG I (upd H7 ly (.lst (rr ++ [c00]))) v := fun v hv => by
   obtain ⟨q, hq, rfl⟩ := List.mem_map.mp hv
   by_cases hql : q = ly
   ·subst hql
    refine RwG.lst ak (by rw [List.length_append, lrr]; show _ + 1 ≤ _; omega) fun v hv => ?_
    rcases List.mem_append.mp hv with hv | hv
    ·exact I.mono (its rr hrm v hv) (s6.trans s8)
    ·rw [List.mem_singleton.mp hv]; exact I.mono (its r0 hm0 c00 (List.mem_of_getElem? hc00)) (s6.trans s8)
   ·obtain ⟨ns, e, hl, _, hm⟩ := gd.mem2 plg hq
    exact RwG.lst (by rw [aJ hql]; exact e) (by rw [hl]; omega) (fun y hy => I.mono (its ns hm y hy) (s6.trans s8))
  exact k6 sp lg _ _ (.ref ly) _ (s6.trans s8) (s8 _ _ eX) lX (fun v hv => (rwX v hv).mono s8) (bX.mono s8) (by rw [aJ nll]; exact plg.top) (by rw [llg]; exact hle) rwL (List.mem_map.mpr ⟨ly, mly, rfl⟩) (by rw [jc ak, List.length_append, lrr]; rfl)
end
noncomputable def mc (last k : Nat) (i : Nat) : Nat × Nat × Nat := (min i last, k, 3)
theorem pour_many {fl : List (C4)} {last k : Nat} (hl : 16 ≤ last) (hf : ∀ (i : Nat) d, fl[i]? = some d → d.2 = mc last k i) (hn : 17 ≤ fl.length) : 16 < (aG [] fl).length := by
 have key : ∀ j, j ≤ 17 → (aG [] (fl.take j)).length = j ∧ ∀ x ∈ aG [] (fl.take j), x.2.1 < j := by
  intro j
  induction j with
  | zero => intro _; exact ⟨rfl, fun x hx => nomatch hx⟩
  | succ j ih =>
   intro hj
   obtain ⟨h1, h2⟩ := ih (by omega)
   have hd : fl[j]? = some fl[j] := List.getElem?_eq_getElem (by omega)
   have e := hf j _ hd
   have e1 : fl[j].2.1 = j := by rw [e]; show min j last = j; omega
   have nf : (aG [] (fl.take j)).findIdx? (isC fl[j].2.1 fl[j].2.2.1 fl[j].2.2.2) = none := by
    rw [List.findIdx?_eq_none_iff]
    intro x hx
    unfold isC
    refine decide_eq_false fun z => ?_
    have := h2 x hx
    rw [z] at this
    exact absurd this (by show ¬ fl[j].2.1 < j; omega)
   have ea : aG [] (fl.take (j + 1)) = aG [] (fl.take j) ++ [fl[j]] := by
    rw [take_at hd, pour_snoc]; unfold fG; rw [nf]; rfl
   rw [ea]
   refine ⟨by rw [List.length_append, h1]; rfl, fun x hx => ?_⟩
   rcases List.mem_append.mp hx with hx | hx
   ·have := h2 x hx; omega
   ·rw [List.mem_singleton.mp hx, e1]; omega
 obtain ⟨e, he⟩ := pour_take [] fl 17
 rw [he, List.length_append, (key 17 (Nat.le_refl _)).1]; omega
theorem eG.fr0 {x : Addr} {H H' : Hp} {a : Addr} {ps : List Addr} {rws : List (List (C4))} {ys : List V} (f : Fr0 x H H') (l : H x = some (.lst ys)) (p : eG H a ps rws) (n : x ∉ a :: ps) : eG H' a ps rws := ⟨f.pic p.pic n, fun r hr d hd => f.col l (p.col r hr d hd)⟩
theorem mc_snoc {fl : List (C4)} {last k m : Nat} {e : C4} (hf : ∀ (j : Nat) d, fl[j]? = some d → d.2 = mc last k j) (hm : fl.length = m) (he : e.2 = mc last k m) : ∀ (j : Nat) d, (fl ++ [e])[j]? = some d → d.2 = mc last k j := fun j d hd => by
 rcases Nat.lt_or_ge j fl.length with q | q
 ·rw [List.getElem?_append_left q] at hd; exact hf j d hd
 ·rw [List.getElem?_append_right q] at hd
  have : j - fl.length = 0 := by
   rcases Nat.eq_zero_or_pos (j - fl.length) with z | z
   ·exact z
   ·rw [List.getElem?_eq_none (by show 1 ≤ _; omega)] at hd; cases hd
  rw [this] at hd
  cases hd
  rw [he, show m = j by omega]
noncomputable def spMR : Sp := fun vs H Q _ => ∃ n : Nat, vs = [.int (n : Int)] ∧ ∀ q qs rws wd H', aB H H' → H q = none → Fresh H qs → eG H' q qs rws → GoodC rws wd → 16 < (aG [] rws.flatten).length → (rws.length = 1 → 18 ≤ wd) → Q (.ref q) H'
section
variable {P : Program} {w : World} {K : W.Frag} {mg : Str → Option Value} {base : Heap} {cFE cC cN cM cP cL cB cD cZ : Addr} {tP tS tC tI : Tok}
theorem fc : aO ["_law_number", "_law_wide", "_law_high", "_law_last"] ["_law_number"] (ao cY) := ⟨rfl, rfl, rfl, by decide +kernel, rfl, by decide +kernel, by decide +kernel⟩
theorem ok_law_many_rows {f : Addr} {fd : FuncData} (F : bI K "_law_many_rows" "_law_many_rows" cY .none f fd) (T : Txt K mg cFE cC cN cM cP cL cB cD cZ tP tS tC tI) : bB P w K mg base gh 1 f fd ["_law_number"] (spMR) := by
 refine F.ok fc (fun vs H Q E h => ?_) (fun cdv A outer s H vs Q E hr h => ?_)
 ·obtain ⟨n, rfl, _⟩ := h; rfl
 ·obtain ⟨n, rfl, k⟩ := h
  refine ⟨_, (au (aQ (i := 1) fc.nd rfl (by first | exact Or.inl rfl | exact Or.inr rfl) (aC cj aq (aC bf (pv 0) aq)))
    (au (aQ (i := 2) fc.nd rfl (by first | exact Or.inl rfl | exact Or.inr rfl) (aC cj (aC bz aq (pv 1)) aq))
    (au (aQ (i := 3) fc.nd rfl (by first | exact Or.inl rfl | exact Or.inr rfl) (bM (ixK K rfl) (aZ (aa aq (aa aq aj))) (aC bf (aC bz (pv 0) aq) aq) (fun _ _ => rfl)))
    (aA (aM (bG (N := ["_law_y", "_law_wide", "_law_last", "_law_number"]) (src := [none, some 1, some 3, some 0]) rfl ⟨rfl, rfl, rfl, rfl, rfl, by decide +kernel⟩ (fV rfl T.range (aa (pv 2) aj)) (fun s H C fp => aP (i := 0) (show (["_law_y", "_law_wide", "_law_last", "_law_number"] : List Str).Nodup by decide +kernel) rfl (by first | exact Or.inl rfl | exact Or.inr rfl)) (fun s H C fp => bh) (fun s H C fp => (bG (N := ["_law_x", "_law_y", "_law_wide", "_law_last", "_law_number"]) (src := [none, some 0, some 1, some 2, some 3]) rfl ⟨rfl, rfl, rfl, rfl, rfl, by decide +kernel⟩ (fV rfl T.range (aa (pv 1) aj)) (fun s H C fp => aP (i := 0) (show (["_law_x", "_law_y", "_law_wide", "_law_last", "_law_number"] : List Str).Nodup by decide +kernel) rfl (by first | exact Or.inl rfl | exact Or.inr rfl)) (fun s H C fp => bh) (fun s H C fp => (bD (aa (aN (call_min2 rfl) rfl T.min PyProof.Rows.boot_min (aa (aC cj (aC op_mul (pv 1) (pv 2)) (pv 0)) (aa (pv 3) aj))) (aa (aC bf (aC bz (pv 4) aq) aq) (aa aq aj))))))))))))), ?_⟩
  obtain ⟨wd, ew, w1, w24⟩ : ∃ wd : Nat, (1 : Int) + (n : Int) % 24 = (wd : Int) ∧ 1 ≤ wd ∧ wd ≤ 24 := ⟨1 + n % 24, by omega, by omega, by omega⟩
  refine ⟨_, rfl, _, _, rfl, rfl, (by show (0 : Int) < 24; decide), _, _, rfl, rfl, ?_⟩
  show dG 1 (.int (1 + (n : Int) % 24)) _ _ _
  rw [ew]
  obtain ⟨hg, eh, h1, h24, hw⟩ : ∃ hg : Nat, (17 : Int) / (wd : Int) + 1 = (hg : Int) ∧ 1 ≤ hg ∧ hg ≤ 24 ∧ 17 < hg * wd ∧ (hg = 1 → 18 ≤ wd) := by
   refine ⟨17 / wd + 1, by push_cast; rfl, Nat.succ_le_succ (Nat.zero_le _), ?_, ?_, ?_⟩
   ·have := Nat.div_le_self 17 wd; omega
   ·have := Nat.lt_mul_div_succ 17 (show 0 < wd by omega)
    rw [Nat.mul_comm]; exact this
   ·intro z
    have h0 : 17 / wd = 0 := by omega
    have := Nat.div_eq_zero_iff.mp h0
    omega
  refine ⟨_, rfl, _, _, rfl, rfl, ?_, _, _, rfl, rfl, ?_⟩
  ·exact ⟨by show (0 : Int) < (wd : Int); omega, by show (wd : Int) < 1073741824; omega⟩
  show dG 2 (.int ((17 : Int) / (wd : Int) + 1)) _ _ _
  rw [eh]
  refine ⟨sz2, fun L hL => ?_⟩
  have z1 := az (o := HO.lst [V.int 16, .int 99]) hL
  obtain ⟨v, hv, ev⟩ := at_mod (xs := [V.int 16, .int 99]) (m := (n : Int) / 6144) 2 rfl (by decide)
  obtain ⟨la, rfl, hla⟩ : ∃ la : Nat, v = .int (la : Int) ∧ 16 ≤ la ∧ la ≤ 99 := by
   simp only [List.mem_cons, List.not_mem_nil, or_false] at hv
   rcases hv with rfl | rfl
   ·exact ⟨16, rfl, by decide, by decide⟩
   ·exact ⟨99, rfl, by decide, by decide⟩
  refine ⟨_, rfl, _, _, rfl, rfl, ⟨by decide, by decide⟩, _, _, rfl, rfl, (by show (0 : Int) < 2; decide), L, _, _, _, rfl, rfl, aU.of ak, ev, ?_⟩
  generalize upd H L (.lst [V.int 16, .int 99]) = H1 at z1 ⊢
  have fl2 : ∀ x ≤ 24, x ≤ sizeLine := fun x hx => Nat.le_trans hx (by decide)
  refine ⟨_, rfl, (hg : Int), rfl, by omega, by omega, fun D hD => ?_⟩
  have fD : H D = none := z1.free hD
  refine comp_range (k := 0) (fl2 _ (by omega)) (fun i ys H' => aB H H' ∧ ∃ (qs : List Addr) (rws : List (List (C4))), ys = qs.map V.ref ∧ eG H' D qs rws ∧ Fresh H qs ∧ rws.length = i ∧ (∀ r ∈ rws, r.length = wd) ∧ rws.flatten.length = i * wd ∧ (∀ (j : Nat) d, rws.flatten[j]? = some d → d.2 = mc la (n / 24 % 256) j))
   ⟨aY z1 fD, [], [], rfl, ⟨⟨ak, .nil, List.nodup_nil, by simp⟩, (fun r hr => nomatch hr)⟩, (fun q hq => nomatch hq), rfl, (fun r hr => nomatch hr), by simp, fun j d hd => by simp at hd⟩ ?_ ?_
  ·rintro i ys H2 N hi hyl hys hD2 ⟨s2, qs, rws, rfl, cp, fq, hl, hrr, hfl, hf⟩ kN
   have hi24 : i < 24 := by omega
   refine ⟨_, rfl, (wd : Int), rfl, by omega, by omega, fun D2 hn2 => ?_⟩
   have fD2 : H D2 = none := s2.free hn2
   have n2 := not_pic cp.pic hn2
   refine comp_range (k := 0) (fl2 _ (by omega)) (fun j zs H' => aB H H' ∧ eG H' D qs rws ∧ ∃ r : List (C4), zs = r.map (fun c : C4 => V.ref c.1) ∧ r.length = j ∧ (∀ d ∈ r, iM H' d.1 d.2.1 d.2.2.1 d.2.2.2) ∧ (∀ (j : Nat) d, (rws.flatten ++ r)[j]? = some d → d.2 = mc la (n / 24 % 256) j))
    ⟨aY s2 fD2, cp.mono (az hn2), [], rfl, rfl, (fun d hd => nomatch hd), by rw [List.append_nil]; exact hf⟩ ?_ ?_
   ·rintro j zs H3 N3 hj hzl hzs hD3 ⟨s3, cp3, r, rfl, hrl, hc, hfr⟩ kN3
    have hj24 : j < 24 := by omega
    have hiw : i * wd ≤ 23 * 24 := Nat.mul_le_mul (by omega) w24
    refine ⟨_, rfl, _, rfl, _, _, rfl, rfl, .inl ⟨by omega, by omega⟩, _, rfl, _, _, rfl, rfl, _, rfl, _, _, rfl, _, rfl, _, _, rfl, rfl, ⟨by decide, by decide⟩, _, _, rfl, rfl, (by show (0 : Int) < 256; decide), sz3, fun tp htp => ?_⟩
    have eT : (if (la : Int) < (0 + (i : Int)) * (wd : Int) + (0 + (j : Int)) then (la : Int) else (0 + (i : Int)) * (wd : Int) + (0 + (j : Int))) = ((min (i * wd + j) la : Nat) : Int) := by
     rw [Int.zero_add, Int.zero_add, show (i : Int) * (wd : Int) + (j : Int) = ((i * wd + j : Nat) : Int) by push_cast; rfl]
     split <;> omega
    have eK : (n : Int) / 24 % 256 = ((n / 24 % 256 : Nat) : Int) := by omega
    have zt := az (o := HO.tup [V.int (if (la : Int) < (0 + (i : Int)) * (wd : Int) + (0 + (j : Int)) then (la : Int) else (0 + (i : Int)) * (wd : Int) + (0 + (j : Int))), .int ((n : Int) / 24 % 256), .int 3]) htp
    have cT : iM (upd H3 tp (HO.tup [V.int (if (la : Int) < (0 + (i : Int)) * (wd : Int) + (0 + (j : Int)) then (la : Int) else (0 + (i : Int)) * (wd : Int) + (0 + (j : Int))), .int ((n : Int) / 24 % 256), .int 3])) tp (min (i * wd + j) la) (n / 24 % 256) 3 := ⟨by rw [ak, eT, eK]; rfl, by omega, by omega, by decide⟩
    generalize upd H3 tp (HO.tup [V.int (if (la : Int) < (0 + (i : Int)) * (wd : Int) + (0 + (j : Int)) then (la : Int) else (0 + (i : Int)) * (wd : Int) + (0 + (j : Int))), .int ((n : Int) / 24 % 256), .int 3]) = H4 at zt cT ⊢
    have hD4 := zt _ _ hD3
    have f4 : Fr0 D2 H4 (upd H4 D2 (.lst (r.map (fun c : C4 => V.ref c.1) ++ [.ref tp]))) := fun b o hb hne => by rw [aJ hne]; exact hb
    refine ⟨_, hD4, hzs, kN3 _ _ ak (by rw [List.length_append]; show _ + 1 ≤ _; omega) ⟨aY (s3.trans zt) fD2, (cp3.mono zt).fr0 f4 hD4 n2, r ++ [(tp, min (i * wd + j) la, n / 24 % 256, 3)], by rw [List.map_append]; rfl, by rw [List.length_append, hrl]; rfl, fun d hd => ?_, ?_⟩⟩
    ·rcases List.mem_append.mp hd with hd | hd
     ·exact f4.col hD4 ((hc d hd).mono zt)
     ·rw [List.mem_singleton.mp hd]; exact f4.col hD4 cT
    ·rw [← List.append_assoc]
     exact mc_snoc hfr (m := i * wd + j) (by rw [List.length_append, hfl, hrl]) rfl
   ·rintro zs H3 hD3 hzl ⟨s3, cp3, r, rfl, hrl, hc, hfr⟩
    have hrl : r.length = wd := by omega
    have f3 : Fr0 D H3 (upd H3 D (.lst (qs.map V.ref ++ [.ref D2]))) := fun b o hb hne => by rw [aJ hne]; exact hb
    have h1' : D2 ≠ D := fun z => n2 (by rw [z]; exact List.mem_cons_self)
    have h2' : D2 ∉ qs := fun z => n2 (List.mem_cons_of_mem _ z)
    refine ⟨_, cp3.pic.top, hys, kN _ _ ak (by rw [List.length_append]; show _ + 1 ≤ _; omega) ⟨aY s3 fD, qs ++ [D2], rws ++ [r], by rw [List.map_append]; rfl, ⟨?_, fun r' hr' d hd => ?_⟩, fun q hq => ?_, by rw [List.length_append, hl]; rfl, fun r' hr' => ?_, ?_, ?_⟩⟩
    ·have := picSnoc cp3.pic h1' h2' hD3
     unfold cr at this ⊢
     rw [List.map_append]; exact this
    ·rcases List.mem_append.mp hr' with hr' | hr'
     ·exact f3.col cp3.pic.top (cp3.col r' hr' d hd)
     ·rw [List.mem_singleton.mp hr'] at hd; exact f3.col cp3.pic.top (hc d hd)
    ·rcases List.mem_append.mp hq with hq | hq
     ·exact fq q hq
     ·rw [List.mem_singleton.mp hq]; exact fD2
    ·rcases List.mem_append.mp hr' with hr' | hr'
     ·exact hrr r' hr'
     ·rw [List.mem_singleton.mp hr']; exact hrl
    ·rw [List.flatten_append, List.length_append, hfl, Nat.add_mul]
     simp [hrl]
    ·rw [List.flatten_append]
     simpa using hfr
  ·rintro ys H2 hD2 hyl ⟨s2, qs, rws, rfl, cp, fq, hl, hrr, hfl, hf⟩
   have hl : rws.length = hg := by omega
   refine k D qs rws wd H2 s2 fD fq cp ⟨by omega, by omega, w1, w24, hrr⟩ (pour_many hla.1 hf ?_) (fun z => hw.2 (by omega))
   have e : ((hg : Int).toNat) = hg := by omega
   rw [hfl, e]
   have := hw.1
   omega
end
theorem orB {P : Program} {w : World} {K : W.Frag} {mg : Str → Option Value} {base : Heap} {CX : CXT} {k : Nat} {f : Addr} {fd : FuncData} {ps : List Str} {s1 s2 : Sp} (a : bB P w K mg base CX k f fd ps s1) (b : bB P w K mg base CX k f fd ps s2) : bB P w K mg base CX k f fd ps (fun vs H Q E => s1 vs H Q E ∨ s2 vs H Q E) :=
 ⟨fun vs H Q E h => h.elim (a.len vs H Q E) (b.len vs H Q E), fun A outer s H args us vs Q E r e bn v h => h.elim (a.run A outer s H args us vs Q E r e bn v) (b.run A outer s H args us vs Q E r e bn v)⟩
noncomputable def cellI (K : W.Frag) : Item K := { one := fun _ v => bU 0 15 v, tk := fun H v => Kd K H v, mono := fun h s => h.mono s, kd := fun h => h, omono := fun _ _ => rfl }
noncomputable def colI (K : W.Frag) : Item K := { one := dX, tk := fun H v => TC K H v, mono := fun h s => h.mono s, kd := fun h => h.kd, omono := fun h s => cF h s }
theorem gR.cell {K : W.Frag} {H : Hp} {v : V} (b : gR (cellI K) H v) : BadQ K H v := ⟨⟨b.th.kd, b.th.len, fun xs h x hx => ⟨(b.th.it xs h x hx).kd, (b.th.it xs h x hx).len, (b.th.it xs h x hx).it⟩⟩, b.no⟩
theorem gR.col {K : W.Frag} {H : Hp} {v : V} (b : gR (colI K) H v) : BadC K H v := ⟨⟨b.th.kd, b.th.len, fun xs h x hx => ⟨(b.th.it xs h x hx).kd, (b.th.it xs h x hx).len, (b.th.it xs h x hx).it⟩⟩, b.no⟩
noncomputable def spSR (K : W.Frag) : Sp := fun vs H Q _ => ∃ (a : Addr) (ps : List Addr) (rws : List (List (C4))) (wd : Nat), vs = [.ref a] ∧ eG H a ps rws ∧ GoodC rws wd ∧ (rws.length = 1 → 18 ≤ wd) ∧ ∀ H', aB H H' → Q (.bl true) H'
theorem eG.rwc {K : W.Frag} {H : Hp} {a : Addr} {ps : List Addr} {rws : List (List (C4))} {wd : Nat} (p : eG H a ps rws) (g : GoodC rws wd) : ∀ x ∈ ps.map V.ref, RwG (colI K) H x ∧ lenOf H x = wd := fun x hx => by
 obtain ⟨q, hq, rfl⟩ := List.mem_map.mp hx
 obtain ⟨i, hi⟩ := List.getElem?_of_mem hq
 obtain ⟨r, hr, e⟩ := p.row hi
 have mr := List.mem_of_getElem? hr
 have lr := g.row r mr
 have w24 := g.w24
 refine ⟨RwG.lst e (by rw [List.length_map]; omega) fun y hy => ?_, by rw [jc e, List.length_map, lr]⟩
 obtain ⟨d, hd, rfl⟩ := List.mem_map.mp hy
 exact (p.col r mr d hd).tc
section
variable {P : Program} {w : World} {K : W.Frag} {mg : Str → Option Value} {base : Heap} {cFE cC cN cM cP cL cB cD cZ : Addr} {tP tS tC tI : Tok}
theorem gB : aO ["_law_rows", "_law_some"] ["_law_rows"] (ao bT) := ⟨rfl, rfl, rfl, by decide +kernel, rfl, by decide +kernel, by decide +kernel⟩
theorem ok_law_sizes_refused {f : Addr} {fd : FuncData} (F : bI K "_law_sizes_refused" "_law_sizes_refused" bT .none f fd) (T : Txt K mg cFE cC cN cM cP cL cB cD cZ tP tS tC tI) (g__law_refused : iR P w K mg base 12 "_law_refused" ["_law_way", "_law_one", "_law_palette"] [] (spRefd K cL)) : bB P w K mg base gh 13 f fd ["_law_rows"] (spSR K) := by
 refine F.ok gB (fun vs H Q E h => ?_) (fun cdv A outer s H vs Q E hr h => ?_)
 ·obtain ⟨a, ps, rws, wd, rfl, _⟩ := h; rfl
 ·obtain ⟨a, ps, rws, wd, rfl, cp, gd, h1w, k⟩ := h
  have hu : _ + 64 < cLine := hr.units
  have gne := gd.ne
  have gle := gd.le
  have gw1 := gd.w1
  have gw24 := gd.w24
  have lps := cp.len
  refine ⟨_, (au (aQ (i := 1) gB.nd rfl (by first | exact Or.inl rfl | exact Or.inr rfl) (aZ (aa (aC gm (aZ (aa (aC op_rep (bM (ixK K rfl) (pv 0) aq (fun _ _ => rfl)) aq) aj)) (dq (slK K rfl) (pv 0) (dR aq) dW)) (aa (aZ (aa (bG (N := ["_law_k"]) (src := [none]) rfl ⟨rfl, rfl, rfl, rfl, rfl, by decide +kernel⟩ (fV rfl T.range (aa aq aj)) (fun s H C fp => aP (i := 0) (show (["_law_k"] : List Str).Nodup by decide +kernel) rfl (by first | exact Or.inl rfl | exact Or.inr rfl)) (fun s H C fp => bh) (fun s H C fp => (bD (aa (pv 0) (aa aq (aa aq aj)))))) aj)) (aa (bG (N := ["_law_k"]) (src := [none]) rfl ⟨rfl, rfl, rfl, rfl, rfl, by decide +kernel⟩ (fV rfl T.range (aa aq aj)) (fun s H C fp => aP (i := 0) (show (["_law_k"] : List Str).Nodup by decide +kernel) rfl (by first | exact Or.inl rfl | exact Or.inr rfl)) (fun s H C fp => bh) (fun s H C fp => (aZ (aa (bD (aa (pv 0) (aa aq (aa aq aj)))) aj)))) aj)))))
    (aA (aM (gW (eqDK K rfl hu) (bG (N := ["_law_one"]) (src := [none]) rfl ⟨rfl, rfl, rfl, rfl, rfl, by decide +kernel⟩ (piK K rfl (pv 1)) (fun s H C fp => aP (i := 0) (show (["_law_one"] : List Str).Nodup by decide +kernel) rfl (by first | exact Or.inl rfl | exact Or.inr rfl)) (fun s H C fp => (pts_one (bj (neDK K rfl hu) (aD g__law_refused (hr.mono (by decide)) rfl (aa aq (aa (pv 0) (aa iT aj)))) (bD (aa bJ aj)) (bA _)))) (fun s H C fp => (pv 0))) (aZ aj) (bA _))))), ?_⟩
  obtain ⟨q0, hq0⟩ : ∃ q, ps[0]? = some q := ⟨_, List.getElem?_eq_getElem (by omega)⟩
  obtain ⟨r0, hr0, e0⟩ := cp.row hq0
  have m0 := List.mem_of_getElem? hr0
  have lr0 := gd.row r0 m0
  have at0 : (ps.map V.ref)[0]? = some (.ref q0) := by rw [List.getElem?_map, hq0]; rfl
  have sm := aB.refl H
  have lrep : (List.replicate (2 : Int).toNat (r0.map (fun c : C4 => V.ref c.1))).flatten.length = 2 * wd := by rw [show (List.replicate (2 : Int).toNat (r0.map (fun c : C4 => V.ref c.1))).flatten = List.flatten (List.replicate 2 (r0.map (fun c : C4 => V.ref c.1))) from rfl, len_rep', List.length_map, lr0]
  refine ⟨_, rfl, a, _, _, _, rfl, rfl, aU.of cp.pic.top, aW (j := 0) at0, q0, 2, _, rfl, rfl, e0, by decide, by decide, Nat.le_trans (by rw [List.length_map, lr0]; show wd * 2 ≤ 5000; omega) (by decide), fun dd h_ => ?_⟩
  obtain ⟨z_, edd⟩ := bY (HO.lst (List.replicate (2 : Int).toNat (r0.map (fun c : C4 => V.ref c.1))).flatten) h_
  generalize upd H dd (HO.lst (List.replicate (2 : Int).toNat (r0.map (fun c : C4 => V.ref c.1))).flatten) = G1 at z_ edd ⊢
  have sm := sm.trans z_
  have cp := cp.mono z_
  clear z_ h_
  refine ⟨sz1, fun l1 h_ => ?_⟩
  obtain ⟨z_, el1⟩ := bY (HO.lst [V.ref dd]) h_
  generalize upd G1 l1 (HO.lst [V.ref dd]) = G2 at z_ el1 ⊢
  have sm := sm.trans z_
  have cp := cp.mono z_
  have edd := z_ _ _ edd
  clear z_ h_
  refine ⟨_, rfl, _, rfl, a, _, rfl, aU.of cp.pic.top, fun t1 h_ => ?_⟩
  obtain ⟨z_, et1⟩ := bY (HO.lst (aX (ps.map V.ref) (some 1) none)) h_
  generalize upd G2 t1 (HO.lst (aX (ps.map V.ref) (some 1) none)) = G3 at z_ et1 ⊢
  have sm := sm.trans z_
  have cp := cp.mono z_
  have edd := z_ _ _ edd
  have el1 := z_ _ _ el1
  clear z_ h_
  have ecut : (aX (ps.map V.ref) (some 1) none) = (ps.map V.ref).drop 1 := cut_lo _ 1 (by rw [List.length_map]; omega)
  refine ⟨l1, t1, _, _, rfl, rfl, el1, et1, Nat.le_trans (by rw [ecut, List.length_drop, List.length_map]; show 1 + _ ≤ 5000; omega) (by decide), fun x1 h_ => ?_⟩
  obtain ⟨z_, ex1⟩ := bY (HO.lst ([V.ref dd] ++ (aX (ps.map V.ref) (some 1) none))) h_
  generalize upd G3 x1 (HO.lst ([V.ref dd] ++ (aX (ps.map V.ref) (some 1) none))) = G4 at z_ ex1 ⊢
  have sm := sm.trans z_
  have cp := cp.mono z_
  have edd := z_ _ _ edd
  clear z_ h_
  have bad1 : gR (colI K) G4 (.ref x1) := by
   rw [ecut] at ex1
   have rw1 : ∀ x ∈ [V.ref dd] ++ (ps.map V.ref).drop 1, RwG (colI K) G4 x := fun x hx => by
    rcases List.mem_append.mp hx with hx | hx
    ·rw [List.mem_singleton.mp hx]
     refine RwG.lst edd (by rw [lrep]; omega) fun y hy => ?_
     obtain ⟨l, hl, hy⟩ := List.mem_flatten.mp hy
     rw [List.eq_of_mem_replicate hl] at hy
     obtain ⟨d, hd, rfl⟩ := List.mem_map.mp hy
     exact (cp.col r0 m0 d hd).tc
    ·exact (cp.rwc gd x (List.mem_of_mem_drop hx)).1
   have gO : ([V.ref dd] ++ (ps.map V.ref).drop 1).length ≤ 1000 := by rw [List.length_append, List.length_drop, List.length_map]; show 1 + _ ≤ _; omega
   rcases Nat.lt_or_ge rws.length 2 with h2 | h2
   ·refine gF ex1 gO rw1 ⟨.ref dd, List.mem_append_left _ List.mem_cons_self, ?_⟩
    unfold iZ; rw [aH edd]; dsimp only; unfold rowGB
    rw [lrep]
    have := h1w (by omega)
    rw [show bU 1 24 (.int ((2 * wd : Nat) : Int)) = false by simp only [bU]; rw [Bool.and_eq_false_iff]; right; exact decide_eq_false (by omega), Bool.and_false]
   ·obtain ⟨q1, hq1⟩ : ∃ q, ps[1]? = some q := ⟨_, List.getElem?_eq_getElem (by omega)⟩
    have mq1 : V.ref q1 ∈ (ps.map V.ref).drop 1 := List.mem_iff_getElem?.mpr ⟨0, by rw [List.getElem?_drop, List.getElem?_map, hq1]; rfl⟩
    refine gbad_lens ex1 gO rw1 (List.mem_append_left _ List.mem_cons_self) (List.mem_append_right _ mq1) ?_
    rw [jc edd, lrep, (cp.rwc (K := K) gd _ (List.mem_of_mem_drop mq1)).2]
    omega
  clear ex1 et1 el1 edd
  refine ⟨25, rfl, by decide, by decide, fun D hD => ?_⟩
  have fDH := sm.free hD
  refine comp_range (k := 0) (by decide) (fun i ys H' => aB G4 H' ∧ ∃ r : List (C4), ys = r.map (fun c : C4 => V.ref c.1) ∧ r.length = i ∧ ∀ d ∈ r, iM H' d.1 d.2.1 d.2.2.1 d.2.2.2) ⟨az hD, [], rfl, rfl, fun d hd => nomatch hd⟩ ?_ ?_
  ·rintro i ys H2 N hi hyl hys hD2 ⟨s2, r, rfl, hrl, hc⟩ kN
   have hi25 : i < 25 := hi
   refine ⟨_, rfl, sz3, fun tp htp => ?_⟩
   have zt := az (o := HO.tup [V.int (0 + (i : Int)), .int 7, .int 3]) htp
   have cT : iM (upd H2 tp (.tup [V.int (0 + (i : Int)), .int 7, .int 3])) tp i 7 3 := ⟨by rw [ak, Int.zero_add]; rfl, by omega, by decide, by decide⟩
   generalize upd H2 tp (.tup [V.int (0 + (i : Int)), .int 7, .int 3]) = H4 at zt cT ⊢
   have hD4 := zt _ _ hD2
   have f4 : Fr0 D H4 (upd H4 D (.lst (r.map (fun c : C4 => V.ref c.1) ++ [.ref tp]))) := fun b o hb hne => by rw [aJ hne]; exact hb
   refine ⟨_, hD4, hys, kN _ _ ak (by rw [List.length_append]; show _ + 1 ≤ _; omega) ⟨aY (s2.trans zt) hD, r ++ [(tp, i, 7, 3)], by rw [List.map_append]; rfl, by rw [List.length_append, hrl]; rfl, fun d hd => ?_⟩⟩
   rcases List.mem_append.mp hd with hd | hd
   ·exact f4.col hD4 ((hc d hd).mono zt)
   ·rw [List.mem_singleton.mp hd]; exact f4.col hD4 cT
  rintro ys H2 hD2 hyl ⟨s2, r, rfl, hrl, hc⟩
  have hrl : r.length = 25 := hrl
  have sm := sm.trans s2
  have bad1 := bad1.mono s2
  clear s2
  refine ⟨sz1, fun x2 h_ => ?_⟩
  have hc := fun d hd => (hc d hd).mono (az (o := HO.lst [V.ref D]) h_)
  obtain ⟨z_, ex2⟩ := bY (HO.lst [V.ref D]) h_
  generalize upd H2 x2 (HO.lst [V.ref D]) = G5 at z_ ex2 hc ⊢
  have sm := sm.trans z_
  have bad1 := bad1.mono z_
  have hD2 := z_ _ _ hD2
  clear z_ h_
  have bad2 : gR (colI K) G5 (.ref x2) := by
   refine gbad_one ex2 hD2 (by rw [List.length_map]; omega) (fun y hy => ?_) ?_
   ·obtain ⟨d, hd, rfl⟩ := List.mem_map.mp hy
    exact (hc d hd).tc
   ·unfold rowGB; rw [List.length_map, hrl, show bU 1 24 (.int ((25 : Nat) : Int)) = false from rfl, Bool.and_false]
  clear ex2 hD2 hc
  refine ⟨25, rfl, by decide, by decide, fun D3 hD3 => ?_⟩
  refine comp_range (k := 0) (by decide) (fun i ys H' => aB G5 H' ∧ ∃ qs : List Addr, ys = qs.map V.ref ∧ qs.length = i ∧ ∀ q ∈ qs, q ≠ D3 ∧ ∃ tp k, H' q = some (.lst [.ref tp]) ∧ iM H' tp k 7 3) ⟨az hD3, [], rfl, rfl, fun d hd => nomatch hd⟩ ?_ ?_
  ·rintro i ys H2 N hi hyl hys hD2 ⟨s2, qs, rfl, hrl, hc⟩ kN
   have hi25 : i < 25 := hi
   refine ⟨_, rfl, sz3, fun tp htp => ?_⟩
   have zt := az (o := HO.tup [V.int (0 + (i : Int)), .int 7, .int 3]) htp
   have cT : iM (upd H2 tp (.tup [V.int (0 + (i : Int)), .int 7, .int 3])) tp i 7 3 := ⟨by rw [ak, Int.zero_add]; rfl, by omega, by decide, by decide⟩
   generalize upd H2 tp (.tup [V.int (0 + (i : Int)), .int 7, .int 3]) = H4 at zt cT ⊢
   refine ⟨sz1, fun li hli => ?_⟩
   have zl := az (o := HO.lst [V.ref tp]) hli
   have eli : upd H4 li (.lst [V.ref tp]) li = some (.lst [V.ref tp]) := ak
   have cT := cT.mono zl
   have zt := zt.trans zl
   have nli : li ≠ D3 := (aK (zt.trans (aB.refl _) |> fun _ => (by exact (show H4 D3 = some (.lst (qs.map V.ref)) from ‹aB H2 H4› _ _ hD2))) hli).symm
   generalize upd H4 li (.lst [V.ref tp]) = H5 at zt cT eli ⊢
   have hD4 := zt _ _ hD2
   have f4 : Fr0 D3 H5 (upd H5 D3 (.lst (qs.map V.ref ++ [.ref li]))) := fun b o hb hne => by rw [aJ hne]; exact hb
   refine ⟨_, hD4, hys, kN _ _ ak (by rw [List.length_append]; show _ + 1 ≤ _; omega) ⟨aY (s2.trans zt) hD3, qs ++ [li], by rw [List.map_append]; rfl, by rw [List.length_append, hrl]; rfl, fun q hq => ?_⟩⟩
   rcases List.mem_append.mp hq with hq | hq
   ·obtain ⟨n1, tp', k', e', c'⟩ := hc q hq
    exact ⟨n1, tp', k', f4 _ _ (zt _ _ e') n1, f4.col hD4 (c'.mono zt)⟩
   ·rw [List.mem_singleton.mp hq]; exact ⟨nli, tp, i, f4 _ _ eli nli, f4.col hD4 cT⟩
  rintro ys H3 hD3' hyl ⟨s3, qs, rfl, hrl, hc⟩
  have hrl : qs.length = 25 := hrl
  have bad3 : gR (colI K) H3 (.ref D3) := by
   refine gbad_len hD3' (by rw [List.length_map]; omega) (fun x hx => ?_) (by rw [List.length_map, hrl]; rfl)
   obtain ⟨q, hq, rfl⟩ := List.mem_map.mp hx
   obtain ⟨_, tp, k, e, c⟩ := hc q hq
   exact RwG.lst e (by show 1 ≤ 1000; decide) fun y hy => by rw [List.mem_singleton.mp hy]; exact c.tc
  clear hc hD3'
  have sm := sm.trans s3
  have bad1 := bad1.mono s3
  have bad2 := bad2.mono s3
  clear s3
  refine ⟨sz3, fun L h_ => ?_⟩
  obtain ⟨z_, eL⟩ := bY (HO.lst [V.ref x1, .ref x2, .ref D3]) h_
  generalize upd H3 L (HO.lst [V.ref x1, .ref x2, .ref D3]) = G6 at z_ eL ⊢
  have sm := sm.trans z_
  have bad1 := bad1.mono z_
  have bad2 := bad2.mono z_
  have bad3 := bad3.mono z_
  clear z_ h_
  have bads : ∀ v ∈ [V.ref x1, .ref x2, .ref D3], BadC K G6 v := fun v hv => by
   simp only [List.mem_cons, List.not_mem_nil, or_false] at hv
   rcases hv with rfl | rfl | rfl
   ·exact bad1.col
   ·exact bad2.col
   ·exact bad3.col
  refine ⟨_, rfl, L, rfl, ⟨_, aU.of eL⟩, fun D5 hD5 => ?_⟩
  refine cU (k := 0) (fun x => x) (fun _ => false) (src_list (aU.of eL)) sz3 hD5 (fun v hv H' Qb sm' kk => ?_) (fun x hx h => nomatch h) fun H6 s6 hD6 => ?_
  ·refine ⟨_, rfl, v, _, 1, rfl, .inr ⟨rfl, .inl ⟨(bads v hv).mono sm', fun u H7 s7 fu eu => ⟨sz1, fun w1 hw1 => ?_⟩⟩⟩⟩
   have zw := az (o := HO.tup [V.str "picture"]) hw1
   exact ⟨0, u, w1, true, by decide, rfl, rfl, iH (zw _ _ eu) ak (fun y hy => (by rw [List.mem_singleton.mp hy]; exact .inr rfl)), _, rfl, kk _ (s7.trans zw)⟩
  have eD6 : H6 D5 = some (.lst []) := by rw [hD6]; simp
  refine ⟨sz0, fun en hen => ?_⟩
  have ze := az (o := HO.lst []) hen
  exact ⟨0, D5, en, true, by decide, rfl, rfl, EqL.nil (aU.of (ze _ _ eD6)) (aU.of ak), k _ (sm.trans (s6.trans ze))⟩
end
theorem Paired.getMap {α β : Type} {F G : α → β → Prop} : ∀ {l1 : List α} {l2 : List β}, Paired F l1 l2 → (∀ (j : Nat) a b, l1[j]? = some a → F a b → G a b) → Paired G l1 l2
 | [], [], .nil, _ => .nil
 | a :: l1, b :: l2, .cons h t, k => .cons (k 0 a b rfl h) (Paired.getMap t fun j x y hx hf => k (j + 1) x y hx hf)
theorem Paired.setL {α β : Type} {F G : α → β → Prop} {r : β} : ∀ {l1 : List α} {l2 : List β} (i : Nat), Paired F l1 l2 → (∀ (j : Nat) a b, l1[j]? = some a → j ≠ i → F a b → G a b) → (∀ a, l1[i]? = some a → G a r) → Paired G l1 (l2.set i r)
 | [], [], i, .nil, _, _ => .nil
 | a :: l1, b :: l2, 0, .cons h t, h1, h2 => .cons (h2 a rfl) (Paired.getMap t fun j x y hx hf => h1 (j + 1) x y hx (by omega) hf)
 | a :: l1, b :: l2, i + 1, .cons h t, h1, h2 => .cons (h1 0 a b rfl (by omega) h) (Paired.setL i t (fun j x y hx hj hf => h1 (j + 1) x y hx (by omega) hf) fun x hx => h2 x hx)
theorem nodup_at {ps : List Addr} (nd : ps.Nodup) {i j : Nat} {p : Addr} (h1 : ps[i]? = some p) (h2 : ps[j]? = some p) : i = j := by
 have l1 := (List.getElem?_eq_some_iff.mp h1)
 have l2 := (List.getElem?_eq_some_iff.mp h2)
 obtain ⟨a1, b1⟩ := l1
 obtain ⟨a2, b2⟩ := l2
 exact (List.getElem_inj nd).mp (b1.trans b2.symm)
theorem bx.setRow {H : Hp} {a q : Addr} {ps : List Addr} {R : List (List V)} {i : Nat} {r : List V} (p : bx H a ps R) (hq : ps[i]? = some q) : bx (upd H q (.lst r)) a ps (R.set i r) := by
 have hm := List.mem_of_getElem? hq
 refine ⟨?_, Paired.setL i p.row (fun j c b hj hne e => ?_) (fun c hc => ?_), p.nd, p.out⟩
 ·rw [aJ (fun z => p.out (by rw [z]; exact hm))]; exact p.top
 ·rw [aJ (fun z => hne (nodup_at p.nd hj (by rw [z]; exact hq)))]; exact e
 ·rw [hq] at hc; cases hc
  exact ak
noncomputable def iv : V → Int
 | .int i => i
 | _ => 0
theorem iv_map (ns : List Int) : (ns.map V.int).map iv = ns := by rw [List.map_map]; exact List.map_id' ns
theorem max_max {rows : List (List Int)} {wd : Nat} (g : Good rows wd) : eO (rows.map eO) = eO rows.flatten := by
 have n1 : rows.map eO ≠ [] := fun z => by have h := congrArg List.length z; rw [List.length_map] at h; have := g.ne; rw [h] at this; exact absurd this (by decide)
 have rne : ∀ r ∈ rows, r ≠ [] := fun r hr z => by have h := (g.row r hr).1; rw [z] at h; have := g.w1; rw [← h] at this; exact absurd this (by decide)
 refine Int.le_antisymm ?_ ?_
 ·obtain ⟨r, hr, e⟩ := List.mem_map.mp (maxI_mem n1)
  rw [← e]
  exact le_maxI g.fne _ (List.mem_flatten.mpr ⟨r, hr, maxI_mem (rne r hr)⟩)
 ·obtain ⟨r, hr, hc⟩ := List.mem_flatten.mp (maxI_mem g.fne)
  exact Int.le_trans (le_maxI (rne r hr) _ hc) (le_maxI n1 _ (List.mem_map.mpr ⟨r, hr, rfl⟩))
theorem key_row1 {H : Hp} (g : List Int → V) : ∀ (qs : List Addr) (R : List (List Int)), Paired (fun p r => H p = some (.lst r)) qs (ir R) → (qs.map V.ref).map (fun x => g (((rowOf H x).getD []).map iv)) = R.map g := by
 intro qs
 induction qs with
 | nil => intro R h; cases R with
  | nil => rfl
  | cons r R => cases h
 | cons q qs ih =>
  intro R h
  cases R with
  | nil => cases h
  | cons r R =>
   cases h with
   | cons e1 h2 =>
    rw [List.map_cons, List.map_cons, ih R h2, aH e1]
    show g ((r.map V.int).map iv) :: _ = g r :: _
    rw [iv_map]
theorem nd_le {α : Type} [DecidableEq α] : ∀ (l S : List α), l.Nodup → (∀ x ∈ l, x ∈ S) → l.length ≤ S.length
 | [], S, _, _ => Nat.zero_le _
 | x :: l, S, nd, h => by
  rw [List.nodup_cons] at nd
  have hx := h x List.mem_cons_self
  have := nd_le l (S.erase x) nd.2 fun y hy => (List.mem_erase_of_ne (fun z => nd.1 (by rw [← z]; exact hy))).mpr (h y (List.mem_cons_of_mem _ hy))
  rw [List.length_erase_of_mem hx] at this
  have h0 : 0 < S.length := List.length_pos_of_mem hx
  rw [List.length_cons]; omega
theorem pour_nd (c : List (C4)) (ds : List (C4)) (h : (c.map (·.2)).Nodup) : ((aG c ds).map (·.2)).Nodup := by
 induction ds generalizing c with
 | nil => exact h
 | cons d ds ih =>
  refine ih (fG c d) ?_
  unfold fG
  split
  ·exact h
  ·rename_i hn
   have hn : c.findIdx? (isC d.2.1 d.2.2.1 d.2.2.2) = none := by
    cases e : c.findIdx? (isC d.2.1 d.2.2.1 d.2.2.2) with
    | none => rfl
    | some j => rw [e] at hn; exact absurd rfl hn
   rw [List.findIdx?_eq_none_iff] at hn
   rw [List.map_append, List.nodup_append]
   refine ⟨h, by simp, fun a ha b hb => ?_⟩
   obtain ⟨x, hx, rfl⟩ := List.mem_map.mp ha
   rw [List.map_cons, List.map_nil, List.mem_singleton] at hb
   subst hb
   intro z
   exact of_decide_eq_false (hn x hx) z
theorem pour_le {fl cs : List (C4)} (h : ∀ d ∈ fl, d.2 ∈ cs.map (·.2)) : (aG [] fl).length ≤ cs.length := by
 have := nd_le ((aG [] fl).map (·.2)) (cs.map (·.2)) (pour_nd [] fl (by simp)) fun x hx => by
  obtain ⟨y, hy, rfl⟩ := List.mem_map.mp hx
  rcases pour_mem fl [] y hy with q | q
  ·cases q
  ·exact h y q
 rw [List.length_map, List.length_map] at this
 exact this
theorem Paired.rev {α β : Type} {F : α → β → Prop} : ∀ {l1 : List α} {l2 : List β}, Paired F l1 l2 → Paired F l1.reverse l2.reverse
 | [], [], .nil => .nil
 | a :: l1, b :: l2, .cons h t => by
  rw [List.reverse_cons, List.reverse_cons]
  exact Paired.app (Paired.rev t) (.cons h .nil)
theorem eG.rev {H : Hp} {a : Addr} {ps : List Addr} {rws : List (List (C4))} (p : eG H a ps rws) : eG (upd H a (.lst (ps.map V.ref).reverse)) a ps.reverse rws.reverse := by
 have f : Fr0 a H (upd H a (.lst (ps.map V.ref).reverse)) := fun b o hb hne => by rw [aJ hne]; exact hb
 refine ⟨⟨by rw [ak, List.map_reverse], ?_, List.pairwise_reverse.mpr (List.Pairwise.imp (fun h z => h z.symm) p.pic.nd), fun z => p.pic.out (List.mem_reverse.mp z)⟩, fun r hr d hd => f.col p.pic.top (p.col r (List.mem_reverse.mp hr) d hd)⟩
 have := Paired.rev (Paired.mapI p.pic.row fun q r hq e => f _ _ e (fun z => p.pic.out (by rw [← z]; exact hq)))
 unfold cr at this ⊢
 rw [List.map_reverse (l := rws)]
 exact this
theorem eG.rev0 {H : Hp} {a q : Addr} {ps : List Addr} {rws : List (List (C4))} {r : List (C4)} (p : eG H a ps rws) (hq : ps[0]? = some q) (hr : rws[0]? = some r) (e : H q = some (.lst (r.map (fun c : C4 => V.ref c.1)))) : eG (upd H q (.lst (r.map (fun c : C4 => V.ref c.1)).reverse)) a ps (rws.set 0 r.reverse) := by
 have f : Fr0 q H (upd H q (.lst (r.map (fun c : C4 => V.ref c.1)).reverse)) := fun b o hb hne => by rw [aJ hne]; exact hb
 refine ⟨?_, fun r' hr' d hd => f.col e ?_⟩
 ·have := bx.setRow (r := (r.map (fun c : C4 => V.ref c.1)).reverse) p.pic hq
  have ee : (cr rws).set 0 (r.map (fun c : C4 => V.ref c.1)).reverse = cr (rws.set 0 r.reverse) := by unfold cr; rw [List.map_set, List.map_reverse]
  rw [ee] at this; exact this
 ·rcases List.mem_or_eq_of_mem_set hr' with hr' | rfl
  ·exact p.col r' hr' d hd
  ·exact p.col r (List.mem_of_getElem? hr) d (List.mem_reverse.mp hd)
theorem nodup_pos {α : Type} {l : List α} (nd : l.Nodup) {i j : Nat} {p : α} (h1 : l[i]? = some p) (h2 : l[j]? = some p) : i = j := by
 obtain ⟨a1, b1⟩ := List.getElem?_eq_some_iff.mp h1
 obtain ⟨a2, b2⟩ := List.getElem?_eq_some_iff.mp h2
 exact (List.getElem_inj nd).mp (b1.trans b2.symm)
theorem take_new {cs : List (C4)} {j : Nat} {d : C4} (nd : (cs.map kc).Nodup) (h : cs[j]? = some d) : (cs.take j).findIdx? (isC d.2.1 d.2.2.1 d.2.2.2) = none := by
 rw [List.findIdx?_eq_none_iff]
 intro x hx
 unfold isC
 refine decide_eq_false fun z => ?_
 obtain ⟨i, hi⟩ := List.getElem?_of_mem hx
 have hij : i < j := by
  have := (List.getElem?_eq_some_iff.mp hi).1
  rw [List.length_take] at this; omega
 rw [List.getElem?_take_of_lt hij] at hi
 have e : kc x = kc d := by unfold kc; rw [z]
 have := nodup_pos nd (i := i) (j := j) (p := kc d) (by rw [List.getElem?_map, hi]; show some (kc x) = _; rw [e]) (by rw [List.getElem?_map, h]; rfl)
 omega
theorem odd_no {K : W.Frag} {H : Hp} {p : Addr} {v : V} (ep : H p = some (.lst [.int 0])) (hm : v ∈ [V.int 16, .int (-1), .bl true, .non, .str "0", .ref p, .int (10 ^ 20)]) : Kd K H v ∧ bU 0 15 v = false := by
 simp only [List.mem_cons, List.not_mem_nil, or_false] at hm
 rcases hm with rfl | rfl | rfl | rfl | rfl | rfl | rfl
 ·exact ⟨.int _, by decide⟩
 ·exact ⟨.int _, by decide⟩
 ·exact ⟨.bl _, rfl⟩
 ·exact ⟨.non, rfl⟩
 ·exact ⟨.str _, rfl⟩
 ·exact ⟨.lst ep, rfl⟩
 ·exact ⟨.int _, by decide⟩
theorem goodV_ir {rows : List (List Int)} {wd : Nat} (g : Good rows wd) : GoodV (ir rows) wd := by
 refine ⟨by rw [gP]; exact g.ne, by rw [gP]; exact g.le, g.w1, g.w24, fun r hr => ?_⟩
 obtain ⟨r0, h0, rfl⟩ := List.mem_map.mp hr
 rw [List.length_map]; exact (g.row r0 h0).1
theorem ir_int {rows : List (List Int)} : ∀ r ∈ ir rows, ∀ y ∈ r, ∃ i, y = V.int i := fun r hr y hy => by
 obtain ⟨r0, h0, rfl⟩ := List.mem_map.mp hr
 obtain ⟨i, _, rfl⟩ := List.mem_map.mp hy
 exact ⟨i, rfl⟩
noncomputable def csR (cs : List (C4)) (rows : List (List Int)) : List (List (C4)) := rows.map fun r => r.map fun c => cs.getD c.toNat (0, 0, 0, 0)
theorem cr_csR (cs : List (C4)) (rows : List (List Int)) : cr (csR cs rows) = shR cs rows := by
 unfold cr csR shR
 rw [List.map_map]
 exact List.map_congr_left fun r _ => List.map_map ..
theorem csR_mem {cs : List (C4)} {rows : List (List Int)} {wd : Nat} (g : Good rows wd) (lt : ∀ r ∈ rows, ∀ x ∈ r, x < (cs.length : Int)) : ∀ r ∈ csR cs rows, ∀ d ∈ r, d ∈ cs := fun r hr d hd => by
 obtain ⟨r0, h0, rfl⟩ := List.mem_map.mp hr
 obtain ⟨c, hc, rfl⟩ := List.mem_map.mp hd
 have c0 := ((g.row r0 h0).2 c hc).1
 have cl : c.toNat < cs.length := by have := lt r0 h0 c hc; omega
 rw [List.getD_eq_getElem?_getD, List.getElem?_eq_getElem cl]
 exact List.getElem_mem cl
theorem csR_good {cs : List (C4)} {rows : List (List Int)} {wd : Nat} (g : Good rows wd) : GoodC (csR cs rows) wd := by
 refine ⟨by unfold csR; rw [List.length_map]; exact g.ne, by unfold csR; rw [List.length_map]; exact g.le, g.w1, g.w24, fun r hr => ?_⟩
 obtain ⟨r0, h0, rfl⟩ := List.mem_map.mp hr
 rw [List.length_map]; exact (g.row r0 h0).1
theorem goodV_cr {rws : List (List (C4))} {wd : Nat} (g : GoodC rws wd) : GoodV (cr rws) wd := by
 refine ⟨by rw [cr_len]; exact g.ne, by rw [cr_len]; exact g.le, g.w1, g.w24, fun r hr => ?_⟩
 obtain ⟨r0, h0, rfl⟩ := List.mem_map.mp hr
 rw [List.length_map]; exact g.row r0 h0
theorem eG.items {K : W.Frag} {H : Hp} {a : Addr} {ps : List Addr} {rws : List (List (C4))} (p : eG H a ps rws) : (∀ r ∈ cr rws, ∀ y ∈ r, (colI K).tk H y) ∧ ∀ r ∈ cr rws, ∀ y ∈ r, rowOf H y = none := by
 refine ⟨fun r hr y hy => ?_, fun r hr y hy => ?_⟩
 ·obtain ⟨r0, h0, rfl⟩ := List.mem_map.mp hr
  obtain ⟨d, hd, rfl⟩ := List.mem_map.mp hy
  exact (p.col r0 h0 d hd).tc
 ·obtain ⟨r0, h0, rfl⟩ := List.mem_map.mp hr
  obtain ⟨d, hd, rfl⟩ := List.mem_map.mp hy
  exact rowOf_tup (p.col r0 h0 d hd).top
noncomputable def spLaw (K : W.Frag) : Sp := fun vs H Q _ => ∃ (a : Addr) (ns : List Int), vs = [.ref a] ∧ aU K H a (ns.map V.int) ∧ ∀ H', Q (.bl true) H'
section
variable {P : Program} {w : World} {K : W.Frag} {mg : Str → Option Value} {base : Heap} {cFE cC cN cM cP cL cB cD cZ : Addr} {tP tS tC tI : Tok}
noncomputable abbrev nmlaw : List Str := ["_law_script", "_law_number", "_law_pool_here", "_law_many", "_law_picture_here", "_law_colours", "_law_odd_here", "_law_bad", "_law_most", "_law_few", "_law_colour_here", "_law_handed", "_law_rows", "_law_last"]
theorem fX : aO ["_law_script", "_law_number", "_law_pool_here", "_law_many", "_law_picture_here", "_law_colours", "_law_odd_here", "_law_bad", "_law_most", "_law_few", "_law_colour_here", "_law_handed", "_law_rows", "_law_last"] ["_law_script"] (ao gK) := ⟨rfl, rfl, rfl, by decide +kernel, rfl, by decide +kernel, by decide +kernel⟩
theorem ok_law {f : Addr} {fd : FuncData} (F : bI K "law" "law" gK .none f fd) (T : Txt K mg cFE cC cN cM cP cL cB cD cZ tP tS tC tI) (g__law_draw : iR P w K mg base 1 "_law_draw" ["_law_script", "_law_k"] [] (spDraw K)) (g__law_pool : iR P w K mg base 2 "_law_pool" ["_law_script", "_law_first", "_law_near"] [] (spPool K)) (g__law_picture : iR P w K mg base 2 "_law_picture" ["_law_script", "_law_first", "_law_many"] [] (spLPic K)) (g__law_odd : iR P w K mg base 1 "_law_odd" ["_law_number", "_law_colour_here"] [] (spOdd K)) (g__law_no_picture : iR P w K mg base 2 "_law_no_picture" ["_law_rows", "_law_odd_here", "_law_number"] [] (fun vs H Q E => spNoPicG (cellI K) vs H Q E ∨ spNoPicG (colI K) vs H Q E)) (g_Palette : MakX P w K mg base cL 5 "Palette" ["self", "colours"] (spInit K cP cL)) (g__law_shown_good : iR P w K mg base 13 "_law_shown_good" ["_law_picture_here", "_law_colours", "_law_palette", "_law_odd_here"] [] (spSG K cL)) (g__law_refused : iR P w K mg base 12 "_law_refused" ["_law_way", "_law_one", "_law_palette"] [] (spRefd K cL)) (g__law_copied : iR P w K mg base 1 "_law_copied" ["_law_rows"] [] (spCop)) (g_m_many : MetD P w K mg base cL 1 "many" ["self"] (spMany cL)) (g_m_add_colour : MetX P w K mg base cL 6 "add_colour" ["self", "colour"] (spAdd K cC cM cL)) (g__law_taken_good : iR P w K mg base 12 "_law_taken_good" ["_law_handed"] [] (spTG)) (g__law_many_rows : iR P w K mg base 1 "_law_many_rows" ["_law_number"] [] (spMR)) (g__law_sizes_refused : iR P w K mg base 13 "_law_sizes_refused" ["_law_rows"] [] (spSR K)) : bB P w K mg base gh 14 f fd ["_law_script"] (spLaw K) := by
 refine F.ok fX (fun vs H Q E h => ?_) (fun cdv A outer s H vs Q E hr h => ?_)
 ·obtain ⟨a, ns, rfl, _⟩ := h; rfl
 ·obtain ⟨a, ns, rfl, hS, k⟩ := h
  have hu : _ + 64 < cLine := hr.units
  obtain ⟨t19, r19, k19⟩ : ∃ tr, PSs ((gY gh P w K mg base nmlaw "law" (ao gK) f cdv A outer s H E).nox) ((aF gK).drop 19) tr ∧
    ∀ (v1 v2 v3 v4 v5 v6 v7 v8 v9 v10 v12 v13 : Option V) (hd : Addr) (hs : List Addr) (rws : List (List (C4))) (cs : List (C4)) (wd : Nat) (H1 : Hp), eG H1 hd hs rws → GoodC rws wd → (∀ r ∈ rws, ∀ d ∈ r, d.2 ∈ cs.map (·.2)) → cs.length ≤ 16 → tr { nx := fun _ H' => Q .non H', rt := Q } [some (.ref a), v1, v2, v3, v4, v5, v6, v7, v8, v9, v10, some (.ref hd), v12, v13] H1 := by
   refine ⟨_, (au (cz (pe_bm0 PySem.F.plainAttrs_list PySem.F.slot_list_reverse PySem.F.type_list_reverse mt_reverse (pv 11)))
    (au (cz (pe_bm0 PySem.F.plainAttrs_list PySem.F.slot_list_reverse PySem.F.type_list_reverse mt_reverse (bM (ixK K rfl) (pv 11) aq (fun _ _ => rfl))))
    (aA (aM (aD g__law_taken_good (hr.mono (by decide)) rfl (aa (pv 11) aj)))))), ?_⟩
   intro v1 v2 v3 v4 v5 v6 v7 v8 v9 v10 v12 v13 hd hs rws cs wd H1 cp gd hin h16
   refine ⟨_, rfl, .inl ⟨rfl, _, aU.of cp.pic.top⟩, hd, _, rfl, rfl, cp.pic.top, ?_⟩
   have cp2 := cp.rev
   have lps := cp.len
   have gne := gd.ne
   show tSeq _ _ _ _ (upd H1 hd (.lst (hs.map V.ref).reverse))
   generalize upd H1 hd (.lst (hs.map V.ref).reverse) = H2 at cp2 ⊢
   obtain ⟨q0, hq0⟩ : ∃ q, hs.reverse[0]? = some q := ⟨_, List.getElem?_eq_getElem (by rw [List.length_reverse]; omega)⟩
   obtain ⟨r0, hr0, e0⟩ := cp2.row hq0
   have at0 : (hs.reverse.map V.ref)[0]? = some (.ref q0) := by rw [List.getElem?_map, hq0]; rfl
   have m0 := List.mem_reverse.mp (List.mem_of_getElem? hr0)
   refine ⟨_, rfl, hd, _, _, _, rfl, rfl, aU.of cp2.pic.top, aW (j := 0) at0, .inl ⟨rfl, _, aU.of e0⟩, q0, _, rfl, rfl, e0, ?_⟩
   have cp3 := cp2.rev0 hq0 hr0 e0
   have mem3 : ∀ r ∈ rws.reverse.set 0 r0.reverse, r ∈ rws ∨ r = r0.reverse := fun r hr => by
    rcases List.mem_or_eq_of_mem_set hr with hr | hr
    ·exact .inl (List.mem_reverse.mp hr)
    ·exact .inr hr
   refine ⟨_, rfl, hd, hs.reverse, rws.reverse.set 0 r0.reverse, wd, rfl, cp3, ⟨by rw [List.length_set, List.length_reverse]; exact gd.ne, by rw [List.length_set, List.length_reverse]; exact gd.le, gd.w1, gd.w24, fun r hr => ?_⟩, Nat.le_trans (pour_le fun d hd' => ?_) h16, fun H' _ => k _⟩
   ·rcases mem3 r hr with h | rfl
    ·exact gd.row r h
    ·rw [List.length_reverse]; exact gd.row r0 m0
   ·obtain ⟨r, hr, hdr⟩ := List.mem_flatten.mp hd'
    rcases mem3 r hr with h | rfl
    ·exact hin r h d hdr
    ·exact hin r0 m0 d (List.mem_reverse.mp hdr)
  obtain ⟨t13, r13, k13⟩ : ∃ tr, PSs ((gY gh P w K mg base nmlaw "law" (ao gK) f cdv A outer s H E).nox) ((aF gK).drop 13) tr ∧
    ∀ (v2 v3 v4 v5 v7 v8 v9 v10 : Option V) (v : V) (n : Nat) (hd : Addr) (hs : List Addr) (rws : List (List (C4))) (cs : List (C4)) (wd : Nat) (H1 : Hp), eG H1 hd hs rws → GoodC rws wd → (∀ r ∈ rws, ∀ d ∈ r, d.2 ∈ cs.map (·.2)) → cs.length ≤ 16 → TC K H1 v → dX H1 v = false → tr { nx := fun _ H' => Q .non H', rt := Q } [some (.ref a), some (.int (n : Int)), v2, v3, v4, v5, some v, v7, v8, v9, v10, some (.ref hd), none, none] H1 := by
   refine ⟨_, (au (aQ (i := 12) fX.nd rfl (by first | exact Or.inl rfl | exact Or.inr rfl) (aD g__law_many_rows (hr.mono (by decide)) rfl (aa (aC bz (pv 1) aq) aj)))
    (au (aQ (i := 13) fX.nd rfl (by first | exact Or.inl rfl | exact Or.inr rfl) (cQ (listK K rfl) rfl T.list PyProof.Rows.boot_list (aa (bM (ixK K rfl) (pv 12) aq (fun _ _ => rfl)) aj)))
    (au (ps_asg (pv 6) (pg_sub (pv 13) (aC bf (aC bz (pv 1) aq) (aN (lenK K rfl) rfl T.len PySem.boot_len (aa (pv 13) aj))) set_list))
    (au (bK (bj (neDK K rfl hu) (aD g__law_refused (hr.mono (by decide)) rfl (aa aq (aa (pv 12) (aa iT aj)))) (bD (aa bJ aj)) (bA _)) (aA (aM fj)) aV)
    (au (bK (PW.pt (iw (bj (neDK K rfl hu) (aD g__law_refused (hr.mono (by decide)) rfl (aa aq (aa (aC gm (pv 12) (aZ (aa (pv 13) aj))) (aa iT aj)))) (bD (aa bJ aj)) (bA _)) (gQ (bj (neDK K rfl hu) (aD g__law_refused (hr.mono (by decide)) rfl (aa aq (aa (aC gm (pv 12) (aZ (aa (aC op_rep (pv 13) aq) aj))) (aa iT aj)))) (bD (aa bJ aj)) (bA _))))) (aA (aM fj)) aV)
    (au (bK (bW (bH (aD g__law_sizes_refused (hr.mono (by decide)) rfl (aa (pv 12) aj)))) (aA (aM fj)) aV)
    (@r19))))))), ?_⟩
   intro v2 v3 v4 v5 v7 v8 v9 v10 v n hd hs rws cs wd H1 cp gd hin h16 tv cb
   have sm := aB.refl H1
   have tv0 := tv
   refine ⟨_, rfl, _, _, rfl, rfl, ⟨by decide, by decide⟩, n / 128, ?_, fun q qs rw2 w2 H2 s2 fq fqs cq gq hm hone => ?_⟩
   ·show [V.int ((n : Int) / 128)] = _
    rw [show (n : Int) / 128 = ((n / 128 : Nat) : Int) by omega]
   have sm := sm.trans s2
   have cp := cp.mono s2
   clear s2
   have lq := cq.len
   have qne := gq.ne
   have qle := gq.le
   have qw1 := gq.w1
   have qw24 := gq.w24
   obtain ⟨q0, hq0⟩ : ∃ x, qs[0]? = some x := ⟨_, List.getElem?_eq_getElem (by omega)⟩
   obtain ⟨r0, hr0, e0⟩ := cq.row hq0
   have m0 := List.mem_of_getElem? hr0
   have lr0 := gq.row r0 m0
   have at0 : (qs.map V.ref)[0]? = some (.ref q0) := by rw [List.getElem?_map, hq0]; rfl
   refine ⟨_, rfl, q, _, _, _, rfl, rfl, aU.of cq.pic.top, aW (j := 0) at0, q0, _, rfl, .inl (aU.of e0), fun ls h_ => ?_⟩
   have nls := not_pic cp.pic h_
   have nlq := not_pic cq.pic h_
   obtain ⟨z_, els⟩ := bY (HO.lst (r0.map (fun c : C4 => V.ref c.1))) h_
   generalize upd H2 ls (HO.lst (r0.map (fun c : C4 => V.ref c.1))) = G1 at z_ els ⊢
   have fls := sm.free h_
   have sm := sm.trans z_
   have cp := cp.mono z_
   have cq := cq.mono z_
   clear z_ h_
   obtain ⟨m, em, hm2⟩ : ∃ m : Nat, (n : Int) / 4096 % (((r0.map (fun c : C4 => V.ref c.1)).length : Nat) : Int) = (m : Int) ∧ m < r0.length := by
    rw [List.length_map, show (n : Int) / 4096 = ((n / 4096 : Nat) : Int) by omega]
    exact ⟨n / 4096 % r0.length, by push_cast; rfl, Nat.mod_lt _ (by omega)⟩
   refine ⟨_, rfl, _, rfl, _, rfl, _, _, rfl, rfl, ⟨by decide, by decide⟩, _, rfl, ls, _, rfl, .inl (aU.of els), _, _, rfl, rfl, (by show (0 : Int) < (((r0.map (fun c : C4 => V.ref c.1)).length : Nat) : Int); rw [List.length_map]; omega), ls, _, _, m, rfl, rfl, els, ?_, ?_⟩
   ·show ixN (r0.map (fun c : C4 => V.ref c.1)).length ((n : Int) / 4096 % (((r0.map (fun c : C4 => V.ref c.1)).length : Nat) : Int)) = some m
    rw [em]; exact ixN_at (by rw [List.length_map]; exact hm2)
   dsimp only
   have f3 : Fr0 ls G1 (upd G1 ls (.lst ((r0.map (fun c : C4 => V.ref c.1)).set m v))) := fun b o hb hne => by rw [aJ hne]; exact hb
   have sm : aB H1 (upd G1 ls (.lst ((r0.map (fun c : C4 => V.ref c.1)).set m v))) := aY sm fls
   have cp := cp.fr0 f3 els nls
   have cq := cq.fr0 f3 els nlq
   have els : upd G1 ls (.lst ((r0.map (fun c : C4 => V.ref c.1)).set m v)) ls = some (.lst ((r0.map (fun c : C4 => V.ref c.1)).set m v)) := ak
   clear f3 tv
   show tSeq _ _ _ _ (upd G1 ls (.lst ((r0.map (fun c : C4 => V.ref c.1)).set m v)))
   generalize upd G1 ls (.lst ((r0.map (fun c : C4 => V.ref c.1)).set m v)) = H3 at sm cp cq els ⊢
   have lset : ((r0.map (fun c : C4 => V.ref c.1)).set m v).length = w2 := by rw [List.length_set, List.length_map, lr0]
   have mv : v ∈ (r0.map (fun c : C4 => V.ref c.1)).set m v := List.mem_set (by rw [List.length_map]; exact hm2) _
   refine ⟨_, rfl, _, _, 1, rfl, .inr ⟨rfl, .inr ⟨q, qs, rw2, w2, rfl, cq, gq, hm, fun u1 H4 s4 fu1 eu1 => ?_⟩⟩⟩
   have sm := sm.trans s4
   have cp := cp.mono s4
   have cq := cq.mono s4
   have els := s4 _ _ els
   clear s4
   refine ⟨sz1, fun y1 h_ => ?_⟩
   obtain ⟨z_, ey1⟩ := bY (HO.tup [V.str "many"]) h_
   generalize upd H4 y1 (HO.tup [V.str "many"]) = G2 at z_ ey1 ⊢
   have fy1 := sm.free h_
   have sm := sm.trans z_
   have cp := cp.mono z_
   have cq := cq.mono z_
   have els := z_ _ _ els
   have eu1 := z_ _ _ eu1
   clear z_ h_
   refine ⟨0, u1, y1, true, by decide, rfl, rfl, iH eu1 ey1 (fun y hy => (by rw [List.mem_singleton.mp hy]; exact .inr rfl)), _, rfl, ?_⟩
   refine ⟨_, rfl, _, rfl, sz1, fun l1 h_ => ?_⟩
   obtain ⟨z_, el1⟩ := bY (HO.lst [V.ref ls]) h_
   generalize upd G2 l1 (HO.lst [V.ref ls]) = G3 at z_ el1 ⊢
   have fl1 := sm.free h_
   have sm := sm.trans z_
   have cp := cp.mono z_
   have cq := cq.mono z_
   have els := z_ _ _ els
   clear z_ h_
   refine ⟨q, l1, _, _, rfl, rfl, cq.pic.top, el1, Nat.le_trans (by rw [List.length_map]; show _ + 1 ≤ 5000; omega) (by decide), fun x1 h_ => ?_⟩
   obtain ⟨z_, ex1⟩ := bY (HO.lst (qs.map V.ref ++ [V.ref ls])) h_
   generalize upd G3 x1 (HO.lst (qs.map V.ref ++ [V.ref ls])) = G4 at z_ ex1 ⊢
   have fx1 := sm.free h_
   have sm := sm.trans z_
   have cp := cp.mono z_
   have cq := cq.mono z_
   have els := z_ _ _ els
   clear z_ h_
   have rls : RwG (colI K) G4 (.ref ls) := RwG.lst els (by rw [lset]; omega) (fun y hy => by
    rcases List.mem_or_eq_of_mem_set hy with hy | rfl
    ·obtain ⟨d, hd, rfl⟩ := List.mem_map.mp hy
     exact (cq.col r0 m0 d hd).tc
    ·exact tv0.mono sm)
   have bls := (cF tv0 sm).trans cb
   have bad1 : gR (colI K) G4 (.ref x1) := gF ex1 (by rw [List.length_append, List.length_map]; show _ + 1 ≤ _; omega) (fun x hx => by
    rcases List.mem_append.mp hx with hx | hx
    ·exact (cq.rwc gq x hx).1
    ·rw [List.mem_singleton.mp hx]; exact rls) ⟨.ref ls, List.mem_append_right _ List.mem_cons_self, gnot_row els mv bls⟩
   clear rls bls
   refine ⟨_, _, 1, rfl, .inr ⟨rfl, .inl ⟨bad1.col, fun u2 H5 s5 fu2 eu2 => ?_⟩⟩⟩
   clear bad1
   have sm := sm.trans s5
   have cp := cp.mono s5
   have cq := cq.mono s5
   have els := s5 _ _ els
   clear s5
   refine ⟨sz1, fun y2 h_ => ?_⟩
   obtain ⟨z_, ey2⟩ := bY (HO.tup [V.str "picture"]) h_
   generalize upd H5 y2 (HO.tup [V.str "picture"]) = G5 at z_ ey2 ⊢
   have fy2 := sm.free h_
   have sm := sm.trans z_
   have cp := cp.mono z_
   have cq := cq.mono z_
   have els := z_ _ _ els
   have eu2 := z_ _ _ eu2
   clear z_ h_
   refine ⟨0, u2, y2, true, by decide, rfl, rfl, iH eu2 ey2 (fun y hy => (by rw [List.mem_singleton.mp hy]; exact .inr rfl)), _, rfl, ?_⟩
   refine ⟨_, rfl, _, rfl, ls, 2, _, rfl, rfl, els, by decide, by decide, Nat.le_trans (by rw [lset]; show w2 * 2 ≤ 5000; omega) (by decide), fun d2 h_ => ?_⟩
   obtain ⟨z_, ed2⟩ := bY (HO.lst (List.replicate (2 : Int).toNat ((r0.map (fun c : C4 => V.ref c.1)).set m v)).flatten) h_
   generalize upd G5 d2 (HO.lst (List.replicate (2 : Int).toNat ((r0.map (fun c : C4 => V.ref c.1)).set m v)).flatten) = G6 at z_ ed2 ⊢
   have fd2 := sm.free h_
   have sm := sm.trans z_
   have cp := cp.mono z_
   have cq := cq.mono z_
   clear z_ h_
   refine ⟨sz1, fun l2 h_ => ?_⟩
   obtain ⟨z_, el2⟩ := bY (HO.lst [V.ref d2]) h_
   generalize upd G6 l2 (HO.lst [V.ref d2]) = G7 at z_ el2 ⊢
   have fl2 := sm.free h_
   have sm := sm.trans z_
   have cp := cp.mono z_
   have cq := cq.mono z_
   have ed2 := z_ _ _ ed2
   clear z_ h_
   refine ⟨q, l2, _, _, rfl, rfl, cq.pic.top, el2, Nat.le_trans (by rw [List.length_map]; show _ + 1 ≤ 5000; omega) (by decide), fun x2 h_ => ?_⟩
   obtain ⟨z_, ex2⟩ := bY (HO.lst (qs.map V.ref ++ [V.ref d2])) h_
   generalize upd G7 x2 (HO.lst (qs.map V.ref ++ [V.ref d2])) = G8 at z_ ex2 ⊢
   have fx2 := sm.free h_
   have sm := sm.trans z_
   have cp := cp.mono z_
   have cq := cq.mono z_
   have ed2 := z_ _ _ ed2
   clear z_ h_
   have lrep : (List.replicate (2 : Int).toNat ((r0.map (fun c : C4 => V.ref c.1)).set m v)).flatten.length = 2 * w2 := by rw [show (List.replicate (2 : Int).toNat ((r0.map (fun c : C4 => V.ref c.1)).set m v)).flatten = List.flatten (List.replicate 2 ((r0.map (fun c : C4 => V.ref c.1)).set m v)) from rfl, len_rep', lset]
   have rls : RwG (colI K) G8 (.ref d2) := RwG.lst ed2 (by rw [lrep]; omega) (fun y hy => by
    obtain ⟨l, hl, hy⟩ := List.mem_flatten.mp hy
    rw [List.eq_of_mem_replicate hl] at hy
    rcases List.mem_or_eq_of_mem_set hy with hy | rfl
    ·obtain ⟨d, hd, rfl⟩ := List.mem_map.mp hy
     exact (cq.col r0 m0 d hd).tc
    ·exact tv0.mono sm)
   have bls := (cF tv0 sm).trans cb
   have mv2 : v ∈ (List.replicate (2 : Int).toNat ((r0.map (fun c : C4 => V.ref c.1)).set m v)).flatten := List.mem_flatten.mpr ⟨_, List.mem_replicate.mpr ⟨by decide, rfl⟩, mv⟩
   have bad2 : gR (colI K) G8 (.ref x2) := gF ex2 (by rw [List.length_append, List.length_map]; show _ + 1 ≤ _; omega) (fun x hx => by
    rcases List.mem_append.mp hx with hx | hx
    ·exact (cq.rwc gq x hx).1
    ·rw [List.mem_singleton.mp hx]; exact rls) ⟨.ref d2, List.mem_append_right _ List.mem_cons_self, gnot_row ed2 mv2 bls⟩
   clear rls bls
   refine ⟨_, _, 1, rfl, .inr ⟨rfl, .inl ⟨bad2.col, fun u3 H6 s6 fu3 eu3 => ?_⟩⟩⟩
   clear bad2
   have sm := sm.trans s6
   have cp := cp.mono s6
   have cq := cq.mono s6
   clear s6
   refine ⟨sz1, fun y3 h_ => ?_⟩
   obtain ⟨z_, ey3⟩ := bY (HO.tup [V.str "picture"]) h_
   generalize upd H6 y3 (HO.tup [V.str "picture"]) = G9 at z_ ey3 ⊢
   have fy3 := sm.free h_
   have cp := cp.mono z_
   have cq := cq.mono z_
   have eu3 := z_ _ _ eu3
   clear z_ h_
   refine ⟨0, u3, y3, true, by decide, rfl, rfl, iH eu3 ey3 (fun y hy => (by rw [List.mem_singleton.mp hy]; exact .inr rfl)), _, rfl, ?_⟩
   refine ⟨_, rfl, q, qs, rw2, w2, rfl, cq, gq, hone, fun H7 s7 => ⟨_, rfl, ?_⟩⟩
   have cp := cp.mono s7
   clear s7
   exact k19 _ _ _ _ _ _ _ _ _ _ _ _ hd hs rws cs wd _ cp gd hin h16
  obtain ⟨t10, r10, k10⟩ : ∃ tr, PSs ((gY gh P w K mg base nmlaw "law" (ao gK) f cdv A outer s H E).nox) ((aF gK).drop 10) tr ∧
    ∀ (v2 v3 v7 v8 v9 v10 : Option V) (v : V) (n : Nat) (A o : Addr) (ps : List Addr) (rows : List (List Int)) (cs : List (C4)) (wd : Nat) (H1 : Hp), bx H1 A ps (ir rows) → Good rows wd → bF H1 o cs → (∀ r ∈ rows, ∀ x ∈ r, x < (cs.length : Int)) → cs.length ≤ 16 → TC K H1 v → dX H1 v = false → tr { nx := fun _ H' => Q .non H', rt := Q } [some (.ref a), some (.int (n : Int)), v2, v3, some (.ref A), some (.ref o), some v, v7, v8, v9, v10, none, none, none] H1 := by
   refine ⟨_, (au (ps_setC (ix := 11) (N := ["_law_row", "_law_colours"]) (src := [none, some 5]) fX.nd rfl rfl rfl ⟨rfl, rfl, rfl, rfl, rfl, by decide +kernel⟩ (piK K rfl (pv 4)) (fun s H C fp => aP (i := 0) (show (["_law_row", "_law_colours"] : List Str).Nodup by decide +kernel) rfl (by first | exact Or.inl rfl | exact Or.inr rfl)) (fun s H C fp => bh) (fun s H C fp => (bG (N := ["_law_cell", "_law_colours"]) (src := [none, some 1]) rfl ⟨rfl, rfl, rfl, rfl, rfl, by decide +kernel⟩ (piK K rfl (pv 0)) (fun s H C fp => aP (i := 0) (show (["_law_cell", "_law_colours"] : List Str).Nodup by decide +kernel) rfl (by first | exact Or.inl rfl | exact Or.inr rfl)) (fun s H C fp => bh) (fun s H C fp => (bM (ixK K rfl) (pv 1) (pv 0) (fun _ _ => rfl))))))
    (au (bK (bW (bH (aD g__law_taken_good (hr.mono (by decide)) rfl (aa (pv 11) aj)))) (aA (aM fj)) aV)
    (au (bK (bj (neDK K rfl hu) (aD g__law_refused (hr.mono (by decide)) rfl (aa aq (aa (aD g__law_no_picture (hr.mono (by decide)) rfl (aa (pv 11) (aa (pv 6) (aa (aC bz (pv 1) aq) aj)))) (aa iT aj)))) (bD (aa bJ aj)) (bA _)) (aA (aM fj)) aV)
    (@r13)))), ?_⟩
   intro v2 v3 v7 v8 v9 v10 v n A o ps rows cs wd H1 pic gd co lt h16 tv cb
   have sm := aB.refl H1
   have tv0 := tv
   refine ⟨_, rfl, A, rfl, ⟨_, aU.of pic.top⟩, fun hd hD_ => ?_⟩
   refine ie (k := 0) (fun x => ((rowOf H1 x).getD []).map fun v => match v with | .int c => clr cs c | _ => .non) (src_list (aU.of pic.top)) (by rw [List.length_map, pic.len, gP]; exact Nat.le_trans gd.le (by decide)) hD_ (fun x hx H' Q' sm' kk => ?_) fun qshd Hhd shd fqhd pvhd => ?_
   case refine_1 =>
    obtain ⟨y, hy, rfl⟩ := List.mem_map.mp hx
    obtain ⟨rs, ey, hl', hcs, hmem⟩ := gd.mem2 pic hy
    rw [aH ey] at kk
    refine ⟨_, rfl, y, rfl, ⟨_, aU.of (sm' _ _ ey)⟩, fun D3 hD3 => ?_⟩
    refine cU (k := 0) (fun v => match v with | .int c => clr cs c | _ => .non) (fun _ => true) (src_list (aU.of (sm' _ _ ey))) (by rw [List.length_map, hl']; exact Nat.le_trans gd.w24 (by decide)) hD3 (fun x _ H' Qb _ kk => kk H' (aB.refl _)) (fun x hx _ H8 Q8 s8 kk8 => ?_) fun H8 s8 e8 => ?_
    ·obtain ⟨v, hv, rfl⟩ := List.mem_map.mp hx
     have v0 := (hcs v hv).1
     have vl : v.toNat < cs.length := by have := lt rs hmem v hv; omega
     have co8 := (co.mono sm').mono s8
     refine ⟨_, rfl, _, rfl, o, _, _, _, rfl, rfl, aU.of co8.1, ?_, kk8 H8 (aB.refl _)⟩
     have := aW (xs := cs.map (fun c : C4 => V.ref c.1)) (j := v.toNat) (v := clr cs v) (by unfold clr; rw [List.getElem?_map, List.getD_eq_getElem?_getD, List.getElem?_eq_getElem vl]; rfl)
     rw [Int.toNat_of_nonneg v0] at this
     exact this
    ·refine kk D3 H8 s8 hD3 ?_
     rw [e8, cR]; rfl
   have pvhd : bx Hhd hd qshd (shR cs rows) := Eq.mp (congrArg (bx Hhd hd qshd) (key_rows (H := H1) (clr cs) ps rows pic.row)) pvhd
   have sm := sm.trans shd
   have pic := pic.mono shd
   have co := co.mono shd
   have tv := tv.mono shd
   clear shd
   have cp : eG Hhd hd qshd (csR cs rows) := ⟨by rw [cr_csR]; exact pvhd, fun r hr d hdd => co.2 d (csR_mem gd lt r hr d hdd)⟩
   clear pvhd
   have gC := csR_good (cs := cs) gd
   have hin : ∀ r ∈ csR cs rows, ∀ d ∈ r, d.2 ∈ cs.map (·.2) := fun r hr d hdd => List.mem_map.mpr ⟨d, csR_mem gd lt r hr d hdd, rfl⟩
   have p16 : (aG [] (csR cs rows).flatten).length ≤ 16 := Nat.le_trans (pour_le fun d hdd => by obtain ⟨r, hr, hdr⟩ := List.mem_flatten.mp hdd; exact hin r hr d hdr) h16
   refine ⟨_, rfl, hd, qshd, csR cs rows, wd, rfl, cp, gC, p16, fun H3 s3 => ⟨_, rfl, ?_⟩⟩
   have sm := sm.trans s3
   have pic := pic.mono s3
   have tv := tv.mono s3
   have cp := cp.mono s3
   clear s3
   refine ⟨_, rfl, _, rfl, _, rfl, _, _, rfl, rfl, ⟨by decide, by decide⟩, .inr ⟨hd, qshd, cr (csR cs rows), wd, v, n / 64, ?_, cp.pic, goodV_cr gC, (cp.items (K := K)).1, (cp.items (K := K)).2, tv, (cF tv0 sm).trans cb, fun bv H4 s4 bad => ?_⟩⟩
   ·show [V.ref hd, v, V.int ((n : Int) / 64)] = _
    rw [show (n : Int) / 64 = ((n / 64 : Nat) : Int) by omega]
   have sm := sm.trans s4
   have tv := tv.mono s4
   have cp := cp.mono s4
   clear s4
   refine ⟨bv, _, 1, rfl, .inr ⟨rfl, .inl ⟨bad.col, fun u H5 s5 fu eu => ?_⟩⟩⟩
   clear bad
   have sm := sm.trans s5
   have tv := tv.mono s5
   have cp := cp.mono s5
   clear s5
   refine ⟨sz1, fun y1 h_ => ?_⟩
   obtain ⟨z_, ey1⟩ := bY (HO.tup [V.str "picture"]) h_
   generalize upd H5 y1 (HO.tup [V.str "picture"]) = G1 at z_ ey1 ⊢
   have fy1 := sm.free h_
   have sm := sm.trans z_
   have tv := tv.mono z_
   have cp := cp.mono z_
   have eu := z_ _ _ eu
   clear z_ h_
   refine ⟨0, u, y1, true, by decide, rfl, rfl, iH eu ey1 (fun y hy => (by rw [List.mem_singleton.mp hy]; exact .inr rfl)), _, rfl, ?_⟩
   exact k13 _ _ _ _ _ _ _ _ v n hd qshd _ cs wd _ cp gC hin h16 tv ((cF tv0 sm).trans cb)
  obtain ⟨t9, r9, k9⟩ : ∃ tr, PSs ((gY gh P w K mg base nmlaw "law" (ao gK) f cdv A outer s H E).nox) ((aF gK).drop 9) tr ∧
    ∀ (v2 v3 : Option V) (v bv : V) (n : Nat) (A o : Addr) (ps : List Addr) (rows : List (List Int)) (cs : List (C4)) (wd : Nat) (H1 : Hp), bx H1 A ps (ir rows) → Good rows wd → bF H1 o cs → (∀ r ∈ rows, ∀ x ∈ r, x < (cs.length : Int)) → cs.length ≤ 16 → (cs.map kc).Nodup → TC K H1 v → dX H1 v = false → BadQ K H1 bv → tr { nx := fun _ H' => Q .non H', rt := Q } [some (.ref a), some (.int (n : Int)), v2, v3, some (.ref A), some (.ref o), some v, some bv, some (.int (eO rows.flatten)), none, none, none, none, none] H1 := by
   refine ⟨_, (au (bK (bj op_gt (pv 8) aq (bA _)) (au (aQ (i := 9) fX.nd rfl (by first | exact Or.inl rfl | exact Or.inr rfl) (pe_makX g_Palette (hr.mono (by decide)) passF rfl (aa (dq (slK K rfl) (pv 5) dW (dR (aC cj aq (aC bf (aC bz (pv 1) aq) (pv 8))))) aj)))
    (au (bK (PW.pt (iw (bj (neDK K rfl hu) (aD g__law_refused (hr.mono (by decide)) rfl (aa aq (aa (aD g__law_copied (hr.mono (by decide)) rfl (aa (pv 4) aj)) (aa (pv 9) aj)))) (bD (aa bJ aj)) (bA _)) (gQ (bj (neDK K rfl hu) (aD g__law_refused (hr.mono (by decide)) rfl (aa aq (aa (pv 7) (aa (pv 9) aj)))) (bD (aa bJ aj)) (bA _))))) (aA (aM fj)) aV)
    (au (ps_for PassesOwn.never rfl (piK K rfl (dq (slK K rfl) (pv 5) (dR (iz (pv 9) T.cl g_m_many (hr.mono (by decide)))) dW)) (aP (i := 10) fX.nd rfl (by first | exact Or.inl rfl | exact Or.inr rfl)) (aA (cz (pe_metX (pv 9) T.cl g_m_add_colour (hr.mono (by decide)) passF (aa (pv 10) aj)))))
    (aA (bK (bW (bH (aD g__law_shown_good (hr.mono (by decide)) rfl (aa (pv 4) (aa (pv 5) (aa (pv 9) (aa (pv 7) aj))))))) (aA (aM fj)) aV))))) aV)
    (@r10)), ?_⟩
   intro v2 v3 v bv n A o ps rows cs wd H1 pic gd co lt h16 nd tv cb bad
   have sm := aB.refl H1
   have tv0 := tv
   have pic0 := pic
   have co0 := co
   have bad0 := bad
   have ml : eO rows.flatten < (cs.length : Int) := max_lt gd lt
   refine ⟨_, rfl, _, _, rfl, rfl, _, rfl, ite2 (fun hpos => ?_) (fun _ => k10 _ _ _ _ _ _ v n A o ps rows cs wd H1 pic gd co lt h16 tv cb)⟩
   have hpos : 0 < eO rows.flatten := of_decide_eq_true hpos
   obtain ⟨m1, em1, l1a, l1b⟩ : ∃ m1 : Nat, (1 : Int) + (n : Int) / 4096 % eO rows.flatten = (m1 : Int) ∧ 1 ≤ m1 ∧ (m1 : Int) ≤ eO rows.flatten := by
    have f0 := Int.emod_nonneg ((n : Int) / 4096) (show eO rows.flatten ≠ 0 by omega)
    have f1 := Int.emod_lt_of_pos ((n : Int) / 4096) hpos
    exact ⟨(1 + (n : Int) / 4096 % eO rows.flatten).toNat, by omega, by omega, by omega⟩
   have hlt : m1 < cs.length := by omega
   refine ⟨_, rfl, _, rfl, _, _, rfl, rfl, ⟨by decide, by decide⟩, _, rfl, _, _, rfl, rfl, hpos, _, _, rfl, rfl, (m1 : Int), ?_, o, _, rfl, aU.of co.1, fun f0 h_ => ?_⟩
   ·show V.int (1 + (n : Int) / 4096 % eO rows.flatten) = _
    rw [em1]
   rw [cut_hi, ← List.map_take]
   obtain ⟨z_, ef0⟩ := bY (HO.lst ((cs.take m1).map (fun c : C4 => V.ref c.1))) h_
   generalize upd H1 f0 (HO.lst ((cs.take m1).map (fun c : C4 => V.ref c.1))) = G1 at z_ ef0 ⊢
   have ff0 := sm.free h_
   have sm := sm.trans z_
   have pic := pic.mono z_
   have co := co.mono z_
   have bad := bad.mono z_
   clear z_ h_
   intro p dx np ndx ne
   have x1 : aB G1 (upd (upd G1 dx (.own p)) p (.ins cL dx [])) := fun b q e => by rw [aJ (aK e np), aJ (aK e ndx)]; exact e
   have vr : bF G1 f0 (cs.take m1) := ⟨ef0, fun d hd => co.2 d (List.mem_of_mem_take hd)⟩
   have lt1 : (cs.take m1).length = m1 := by rw [List.length_take]; omega
   have nd1 : ((cs.take m1).map kc).Nodup := by rw [List.map_take]; exact nd.sublist (List.take_sublist _ _)
   refine ⟨p, dx, _, rfl, ak, (vr.mono x1).tm (by omega), fun a' d' ea cv' _ _ _ l H2 hl2 kp2 pq => ⟨rfl, ?_⟩, fun ng => (ng ⟨f0, _, rfl, vr.mono x1, by omega, by omega, nd1⟩).elim⟩
   cases ea
   cases (vr.mono x1).inj cv'
   have s2 : aB G1 H2 := fun b q e => kp2 b q (x1 b q e) (aK e np)
   have fl0 : G1 l = none := x1.free hl2
   have fl : H1 l = none := sm.free fl0
   have nol : o ≠ l := aK co.1 fl0
   have npl : l ∉ A :: ps := not_pic pic fl0
   clear kp2 cv' vr x1 np ndx ne hl2 ef0 fl0
   have sm := sm.trans s2
   have pic := pic.mono s2
   have co := co.mono s2
   have bad := bad.mono s2
   clear s2
   refine ⟨_, rfl, A, ps, _, rfl, pic, by rw [gP]; have := gd.le; omega, fun h0 hs H3 s3 fh0 fhs pich => ?_⟩
   have sm := sm.trans s3
   have co := co.mono s3
   have bad := bad.mono s3
   have pq := pq.mono s3
   clear s3
   refine ⟨_, rfl, _, _, 0, rfl, .inl ⟨rfl, p, l, _, rfl, pq, .inr ⟨h0, hs, rows, wd, rfl, pich, gd, by rw [lt1]; exact l1b, fun u1 H4 s4 fu1 eu1 => ?_⟩⟩⟩
   clear pich
   have sm := sm.trans s4
   have co := co.mono s4
   have bad := bad.mono s4
   have pq := pq.mono s4
   clear s4
   refine ⟨sz1, fun y1 h_ => ?_⟩
   obtain ⟨z_, ey1⟩ := bY (HO.tup [V.str "none"]) h_
   generalize upd H4 y1 (HO.tup [V.str "none"]) = G2 at z_ ey1 ⊢
   have fy1 := sm.free h_
   have sm := sm.trans z_
   have co := co.mono z_
   have bad := bad.mono z_
   have pq := pq.mono z_
   have eu1 := z_ _ _ eu1
   clear z_ h_
   refine ⟨0, u1, y1, true, by decide, rfl, rfl, iH eu1 ey1 (fun y hy => (by rw [List.mem_singleton.mp hy]; exact .inr rfl)), _, rfl, ?_⟩
   refine ⟨_, rfl, _, rfl, bv, _, 0, rfl, .inl ⟨rfl, p, l, _, rfl, pq, .inl ⟨bad, fun u2 H5 s5 fu2 eu2 => ?_⟩⟩⟩
   have sm := sm.trans s5
   have co := co.mono s5
   have pq := pq.mono s5
   clear s5
   refine ⟨sz1, fun y2 h_ => ?_⟩
   obtain ⟨z_, ey2⟩ := bY (HO.tup [V.str "picture"]) h_
   generalize upd H5 y2 (HO.tup [V.str "picture"]) = G3 at z_ ey2 ⊢
   have fy2 := sm.free h_
   have sm := sm.trans z_
   have co := co.mono z_
   have pq := pq.mono z_
   have eu2 := z_ _ _ eu2
   clear z_ h_
   refine ⟨0, u2, y2, true, by decide, rfl, rfl, iH eu2 ey2 (fun y hy => (by rw [List.mem_singleton.mp hy]; exact .inr rfl)), _, rfl, ?_⟩
   obtain ⟨⟨dx1, hp1⟩, _⟩ := id pq
   refine ⟨_, rfl, _, rfl, p, dx1, _, rfl, hp1, fY (by decide +kernel), p, l, _, rfl, pq, _, rfl, o, _, rfl, aU.of co.1, fun g0 h_ => ?_⟩
   clear hp1
   rw [lt1, cut_lo _ m1 (by rw [List.length_map]; omega), ← List.map_drop]
   have ngl : g0 ≠ l := (aK pq.2.1 h_).symm
   obtain ⟨z_, eg0⟩ := bY (HO.lst ((cs.drop m1).map (fun c : C4 => V.ref c.1))) h_
   generalize upd G3 g0 (HO.lst ((cs.drop m1).map (fun c : C4 => V.ref c.1))) = G4 at z_ eg0 ⊢
   have fg0 := sm.free h_
   have sm := sm.trans z_
   have pq := pq.mono z_
   clear z_ h_
   refine ⟨g0, rfl, ⟨_, aU.of eg0⟩, ?_⟩
   have ldr : ((cs.drop m1).map (fun c : C4 => V.ref c.1)).length = cs.length - m1 := by rw [List.length_map, List.length_drop]
   refine for_list (xs := (cs.drop m1).map (fun c : C4 => V.ref c.1)) (fun i σ H' => Fr0 l G4 H' ∧ jd cL H' p l (cs.take (m1 + i)) ∧ ∃ v10, σ = [some (.ref a), some (.int (n : Int)), v2, v3, some (.ref A), some (.ref o), some v, some bv, some (.int (eO rows.flatten)), some (.ref p), v10, none, none, none]) ⟨fun b ob hb _ => hb, pq, _, rfl⟩ (fun i σ H' _ q => aU.of (q.1 _ _ eg0 ngl)) ?_ ?_
   ·rintro i x σ H6 hx ⟨fr, pal, v10, rfl⟩
    rw [List.getElem?_map, List.getElem?_drop] at hx
    cases hd : cs[m1 + i]? with
    | none => rw [hd] at hx; cases hx
    | some d =>
     rw [hd] at hx
     cases hx
     have hil : m1 + i < cs.length := (List.getElem?_eq_some_iff.mp hd).1
     have s6 : aB H1 H6 := fun b ob hb => fr b ob (sm b ob hb) (aK hb fl)
     have cd := (co0.2 d (List.mem_of_getElem? hd)).mono s6
     have ltk : (cs.take (m1 + i)).length = m1 + i := by rw [List.length_take]; omega
     have fn := take_new nd hd
     obtain ⟨⟨dx2, hp2⟩, cva⟩ := id pal
     refine ⟨_, rfl, p, dx2, _, rfl, hp2, fY (by decide +kernel), _, rfl, p, l, _, _, rfl, pal, by omega, cd.tc, fun a' r' g' b' e c' => ?_, fun hb => (by rw [cd.yes] at hb; cases hb)⟩
     cases e
     obtain ⟨rfl, rfl, rfl⟩ := cd.inj c'
     refine ⟨fun j hj => (by rw [fn] at hj; cases hj), fun _ h => absurd h (by omega), fun _ _ H7 k7 e7 => ?_⟩
     have f7 : Fr0 l H6 H7 := k7
     refine ⟨fun b ob hb hne => f7 b ob (fr b ob hb hne) hne, ?_, _, rfl⟩
     rw [show m1 + (i + 1) = m1 + i + 1 from rfl, take_at hd]
     exact ⟨⟨dx2, f7.oth pal.2.1 hp2 (fun ys z => by cases z)⟩, bF.snoc e7 (fun x hx => f7.col pal.2.1 (cva.2 x hx)) (f7.col pal.2.1 cd)⟩
   ·rintro σ H6 ⟨fr, pal, v10, rfl⟩
    rw [ldr, List.take_of_length_le (by omega)] at pal
    have s6 : aB H1 H6 := fun b ob hb => fr b ob (sm b ob hb) (aK hb fl)
    refine ⟨_, rfl, _, rfl, _, rfl, _, rfl, A, o, p, l, bv, ps, rows, wd, cs, rfl, pic0.mono s6, gd, co0.mono s6, pal, lt, bad0.mono s6, fun H8 s8 => ⟨_, rfl, ?_⟩⟩
    have s18 := s6.trans s8
    exact k10 _ _ _ _ _ _ v n A o ps rows cs wd H8 (pic0.mono s18) gd (co0.mono s18) lt h16 (tv0.mono s18) ((cF tv0 s18).trans cb)
  refine ⟨_, (au (aQ (i := 1) fX.nd rfl (by first | exact Or.inl rfl | exact Or.inr rfl) (aD g__law_draw (hr.mono (by decide)) rfl (aa (pv 0) (aa aq aj))))
    (au (aQ (i := 2) fX.nd rfl (by first | exact Or.inl rfl | exact Or.inr rfl) (aD g__law_pool (hr.mono (by decide)) rfl (aa (pv 0) (aa aq (aa (gW op_eq (aC bf (pv 1) aq) aq (bA _)) aj)))))
    (au (aQ (i := 3) fX.nd rfl (by first | exact Or.inl rfl | exact Or.inr rfl) (aC cj aq (aC bf (aC bz (pv 1) aq) (aN (call_min2 rfl) rfl T.min PyProof.Rows.boot_min (aa aq (aa (aN (lenK K rfl) rfl T.len PySem.boot_len (aa (pv 2) aj)) aj))))))
    (au (aQ (i := 4) fX.nd rfl (by first | exact Or.inl rfl | exact Or.inr rfl) (aD g__law_picture (hr.mono (by decide)) rfl (aa (pv 0) (aa aq (aa (pv 3) aj)))))
    (au (aQ (i := 5) fX.nd rfl (by first | exact Or.inl rfl | exact Or.inr rfl) (dq (slK K rfl) (pv 2) dW (dR (pv 3))))
    (au (aQ (i := 6) fX.nd rfl (by first | exact Or.inl rfl | exact Or.inr rfl) (aD g__law_odd (hr.mono (by decide)) rfl (aa (aD g__law_draw (hr.mono (by decide)) rfl (aa (pv 0) (aa aq aj))) (aa (bM (ixK K rfl) (pv 5) aq (fun _ _ => rfl)) aj))))
    (au (aQ (i := 7) fX.nd rfl (by first | exact Or.inl rfl | exact Or.inr rfl) (aD g__law_no_picture (hr.mono (by decide)) rfl (aa (pv 4) (aa (bM (ixK K rfl) (aZ (aa aq (aa (pe_un un_neg aq) (aa fj (aa iT (aa bJ (aa (aZ (aa aq aj)) (aa (aC op_pow aq aq) aj)))))))) (aC bf (aC bz (pv 1) aq) aq) (fun _ _ => rfl)) (aa (aC bz (pv 1) aq) aj)))))
    (au (bK (bW (bH (aD g__law_shown_good (hr.mono (by decide)) rfl (aa (pv 4) (aa (pv 5) (aa (pe_makX g_Palette (hr.mono (by decide)) passF rfl (aa (cQ (listK K rfl) rfl T.list PyProof.Rows.boot_list (aa (pv 5) aj)) aj)) (aa (pv 7) aj))))))) (aA (aM fj)) aV)
    (au (aQ (i := 8) fX.nd rfl (by first | exact Or.inl rfl | exact Or.inr rfl) (aN (call_maxI K rfl rfl) rfl T.max PyProof.Rows.boot_max (aa (bG (N := ["_law_row"]) (src := [none]) rfl ⟨rfl, rfl, rfl, rfl, rfl, by decide +kernel⟩ (piK K rfl (pv 4)) (fun s H C fp => aP (i := 0) (show (["_law_row"] : List Str).Nodup by decide +kernel) rfl (by first | exact Or.inl rfl | exact Or.inr rfl)) (fun s H C fp => bh) (fun s H C fp => (aN (call_maxI K rfl rfl) rfl T.max PyProof.Rows.boot_max (aa (pv 0) aj)))) aj)))
    (@r9)))))))))), ?_⟩
  refine ⟨_, rfl, a, ns, 0, rfl, hS, by decide, fun n H1 hn s1 => ?_⟩
  refine ⟨_, rfl, _, rfl, _, _, rfl, rfl, (by show (0 : Int) < 2; decide), rfl, a, ns, 60, _, rfl, s1.seq hS, by decide, fun pl ds H2 s2 hpl cp d1 d2 nd => ?_⟩
  have s02 := s1.trans s2
  have lp : (ds.map fun c => V.ref c.1).length = ds.length := List.length_map _
  have em : (if ((((ds.map fun c => V.ref c.1).length : Nat) : Int)) < 16 then ((((ds.map fun c => V.ref c.1).length : Nat) : Int)) else 16) = ((min 16 ds.length : Nat) : Int) := by rw [lp]; split <;> omega
  obtain ⟨m1, em1, l1a, l1b⟩ : ∃ m1 : Nat, (1 : Int) + (n : Int) / 2 % ((min 16 ds.length : Nat) : Int) = (m1 : Int) ∧ 1 ≤ m1 ∧ m1 ≤ min 16 ds.length := by
   refine ⟨1 + n / 2 % min 16 ds.length, by push_cast; rfl, by omega, ?_⟩
   have := Nat.mod_lt (n / 2) (show 0 < min 16 ds.length by omega)
   omega
  refine ⟨_, rfl, _, _, rfl, rfl, ⟨by decide, by decide⟩, _, rfl, pl, _, rfl, .inl (aU.of cp.1), _, _, rfl, _, _, rfl, rfl, (by show (0 : Int) < (if ((((ds.map fun c => V.ref c.1).length : Nat) : Int)) < 16 then ((((ds.map fun c => V.ref c.1).length : Nat) : Int)) else 16); rw [em]; omega), _, _, rfl, rfl, ?_⟩
  show dG 3 (.int (1 + (n : Int) / 2 % (if ((((ds.map fun c => V.ref c.1).length : Nat) : Int)) < 16 then ((((ds.map fun c => V.ref c.1).length : Nat) : Int)) else 16))) _ _ _
  rw [em, em1]
  refine ⟨_, rfl, _, rfl, a, ns, 2, m1, rfl, s02.seq hS, by decide, by omega, by omega, fun A ps rows wd H3 s3 fA fps pic gd lt => ?_⟩
  have s03 := s02.trans s3
  have cp := cp.mono s3
  refine ⟨_, rfl, _, rfl, (m1 : Int), rfl, pl, _, rfl, aU.of cp.1, fun o ho => ?_⟩
  rw [cut_hi, ← List.map_take]
  have y1 := az (o := HO.lst ((ds.take m1).map fun c => V.ref c.1)) ho
  have eo : upd H3 o (.lst ((ds.take m1).map fun c => V.ref c.1)) o = some (.lst ((ds.take m1).map fun c => V.ref c.1)) := ak
  show dG 5 _ _ _ _
  generalize upd H3 o (.lst ((ds.take m1).map fun c => V.ref c.1)) = H4 at y1 eo ⊢
  have pic := pic.mono y1
  have co : bF H4 o (ds.take m1) := ⟨eo, fun c hc => (cp.2 c (List.mem_of_mem_take hc)).mono y1⟩
  have t1 : (ds.take m1).length = m1 := by rw [List.length_take]; omega
  have n1 : ((ds.take m1).map kc).Nodup := by rw [List.map_take]; exact nd.sublist (List.take_sublist _ _)
  have s04 := s03.trans y1
  generalize ds.take m1 = cs at co t1 n1
  clear eo cp em
  rw [← t1] at lt
  obtain ⟨c0, hc0⟩ : ∃ c, cs[0]? = some c := ⟨_, List.getElem?_eq_getElem (by omega)⟩
  have at0 : (cs.map fun c => V.ref c.1)[0]? = some (.ref c0.1) := by rw [List.getElem?_map, hc0]; rfl
  refine ⟨_, rfl, a, ns, 1, rfl, s04.seq hS, by decide, fun n2 H5 _ s5 => ?_⟩
  have co := co.mono s5
  have pic := pic.mono s5
  refine ⟨_, rfl, o, _, _, _, rfl, rfl, aU.of co.1, aW (j := 0) at0, n2, c0.1, _, _, _, rfl, co.2 c0 (List.mem_of_getElem? hc0), fun v H6 s6 tv cb => ?_⟩
  have co := co.mono s6
  have pic := pic.mono s6
  refine ⟨_, rfl, _, rfl, sz1, fun p0 hp0 => ?_⟩
  have z1 := az (o := HO.lst [V.int 0]) hp0
  refine ⟨_, _, rfl, rfl, ⟨by decide, by decide, by decide⟩, sz7, fun L hL => ?_⟩
  obtain ⟨x, hm, hx⟩ := at_mod (xs := [V.int 16, .int (-1), .bl true, .non, .str "0", .ref p0, .int (10 ^ 20)]) (m := (n : Int) / 32) 7 rfl (by decide)
  have z2 := az (o := HO.lst [V.int 16, .int (-1), .bl true, .non, .str "0", .ref p0, .int (10 ^ 20)]) hL
  have ep := z2 p0 (.lst [.int 0]) ak
  obtain ⟨kx, nx⟩ := odd_no (K := K) ep hm
  have zz := z1.trans z2
  have co := co.mono zz
  have pic := pic.mono zz
  have tv0 := tv
  have tv := tv.mono zz
  have cb := (cF tv0 zz).trans cb
  refine ⟨_, rfl, _, _, rfl, rfl, ⟨by decide, by decide⟩, _, _, rfl, rfl, (by show (0 : Int) < 7; decide), L, _, _, x, rfl, rfl, aU.of ak, hx, _, rfl, _, _, rfl, rfl, ⟨by decide, by decide⟩, .inl ⟨A, ps, ir rows, wd, x, n / 256, ?_, pic, goodV_ir gd, fun r hr y hy => (by obtain ⟨i, rfl⟩ := ir_int r hr y hy; exact Kd.int i), fun r hr y hy => (by obtain ⟨i, rfl⟩ := ir_int r hr y hy; rfl), kx, nx, fun bv H7 s7 bad => ?_⟩⟩
  ·show [V.ref A, x, V.int ((n : Int) / 256)] = _
   rw [show (n : Int) / 256 = ((n / 256 : Nat) : Int) by omega]
  have co := co.mono s7
  have pic := pic.mono s7
  have tv1 := tv
  have tv := tv.mono s7
  have cb := (cF tv1 s7).trans cb
  refine ⟨_, rfl, _, rfl, _, rfl, o, _, rfl, .inl (aU.of co.1), fun h2 hh2 => ?_⟩
  have y4 := az (o := HO.lst (cs.map fun c => V.ref c.1)) hh2
  have ch : bF (upd H7 h2 (.lst (cs.map fun c => V.ref c.1))) h2 cs := ⟨ak, fun c hc => (co.2 c hc).mono y4⟩
  generalize upd H7 h2 (.lst (cs.map fun c => V.ref c.1)) = H8 at y4 ch ⊢
  intro p dx np ndx ne
  have x1 : aB H8 (upd (upd H8 dx (.own p)) p (.ins cL dx [])) := fun b q e => by rw [aJ (aK e np), aJ (aK e ndx)]; exact e
  refine ⟨p, dx, _, rfl, ak, (ch.mono x1).tm (by omega), fun a' d' ea cv' _ _ _ l H9 hl kp pq => ⟨rfl, ?_⟩, fun ng => (ng ⟨h2, cs, rfl, ch.mono x1, by omega, by omega, n1⟩).elim⟩
  cases ea
  cases (ch.mono x1).inj cv'
  have s79 : aB H7 H9 := y4.trans fun b q e => kp b q (x1 b q e) (aK e np)
  refine ⟨_, rfl, A, o, p, l, bv, ps, rows, wd, cs, rfl, pic.mono s79, gd, co.mono s79, pq, lt, bad.cell.mono s79, fun H10 s10 => ⟨_, rfl, ?_⟩⟩
  have s7A := s79.trans s10
  have bad := bad.cell.mono s7A
  have co := co.mono s7A
  have pic := pic.mono s7A
  have tv2 := tv
  have tv := tv.mono s7A
  have cb := (cF tv2 s7A).trans cb
  clear kp cv' ch x1 np ndx ne hl y4 s79
  refine ⟨_, rfl, A, rfl, ⟨_, aU.of pic.top⟩, fun D hD => ?_⟩
  refine cU (k := 0) (fun x => .int (eO (((rowOf H10 x).getD []).map iv))) (fun _ => true) (src_list (aU.of pic.top)) (by rw [List.length_map, pic.len, gP]; exact Nat.le_trans gd.le (by decide)) hD (fun x _ H' Qb _ kk => kk H' (aB.refl _)) (fun x hx _ H' Q' sm' kk => ?_) fun H11 s11 hD2 => ?_
  ·obtain ⟨y, hy, rfl⟩ := List.mem_map.mp hx
   obtain ⟨rs, ey, hl', hcs, hmem⟩ := gd.mem2 pic hy
   have kk := kk H' (aB.refl _)
   rw [aH ey] at kk
   have kk : Q' (.int (eO ((rs.map V.int).map iv))) H' := kk
   rw [iv_map] at kk
   exact ⟨_, rfl, y, rs, rfl, aU.of (sm' _ _ ey), fun z => (by rw [z] at hl'; have := gd.w1; simp at hl'; omega), kk⟩
  have eD : H11 D = some (.lst ((rows.map eO).map V.int)) := by
   rw [hD2, cR, key_row1 (fun r => .int (eO r)) ps rows pic.row, List.map_map]; rfl
  have rne : rows.map eO ≠ [] := fun z => by have h := congrArg List.length z; rw [List.length_map] at h; have := gd.ne; rw [h] at this; exact absurd this (by decide)
  refine ⟨D, rows.map eO, rfl, aU.of eD, rne, ?_⟩
  show dG 8 (.int (eO (rows.map eO))) _ _ _
  rw [max_max gd]
  exact k9 _ _ v bv n A o ps rows cs wd H11 (pic.mono s11) gd (co.mono s11) lt (by omega) n1 (tv.mono s11) ((cF tv s11).trans cb) (bad.mono s11)
end
end K17
namespace L2
open PySem PySem.Spec PyProof.Rows
section
variable {P : Program} {w : World} {K : W.Frag} {mg : Str → Option Value} {base : Heap} {C : Addr}
theorem bI.metD {x qual : Str} {st : Stmt} {f : Addr} {fd : FuncData} {ps : List Str} {k : Nat} {sp : Sp} (F : bI K x qual st .none f fd) (G : bB P w K mg base gh k f fd ps sp) (hm : Meth K C x f)
  (h : ∀ (kV doc pm : Value) (an : Option Addr) (cdv ct : Value) (us : List Value), us.length = ps.length → bindArgs (W.fnOf x qual (aL st) (aF st) (ao st) .none kV doc pm an cdv ct) ⟨us, []⟩ = pure (ps.zip us)) : MetD P w K mg base C k x ps sp := by
 obtain ⟨oc, od, kV, doc, pm, an, cdv, ct, osl, rfl, lk, hcd⟩ := F.ex
 exact ⟨f, _, G, hm, .all (h kV doc pm an cdv ct)⟩
theorem bI.metX {x qual : Str} {st : Stmt} {f : Addr} {fd : FuncData} {ps : List Str} {k : Nat} {sp : Sp} (F : bI K x qual st .none f fd) (G : bB P w K mg base (CX1 P w) k f fd ps sp) (hm : Meth K C x f)
  (h : ∀ (kV doc pm : Value) (an : Option Addr) (cdv ct : Value) (us : List Value), us.length = ps.length → bindArgs (W.fnOf x qual (aL st) (aF st) (ao st) .none kV doc pm an cdv ct) ⟨us, []⟩ = pure (ps.zip us)) : MetX P w K mg base C k x ps sp := by
 obtain ⟨oc, od, kV, doc, pm, an, cdv, ct, osl, rfl, lk, hcd⟩ := F.ex
 exact ⟨f, _, G, hm, .all (h kV doc pm an cdv ct)⟩
theorem bI.makX {x y qual : Str} {st : Stmt} {f : Addr} {fd : FuncData} {ps : List Str} {k : Nat} {sp : Sp} (F : bI K x qual st .none f fd) (G : bB P w K mg base (CX1 P w) k f fd ps sp) (M : Mk K C f) (hm : mg y = some (.ref C))
  (h : ∀ (kV doc pm : Value) (an : Option Addr) (cdv ct : Value) (us : List Value), us.length = ps.length → bindArgs (W.fnOf x qual (aL st) (aF st) (ao st) .none kV doc pm an cdv ct) ⟨us, []⟩ = pure (ps.zip us)) : MakX P w K mg base C k y ps sp := by
 obtain ⟨oc, od, kV, doc, pm, an, cdv, ct, osl, rfl, lk, hcd⟩ := F.ex
 exact ⟨f, _, G, M, hm, .all (h kV doc pm an cdv ct)⟩
end
end L2
set_option maxHeartbeats 8000000
namespace K17
open PySem L2
theorem all_mk {l : W.OpenLaw} {w : World} {K : W.Frag} {h : Heap} {mg : Str → Option Value} {fa : Addr} (X : K.In h) (G : h.Ns mainGlobals mg) (hfa : mg "law" = some (.ref fa))
  {f1 f2 f3 f4 f5 f6 f7 f8 f9 f10 f11 f12 f13 f14 f15 f16 f17 f18 f19 f20 f21 f22 f23 f24 f25 f26 f27 f28 f29 f30 f31 f32 f33 f34 f35 f36 f37 f38 f39 f40 f41 f42 cFE cL cD cC d2 cP cB cZ cN cM d8 d9 d10 d11 d12 d13 d14 d15 d16 d17 d18 d19 d20 d21 d22 : Addr} {tP tS tC tI : Tok} {od1 an1 od2 an2 od3 an3 od4 an4 od5 an5 od6 an6 od7 an7 od8 an8 od9 an9 od10 an10 od11 an11 od12 an12 od13 an13 od14 an14 od15 an15 od16 an16 od17 an17 od18 an18 od19 an19 od20 an20 od21 an21 od22 an22 od23 an23 od24 an24 od25 an25 od26 an26 od27 an27 od28 an28 od29 an29 od30 an30 od31 an31 od32 an32 od33 an33 od34 an34 od35 an35 od36 an36 od37 an37 od38 an38 od39 an39 od40 an40 od41 an41 od42 an42 : Option Addr} {sl1 sl2 sl3 sl4 sl5 sl6 sl7 sl8 sl9 sl10 sl11 sl12 sl13 sl14 sl15 sl16 sl17 sl18 sl19 sl20 sl21 sl22 sl23 sl24 sl25 sl26 sl27 sl28 sl29 sl30 sl31 sl32 sl33 sl34 sl35 sl36 sl37 sl38 sl39 sl40 sl41 sl42 : Array (Option Value)} {oc1 kV1 dc1 pm1 cd1 ct1 oc2 kV2 dc2 pm2 cd2 ct2 oc3 kV3 dc3 pm3 cd3 ct3 oc4 kV4 dc4 pm4 cd4 ct4 oc5 kV5 dc5 pm5 cd5 ct5 oc6 kV6 dc6 pm6 cd6 ct6 oc7 kV7 dc7 pm7 cd7 ct7 oc8 kV8 dc8 pm8 cd8 ct8 oc9 kV9 dc9 pm9 cd9 ct9 oc10 kV10 dc10 pm10 cd10 ct10 oc11 kV11 dc11 pm11 cd11 ct11 oc12 kV12 dc12 pm12 cd12 ct12 oc13 kV13 dc13 pm13 cd13 ct13 oc14 kV14 dc14 pm14 cd14 ct14 oc15 kV15 dc15 pm15 cd15 ct15 oc16 kV16 dc16 pm16 cd16 ct16 oc17 kV17 dc17 pm17 cd17 ct17 oc18 kV18 dc18 pm18 cd18 ct18 oc19 kV19 dc19 pm19 cd19 ct19 oc20 kV20 dc20 pm20 cd20 ct20 oc21 kV21 dc21 pm21 cd21 ct21 oc22 kV22 dc22 pm22 cd22 ct22 oc23 kV23 dc23 pm23 cd23 ct23 oc24 kV24 dc24 pm24 cd24 ct24 oc25 kV25 dc25 pm25 cd25 ct25 oc26 kV26 dc26 pm26 cd26 ct26 oc27 kV27 dc27 pm27 cd27 ct27 oc28 kV28 dc28 pm28 cd28 ct28 oc29 kV29 dc29 pm29 cd29 ct29 oc30 kV30 dc30 pm30 cd30 ct30 oc31 kV31 dc31 pm31 cd31 ct31 oc32 kV32 dc32 pm32 cd32 ct32 oc33 kV33 dc33 pm33 cd33 ct33 oc34 kV34 dc34 pm34 cd34 ct34 oc35 kV35 dc35 pm35 cd35 ct35 oc36 kV36 dc36 pm36 cd36 ct36 oc37 kV37 dc37 pm37 cd37 ct37 oc38 kV38 dc38 pm38 cd38 ct38 oc39 kV39 dc39 pm39 cd39 ct39 oc40 kV40 dc40 pm40 cd40 ct40 oc41 kV41 dc41 pm41 cd41 ct41 oc42 kV42 dc42 pm42 cd42 ct42 : Value}
  (a1 : W.nsIn K mainGlobals "is_whole_from" = some (some (.ref f1))) (l1 : K.lookup f1 = some ⟨oc1, od1, .func (W.fnOf "is_whole_from" "is_whole_from" (aL cW) (aF cW) (ao cW) .none kV1 dc1 pm1 an1 cd1 ct1), sl1⟩) (c1 : W.codeIn K cd1 "is_whole_from" = true) (k1 : W.keepIn K (.ref f1) = true)
  (a2 : W.nsIn K mainGlobals "is_whole_within" = some (some (.ref f2))) (l2 : K.lookup f2 = some ⟨oc2, od2, .func (W.fnOf "is_whole_within" "is_whole_within" (aL cg) (aF cg) (ao cg) .none kV2 dc2 pm2 an2 cd2 ct2), sl2⟩) (c2 : W.codeIn K cd2 "is_whole_within" = true) (k2 : W.keepIn K (.ref f2) = true)
  (a3 : W.nsIn K mainGlobals "is_cell" = some (some (.ref f3))) (l3 : K.lookup f3 = some ⟨oc3, od3, .func (W.fnOf "is_cell" "is_cell" (aL il) (aF il) (ao il) .none kV3 dc3 pm3 an3 cd3 ct3), sl3⟩) (c3 : W.codeIn K cd3 "is_cell" = true) (k3 : W.keepIn K (.ref f3) = true)
  (a4 : W.nsIn K mainGlobals "is_side" = some (some (.ref f4))) (l4 : K.lookup f4 = some ⟨oc4, od4, .func (W.fnOf "is_side" "is_side" (aL ik) (aF ik) (ao ik) .none kV4 dc4 pm4 an4 cd4 ct4), sl4⟩) (c4 : W.codeIn K cd4 "is_side" = true) (k4 : W.keepIn K (.ref f4) = true)
  (a5 : W.nsIn K mainGlobals "is_list_of" = some (some (.ref f5))) (l5 : K.lookup f5 = some ⟨oc5, od5, .func (W.fnOf "is_list_of" "is_list_of" (aL bQ) (aF bQ) (ao bQ) .none kV5 dc5 pm5 an5 cd5 ct5), sl5⟩) (c5 : W.codeIn K cd5 "is_list_of" = true) (k5 : W.keepIn K (.ref f5) = true)
  (a6 : W.nsIn K mainGlobals "are_rows_of" = some (some (.ref f6))) (l6 : K.lookup f6 = some ⟨oc6, od6, .func (W.fnOf "are_rows_of" "are_rows_of" (aL bC) (aF bC) (ao bC) .none kV6 dc6 pm6 an6 cd6 ct6), sl6⟩) (c6 : W.codeIn K cd6 "are_rows_of" = true) (k6 : W.keepIn K (.ref f6) = true)
  (a7 : W.nsIn K mainGlobals "is_picture" = some (some (.ref f7))) (l7 : K.lookup f7 = some ⟨oc7, od7, .func (W.fnOf "is_picture" "is_picture" (aL eQ) (aF eQ) (ao eQ) .none kV7 dc7 pm7 an7 cd7 ct7), sl7⟩) (c7 : W.codeIn K cd7 "is_picture" = true) (k7 : W.keepIn K (.ref f7) = true)
  (a8 : W.nsIn K mainGlobals "need_picture" = some (some (.ref f8))) (l8 : K.lookup f8 = some ⟨oc8, od8, .func (W.fnOf "need_picture" "need_picture" (aL dD) (aF dD) (ao dD) .none kV8 dc8 pm8 an8 cd8 ct8), sl8⟩) (c8 : W.codeIn K cd8 "need_picture" = true) (k8 : W.keepIn K (.ref f8) = true)
  (a9 : W.nsIn K mainGlobals "all_cells" = some (some (.ref f9))) (l9 : K.lookup f9 = some ⟨oc9, od9, .func (W.fnOf "all_cells" "all_cells" (aL fU) (aF fU) (ao fU) .none kV9 dc9 pm9 an9 cd9 ct9), sl9⟩) (c9 : W.codeIn K cd9 "all_cells" = true) (k9 : W.keepIn K (.ref f9) = true)
  (a10 : W.nsIn K mainGlobals "is_colour" = some (some (.ref f10))) (l10 : K.lookup f10 = some ⟨oc10, od10, .func (W.fnOf "is_colour" "is_colour" (aL fM) (aF fM) (ao fM) .none kV10 dc10 pm10 an10 cd10 ct10), sl10⟩) (c10 : W.codeIn K cd10 "is_colour" = true) (k10 : W.keepIn K (.ref f10) = true)
  (a11 : W.nsIn K mainGlobals "need_colour" = some (some (.ref f11))) (l11 : K.lookup f11 = some ⟨oc11, od11, .func (W.fnOf "need_colour" "need_colour" (aL dH) (aF dH) (ao dH) .none kV11 dc11 pm11 an11 cd11 ct11), sl11⟩) (c11 : W.codeIn K cd11 "need_colour" = true) (k11 : W.keepIn K (.ref f11) = true)
  (a12 : W.nsIn K mainGlobals "is_list_of" = some (some (.ref f12))) (l12 : K.lookup f12 = some ⟨oc12, od12, .func (W.fnOf "is_list_of" "is_list_of" (aL bQ) (aF bQ) (ao bQ) .none kV12 dc12 pm12 an12 cd12 ct12), sl12⟩) (c12 : W.codeIn K cd12 "is_list_of" = true) (k12 : W.keepIn K (.ref f12) = true)
  (a13 : W.nsIn K mainGlobals "are_rows_of" = some (some (.ref f13))) (l13 : K.lookup f13 = some ⟨oc13, od13, .func (W.fnOf "are_rows_of" "are_rows_of" (aL bC) (aF bC) (ao bC) .none kV13 dc13 pm13 an13 cd13 ct13), sl13⟩) (c13 : W.codeIn K cd13 "are_rows_of" = true) (k13 : W.keepIn K (.ref f13) = true)
  (a14 : W.findIn K (.ref cL) "__init__" = some (some (.ref f14))) (i14 : W.isFn K (.ref f14) = true) (l14 : K.lookup f14 = some ⟨oc14, od14, .func (W.fnOf "__init__" "Palette.__init__" (aL s_Palette.__init__) (aF s_Palette.__init__) (ao s_Palette.__init__) .none kV14 dc14 pm14 an14 cd14 ct14), sl14⟩) (c14 : W.codeIn K cd14 "Palette.__init__" = true) (k14 : W.keepIn K (.ref f14) = true)
  (a15 : W.findIn K (.ref cL) "colours" = some (some (.ref f15))) (i15 : W.isFn K (.ref f15) = true) (l15 : K.lookup f15 = some ⟨oc15, od15, .func (W.fnOf "colours" "Palette.colours" (aL s_Palette.colours) (aF s_Palette.colours) (ao s_Palette.colours) .none kV15 dc15 pm15 an15 cd15 ct15), sl15⟩) (c15 : W.codeIn K cd15 "Palette.colours" = true) (k15 : W.keepIn K (.ref f15) = true)
  (a16 : W.findIn K (.ref cL) "many" = some (some (.ref f16))) (i16 : W.isFn K (.ref f16) = true) (l16 : K.lookup f16 = some ⟨oc16, od16, .func (W.fnOf "many" "Palette.many" (aL s_Palette.many) (aF s_Palette.many) (ao s_Palette.many) .none kV16 dc16 pm16 an16 cd16 ct16), sl16⟩) (c16 : W.codeIn K cd16 "Palette.many" = true) (k16 : W.keepIn K (.ref f16) = true)
  (a17 : W.findIn K (.ref cL) "colour_of" = some (some (.ref f17))) (i17 : W.isFn K (.ref f17) = true) (l17 : K.lookup f17 = some ⟨oc17, od17, .func (W.fnOf "colour_of" "Palette.colour_of" (aL s_Palette.colour_of) (aF s_Palette.colour_of) (ao s_Palette.colour_of) .none kV17 dc17 pm17 an17 cd17 ct17), sl17⟩) (c17 : W.codeIn K cd17 "Palette.colour_of" = true) (k17 : W.keepIn K (.ref f17) = true)
  (a18 : W.findIn K (.ref cL) "cell_of" = some (some (.ref f18))) (i18 : W.isFn K (.ref f18) = true) (l18 : K.lookup f18 = some ⟨oc18, od18, .func (W.fnOf "cell_of" "Palette.cell_of" (aL s_Palette.cell_of) (aF s_Palette.cell_of) (ao s_Palette.cell_of) .none kV18 dc18 pm18 an18 cd18 ct18), sl18⟩) (c18 : W.codeIn K cd18 "Palette.cell_of" = true) (k18 : W.keepIn K (.ref f18) = true)
  (a19 : W.findIn K (.ref cL) "add_colour" = some (some (.ref f19))) (i19 : W.isFn K (.ref f19) = true) (l19 : K.lookup f19 = some ⟨oc19, od19, .func (W.fnOf "add_colour" "Palette.add_colour" (aL s_Palette.add_colour) (aF s_Palette.add_colour) (ao s_Palette.add_colour) .none kV19 dc19 pm19 an19 cd19 ct19), sl19⟩) (c19 : W.codeIn K cd19 "Palette.add_colour" = true) (k19 : W.keepIn K (.ref f19) = true)
  (a20 : W.nsIn K mainGlobals "need_cells_below" = some (some (.ref f20))) (l20 : K.lookup f20 = some ⟨oc20, od20, .func (W.fnOf "need_cells_below" "need_cells_below" (aL bV) (aF bV) (ao bV) .none kV20 dc20 pm20 an20 cd20 ct20), sl20⟩) (c20 : W.codeIn K cd20 "need_cells_below" = true) (k20 : W.keepIn K (.ref f20) = true)
  (a21 : W.nsIn K mainGlobals "need_shown" = some (some (.ref f21))) (l21 : K.lookup f21 = some ⟨oc21, od21, .func (W.fnOf "need_shown" "need_shown" (aL eU) (aF eU) (ao eU) .none kV21 dc21 pm21 an21 cd21 ct21), sl21⟩) (c21 : W.codeIn K cd21 "need_shown" = true) (k21 : W.keepIn K (.ref f21) = true)
  (a22 : W.nsIn K mainGlobals "shown_picture" = some (some (.ref f22))) (l22 : K.lookup f22 = some ⟨oc22, od22, .func (W.fnOf "shown_picture" "shown_picture" (aL dg) (aF dg) (ao dg) .none kV22 dc22 pm22 an22 cd22 ct22), sl22⟩) (c22 : W.codeIn K cd22 "shown_picture" = true) (k22 : W.keepIn K (.ref f22) = true)
  (a23 : W.nsIn K mainGlobals "taken_picture" = some (some (.ref f23))) (l23 : K.lookup f23 = some ⟨oc23, od23, .func (W.fnOf "taken_picture" "taken_picture" (aL dh) (aF dh) (ao dh) .none kV23 dc23 pm23 an23 cd23 ct23), sl23⟩) (c23 : W.codeIn K cd23 "taken_picture" = true) (k23 : W.keepIn K (.ref f23) = true)
  (a24 : W.nsIn K mainGlobals "_law_draw" = some (some (.ref f24))) (l24 : K.lookup f24 = some ⟨oc24, od24, .func (W.fnOf "_law_draw" "_law_draw" (aL dY) (aF dY) (ao dY) .none kV24 dc24 pm24 an24 cd24 ct24), sl24⟩) (c24 : W.codeIn K cd24 "_law_draw" = true) (k24 : W.keepIn K (.ref f24) = true)
  (a25 : W.nsIn K mainGlobals "_law_whole" = some (some (.ref f25))) (l25 : K.lookup f25 = some ⟨oc25, od25, .func (W.fnOf "_law_whole" "_law_whole" (aL fO) (aF fO) (ao fO) .none kV25 dc25 pm25 an25 cd25 ct25), sl25⟩) (c25 : W.codeIn K cd25 "_law_whole" = true) (k25 : W.keepIn K (.ref f25) = true)
  (a26 : W.nsIn K mainGlobals "_law_word" = some (some (.ref f26))) (l26 : K.lookup f26 = some ⟨oc26, od26, .func (W.fnOf "_law_word" "_law_word" (aL gk) (aF gk) (ao gk) .none kV26 dc26 pm26 an26 cd26 ct26), sl26⟩) (c26 : W.codeIn K cd26 "_law_word" = true) (k26 : W.keepIn K (.ref f26) = true)
  (a27 : W.nsIn K mainGlobals "_law_colour" = some (some (.ref f27))) (l27 : K.lookup f27 = some ⟨oc27, od27, .func (W.fnOf "_law_colour" "_law_colour" (aL dj) (aF dj) (ao dj) .none kV27 dc27 pm27 an27 cd27 ct27), sl27⟩) (c27 : W.codeIn K cd27 "_law_colour" = true) (k27 : W.keepIn K (.ref f27) = true)
  (a28 : W.nsIn K mainGlobals "_law_odd" = some (some (.ref f28))) (l28 : K.lookup f28 = some ⟨oc28, od28, .func (W.fnOf "_law_odd" "_law_odd" (aL dI) (aF dI) (ao dI) .none kV28 dc28 pm28 an28 cd28 ct28), sl28⟩) (c28 : W.codeIn K cd28 "_law_odd" = true) (k28 : W.keepIn K (.ref f28) = true)
  (a29 : W.nsIn K mainGlobals "_law_pool" = some (some (.ref f29))) (l29 : K.lookup f29 = some ⟨oc29, od29, .func (W.fnOf "_law_pool" "_law_pool" (aL gw) (aF gw) (ao gw) .none kV29 dc29 pm29 an29 cd29 ct29), sl29⟩) (c29 : W.codeIn K cd29 "_law_pool" = true) (k29 : W.keepIn K (.ref f29) = true)
  (a30 : W.nsIn K mainGlobals "_law_size" = some (some (.ref f30))) (l30 : K.lookup f30 = some ⟨oc30, od30, .func (W.fnOf "_law_size" "_law_size" (aL gr) (aF gr) (ao gr) .none kV30 dc30 pm30 an30 cd30 ct30), sl30⟩) (c30 : W.codeIn K cd30 "_law_size" = true) (k30 : W.keepIn K (.ref f30) = true)
  (a31 : W.nsIn K mainGlobals "_law_picture" = some (some (.ref f31))) (l31 : K.lookup f31 = some ⟨oc31, od31, .func (W.fnOf "_law_picture" "_law_picture" (aL dM) (aF dM) (ao dM) .none kV31 dc31 pm31 an31 cd31 ct31), sl31⟩) (c31 : W.codeIn K cd31 "_law_picture" = true) (k31 : W.keepIn K (.ref f31) = true)
  (a32 : W.nsIn K mainGlobals "_law_copied" = some (some (.ref f32))) (l32 : K.lookup f32 = some ⟨oc32, od32, .func (W.fnOf "_law_copied" "_law_copied" (aL eH) (aF eH) (ao eH) .none kV32 dc32 pm32 an32 cd32 ct32), sl32⟩) (c32 : W.codeIn K cd32 "_law_copied" = true) (k32 : W.keepIn K (.ref f32) = true)
  (a33 : W.nsIn K mainGlobals "_law_rows_good" = some (some (.ref f33))) (l33 : K.lookup f33 = some ⟨oc33, od33, .func (W.fnOf "_law_rows_good" "_law_rows_good" (aL cV) (aF cV) (ao cV) .none kV33 dc33 pm33 an33 cd33 ct33), sl33⟩) (c33 : W.codeIn K cd33 "_law_rows_good" = true) (k33 : W.keepIn K (.ref f33) = true)
  (a34 : W.nsIn K mainGlobals "_law_own" = some (some (.ref f34))) (l34 : K.lookup f34 = some ⟨oc34, od34, .func (W.fnOf "_law_own" "_law_own" (aL gZ) (aF gZ) (ao gZ) .none kV34 dc34 pm34 an34 cd34 ct34), sl34⟩) (c34 : W.codeIn K cd34 "_law_own" = true) (k34 : W.keepIn K (.ref f34) = true)
  (a35 : W.nsIn K mainGlobals "_law_no_picture" = some (some (.ref f35))) (l35 : K.lookup f35 = some ⟨oc35, od35, .func (W.fnOf "_law_no_picture" "_law_no_picture" (aL bc) (aF bc) (ao bc) .none kV35 dc35 pm35 an35 cd35 ct35), sl35⟩) (c35 : W.codeIn K cd35 "_law_no_picture" = true) (k35 : W.keepIn K (.ref f35) = true)
  (a36 : W.nsIn K mainGlobals "_law_refused" = some (some (.ref f36))) (l36 : K.lookup f36 = some ⟨oc36, od36, .func (W.fnOf "_law_refused" "_law_refused" (aL dN) (aF dN) (ao dN) .none kV36 dc36 pm36 an36 cd36 ct36), sl36⟩) (c36 : W.codeIn K cd36 "_law_refused" = true) (k36 : W.keepIn K (.ref f36) = true)
  (a37 : W.nsIn K mainGlobals "_law_shown_good" = some (some (.ref f37))) (l37 : K.lookup f37 = some ⟨oc37, od37, .func (W.fnOf "_law_shown_good" "_law_shown_good" (aL cJ) (aF cJ) (ao cJ) .none kV37 dc37 pm37 an37 cd37 ct37), sl37⟩) (c37 : W.codeIn K cd37 "_law_shown_good" = true) (k37 : W.keepIn K (.ref f37) = true)
  (a38 : W.nsIn K mainGlobals "_law_taken_due" = some (some (.ref f38))) (l38 : K.lookup f38 = some ⟨oc38, od38, .func (W.fnOf "_law_taken_due" "_law_taken_due" (aL cX) (aF cX) (ao cX) .none kV38 dc38 pm38 an38 cd38 ct38), sl38⟩) (c38 : W.codeIn K cd38 "_law_taken_due" = true) (k38 : W.keepIn K (.ref f38) = true)
  (a39 : W.nsIn K mainGlobals "_law_taken_good" = some (some (.ref f39))) (l39 : K.lookup f39 = some ⟨oc39, od39, .func (W.fnOf "_law_taken_good" "_law_taken_good" (aL cI) (aF cI) (ao cI) .none kV39 dc39 pm39 an39 cd39 ct39), sl39⟩) (c39 : W.codeIn K cd39 "_law_taken_good" = true) (k39 : W.keepIn K (.ref f39) = true)
  (a40 : W.nsIn K mainGlobals "_law_many_rows" = some (some (.ref f40))) (l40 : K.lookup f40 = some ⟨oc40, od40, .func (W.fnOf "_law_many_rows" "_law_many_rows" (aL cY) (aF cY) (ao cY) .none kV40 dc40 pm40 an40 cd40 ct40), sl40⟩) (c40 : W.codeIn K cd40 "_law_many_rows" = true) (k40 : W.keepIn K (.ref f40) = true)
  (a41 : W.nsIn K mainGlobals "_law_sizes_refused" = some (some (.ref f41))) (l41 : K.lookup f41 = some ⟨oc41, od41, .func (W.fnOf "_law_sizes_refused" "_law_sizes_refused" (aL bT) (aF bT) (ao bT) .none kV41 dc41 pm41 an41 cd41 ct41), sl41⟩) (c41 : W.codeIn K cd41 "_law_sizes_refused" = true) (k41 : W.keepIn K (.ref f41) = true)
  (a42 : W.nsIn K mainGlobals "law" = some (some (.ref f42))) (l42 : K.lookup f42 = some ⟨oc42, od42, .func (W.fnOf "law" "law" (aL gK) (aF gK) (ao gK) .none kV42 dc42 pm42 an42 cd42 ct42), sl42⟩) (c42 : W.codeIn K cd42 "law" = true) (k42 : W.keepIn K (.ref f42) = true)
  (z1 : W.nsIn K mainGlobals "len" = some none)
  (z2 : W.nsIn K mainGlobals "range" = some none)
  (z3 : W.nsIn K mainGlobals "isinstance" = some none)
  (z4 : W.nsIn K mainGlobals "int" = some none)
  (z5 : W.nsIn K mainGlobals "bool" = some none)
  (z6 : W.nsIn K mainGlobals "list" = some none)
  (z7 : W.nsIn K mainGlobals "all" = some none)
  (z8 : W.nsIn K mainGlobals "enumerate" = some none)
  (z9 : W.nsIn K mainGlobals "min" = some none)
  (z10 : W.nsIn K mainGlobals "max" = some none)
  (z11 : W.nsIn K mainGlobals "sum" = some none)
  (z12 : W.nsIn K mainGlobals "tuple" = some none)
  (z13 : W.nsIn K mainGlobals "set" = some none)
  (z14 : W.nsIn K mainGlobals "sorted" = some none)
  (z15 : W.nsIn K mainGlobals "ValueError" = some none)
  (y1 : W.nsIn K mainGlobals "MOST_PART" = some (some (.int 255 tP)))
  (y2 : W.nsIn K mainGlobals "MOST_COLOURS" = some (some (.int 16 tS)))
  (y3 : W.nsIn K mainGlobals "MOST_CELL" = some (some (.int 15 tC)))
  (y4 : W.nsIn K mainGlobals "MOST_SIDE" = some (some (.int 24 tI)))
  (x1 : W.nsIn K mainGlobals "FolioError" = some (some (.ref cFE)))
  (x2 : W.nsIn K mainGlobals "Palette" = some (some (.ref cL)))
  (x3 : W.nsIn K mainGlobals "BadCell" = some (some (.ref cD)))
  (x4 : W.nsIn K mainGlobals "BadColour" = some (some (.ref cC)))
  (x5 : W.nsIn K mainGlobals "BadPack" = some (some (.ref d2)))
  (x6 : W.nsIn K mainGlobals "BadPalette" = some (some (.ref cP)))
  (x7 : W.nsIn K mainGlobals "BadPicture" = some (some (.ref cB)))
  (x8 : W.nsIn K mainGlobals "BadSize" = some (some (.ref cZ)))
  (x9 : W.nsIn K mainGlobals "NoColour" = some (some (.ref cN)))
  (x10 : W.nsIn K mainGlobals "TooMany" = some (some (.ref cM)))
  (x11 : W.nsIn K mainGlobals "BadRuns" = some (some (.ref d8)))
  (x12 : W.nsIn K mainGlobals "BadCheck" = some (some (.ref d9)))
  (x13 : W.nsIn K mainGlobals "BadDeed" = some (some (.ref d10)))
  (x14 : W.nsIn K mainGlobals "BadEdge" = some (some (.ref d11)))
  (x15 : W.nsIn K mainGlobals "BadHead" = some (some (.ref d12)))
  (x16 : W.nsIn K mainGlobals "BadMask" = some (some (.ref d13)))
  (x17 : W.nsIn K mainGlobals "BadName" = some (some (.ref d14)))
  (x18 : W.nsIn K mainGlobals "BadPart" = some (some (.ref d15)))
  (x19 : W.nsIn K mainGlobals "BadRule" = some (some (.ref d16)))
  (x20 : W.nsIn K mainGlobals "BadText" = some (some (.ref d17)))
  (x21 : W.nsIn K mainGlobals "NoPart" = some (some (.ref d18)))
  (x22 : W.nsIn K mainGlobals "NoPicture" = some (some (.ref d19)))
  (x23 : W.nsIn K mainGlobals "NothingDone" = some (some (.ref d20)))
  (x24 : W.nsIn K mainGlobals "OutOfPlace" = some (some (.ref d21)))
  (x25 : W.nsIn K mainGlobals "Twice" = some (some (.ref d22)))
  (q1 : W.plainGet K cL Str.empty = true)
  (q2 : W.hasDictIn K cL = true)
  (q3 : W.plainOver K cL = true)
  (q4 : W.findIn K (.ref cL) "__setattr__" = some (some (.builtin "object.__setattr__")))
  (q5 : W.findIn K (.ref cL) "kept" = some none)
  (q6 : W.makesIn K cL = true)
  (q7 : W.keepIn K (.ref cL) = true)
  (q8 : W.subIn K (.ref cFE) (.type "BaseException") = some true)
  (q9 : W.isClsIn K cFE = true)
  (q10 : W.typeIn K (.ref cFE) = some (.type "type"))
  (q11 : W.findIn K (.ref cL) "__class__" = some (some (.builtin "object.__class__")))
  (q12 : W.specialIn K (.builtin "object.__class__") "__get__" = some (some (.builtin "getset_descriptor.__get__")))
  (q13 : W.takesIn K (.builtin "object.__class__") = some true)
  (q14 : W.mroIn K cL (.type "object") = some true)
  (q15 : W.kitOne K (.ref cL) (.ref cL) = some true)
  (q16 : W.excIn K cC mroVE "ValueError.__new__" = true)
  (q17 : W.findIn K (.ref cC) "__getattribute__" = some (some (.builtin "BaseException.__getattribute__")))
  (q18 : W.findIn K (.ref cC) "__getattr__" = some none)
  (q19 : W.findIn K (.ref cC) "__class__" = some (some (.builtin "object.__class__")))
  (q20 : W.mroIn K cC (.type "BaseException") = some true)
  (q21 : W.mroIn K cC (.type "object") = some true)
  (q22 : W.isClsIn K cC = true)
  (q23 : W.subIn K (.ref cC) (.ref cFE) = some true)
  (q24 : W.excIn K cN mroVE "ValueError.__new__" = true)
  (q25 : W.findIn K (.ref cN) "__getattribute__" = some (some (.builtin "BaseException.__getattribute__")))
  (q26 : W.findIn K (.ref cN) "__getattr__" = some none)
  (q27 : W.findIn K (.ref cN) "__class__" = some (some (.builtin "object.__class__")))
  (q28 : W.mroIn K cN (.type "BaseException") = some true)
  (q29 : W.mroIn K cN (.type "object") = some true)
  (q30 : W.isClsIn K cN = true)
  (q31 : W.subIn K (.ref cN) (.ref cFE) = some true)
  (q32 : W.excIn K cM mroVE "ValueError.__new__" = true)
  (q33 : W.findIn K (.ref cM) "__getattribute__" = some (some (.builtin "BaseException.__getattribute__")))
  (q34 : W.findIn K (.ref cM) "__getattr__" = some none)
  (q35 : W.findIn K (.ref cM) "__class__" = some (some (.builtin "object.__class__")))
  (q36 : W.mroIn K cM (.type "BaseException") = some true)
  (q37 : W.mroIn K cM (.type "object") = some true)
  (q38 : W.isClsIn K cM = true)
  (q39 : W.subIn K (.ref cM) (.ref cFE) = some true)
  (q40 : W.excIn K cP mroVE "ValueError.__new__" = true)
  (q41 : W.findIn K (.ref cP) "__getattribute__" = some (some (.builtin "BaseException.__getattribute__")))
  (q42 : W.findIn K (.ref cP) "__getattr__" = some none)
  (q43 : W.findIn K (.ref cP) "__class__" = some (some (.builtin "object.__class__")))
  (q44 : W.mroIn K cP (.type "BaseException") = some true)
  (q45 : W.mroIn K cP (.type "object") = some true)
  (q46 : W.isClsIn K cP = true)
  (q47 : W.subIn K (.ref cP) (.ref cFE) = some true)
  (q48 : W.excIn K cB mroVE "ValueError.__new__" = true)
  (q49 : W.findIn K (.ref cB) "__getattribute__" = some (some (.builtin "BaseException.__getattribute__")))
  (q50 : W.findIn K (.ref cB) "__getattr__" = some none)
  (q51 : W.findIn K (.ref cB) "__class__" = some (some (.builtin "object.__class__")))
  (q52 : W.mroIn K cB (.type "BaseException") = some true)
  (q53 : W.mroIn K cB (.type "object") = some true)
  (q54 : W.isClsIn K cB = true)
  (q55 : W.subIn K (.ref cB) (.ref cFE) = some true)
  (q56 : W.excIn K cD mroVE "ValueError.__new__" = true)
  (q57 : W.findIn K (.ref cD) "__getattribute__" = some (some (.builtin "BaseException.__getattribute__")))
  (q58 : W.findIn K (.ref cD) "__getattr__" = some none)
  (q59 : W.findIn K (.ref cD) "__class__" = some (some (.builtin "object.__class__")))
  (q60 : W.mroIn K cD (.type "BaseException") = some true)
  (q61 : W.mroIn K cD (.type "object") = some true)
  (q62 : W.isClsIn K cD = true)
  (q63 : W.subIn K (.ref cD) (.ref cFE) = some true)
  (q64 : W.excIn K cZ mroVE "ValueError.__new__" = true)
  (q65 : W.findIn K (.ref cZ) "__getattribute__" = some (some (.builtin "BaseException.__getattribute__")))
  (q66 : W.findIn K (.ref cZ) "__getattr__" = some none)
  (q67 : W.findIn K (.ref cZ) "__class__" = some (some (.builtin "object.__class__")))
  (q68 : W.mroIn K cZ (.type "BaseException") = some true)
  (q69 : W.mroIn K cZ (.type "object") = some true)
  (q70 : W.isClsIn K cZ = true)
  (q71 : W.subIn K (.ref cZ) (.ref cFE) = some true)
  (q72 : W.kitOne K (.ref cN) (.type "ValueError") = some true)
  (q73 : W.kitOne K (.ref cN) (.ref cD) = some false)
  (q74 : W.kitOne K (.ref cN) (.ref cC) = some false)
  (q75 : W.kitOne K (.ref cN) (.ref d2) = some false)
  (q76 : W.kitOne K (.ref cN) (.ref cP) = some false)
  (q77 : W.kitOne K (.ref cN) (.ref cB) = some false)
  (q78 : W.kitOne K (.ref cN) (.ref cZ) = some false)
  (q79 : W.kitOne K (.ref cN) (.ref cN) = some true)
  (q80 : W.kitOne K (.ref cN) (.ref cM) = some false)
  (q81 : W.kitOne K (.ref cN) (.ref d8) = some false)
  (q82 : W.kitOne K (.ref cN) (.ref d9) = some false)
  (q83 : W.kitOne K (.ref cN) (.ref d10) = some false)
  (q84 : W.kitOne K (.ref cN) (.ref d11) = some false)
  (q85 : W.kitOne K (.ref cN) (.ref d12) = some false)
  (q86 : W.kitOne K (.ref cN) (.ref d13) = some false)
  (q87 : W.kitOne K (.ref cN) (.ref d14) = some false)
  (q88 : W.kitOne K (.ref cN) (.ref d15) = some false)
  (q89 : W.kitOne K (.ref cN) (.ref d16) = some false)
  (q90 : W.kitOne K (.ref cN) (.ref d17) = some false)
  (q91 : W.kitOne K (.ref cN) (.ref d18) = some false)
  (q92 : W.kitOne K (.ref cN) (.ref d19) = some false)
  (q93 : W.kitOne K (.ref cN) (.ref d20) = some false)
  (q94 : W.kitOne K (.ref cN) (.ref d21) = some false)
  (q95 : W.kitOne K (.ref cN) (.ref d22) = some false)
  (q96 : W.kitOne K (.ref cM) (.type "ValueError") = some true)
  (q97 : W.kitOne K (.ref cM) (.ref cD) = some false)
  (q98 : W.kitOne K (.ref cM) (.ref cC) = some false)
  (q99 : W.kitOne K (.ref cM) (.ref d2) = some false)
  (q100 : W.kitOne K (.ref cM) (.ref cP) = some false)
  (q101 : W.kitOne K (.ref cM) (.ref cB) = some false)
  (q102 : W.kitOne K (.ref cM) (.ref cZ) = some false)
  (q103 : W.kitOne K (.ref cM) (.ref cN) = some false)
  (q104 : W.kitOne K (.ref cM) (.ref cM) = some true)
  (q105 : W.kitOne K (.ref cM) (.ref d8) = some false)
  (q106 : W.kitOne K (.ref cM) (.ref d9) = some false)
  (q107 : W.kitOne K (.ref cM) (.ref d10) = some false)
  (q108 : W.kitOne K (.ref cM) (.ref d11) = some false)
  (q109 : W.kitOne K (.ref cM) (.ref d12) = some false)
  (q110 : W.kitOne K (.ref cM) (.ref d13) = some false)
  (q111 : W.kitOne K (.ref cM) (.ref d14) = some false)
  (q112 : W.kitOne K (.ref cM) (.ref d15) = some false)
  (q113 : W.kitOne K (.ref cM) (.ref d16) = some false)
  (q114 : W.kitOne K (.ref cM) (.ref d17) = some false)
  (q115 : W.kitOne K (.ref cM) (.ref d18) = some false)
  (q116 : W.kitOne K (.ref cM) (.ref d19) = some false)
  (q117 : W.kitOne K (.ref cM) (.ref d20) = some false)
  (q118 : W.kitOne K (.ref cM) (.ref d21) = some false)
  (q119 : W.kitOne K (.ref cM) (.ref d22) = some false)
  (q120 : W.kitOne K (.ref cB) (.type "ValueError") = some true)
  (q121 : W.kitOne K (.ref cB) (.ref cD) = some false)
  (q122 : W.kitOne K (.ref cB) (.ref cC) = some false)
  (q123 : W.kitOne K (.ref cB) (.ref d2) = some false)
  (q124 : W.kitOne K (.ref cB) (.ref cP) = some false)
  (q125 : W.kitOne K (.ref cB) (.ref cB) = some true)
  (q126 : W.kitOne K (.ref cB) (.ref cZ) = some false)
  (q127 : W.kitOne K (.ref cB) (.ref cN) = some false)
  (q128 : W.kitOne K (.ref cB) (.ref cM) = some false)
  (q129 : W.kitOne K (.ref cB) (.ref d8) = some false)
  (q130 : W.kitOne K (.ref cB) (.ref d9) = some false)
  (q131 : W.kitOne K (.ref cB) (.ref d10) = some false)
  (q132 : W.kitOne K (.ref cB) (.ref d11) = some false)
  (q133 : W.kitOne K (.ref cB) (.ref d12) = some false)
  (q134 : W.kitOne K (.ref cB) (.ref d13) = some false)
  (q135 : W.kitOne K (.ref cB) (.ref d14) = some false)
  (q136 : W.kitOne K (.ref cB) (.ref d15) = some false)
  (q137 : W.kitOne K (.ref cB) (.ref d16) = some false)
  (q138 : W.kitOne K (.ref cB) (.ref d17) = some false)
  (q139 : W.kitOne K (.ref cB) (.ref d18) = some false)
  (q140 : W.kitOne K (.ref cB) (.ref d19) = some false)
  (q141 : W.kitOne K (.ref cB) (.ref d20) = some false)
  (q142 : W.kitOne K (.ref cB) (.ref d21) = some false)
  (q143 : W.kitOne K (.ref cB) (.ref d22) = some false)
  : ∃ fd : FuncData, (∀ (s : Shared) (v : Value), BindsTo s fd ⟨[v], []⟩ [("_law_script", v)]) ∧ ∀ base : Heap, K.In base → base.Ns mainGlobals mg → bB l.prog w K mg base gh 14 fa fd ["_law_script"] (spLaw K) := by
 have e := hfa.symm.trans (W.mg_of X G a42)
 cases e
 have T : Txt K mg cFE cC cN cM cP cL cB cD cZ tP tS tC tI := ⟨W.mg_none_of X G z1, W.mg_none_of X G z2, W.mg_none_of X G z3, W.mg_none_of X G z4, W.mg_none_of X G z5, W.mg_none_of X G z6, W.mg_none_of X G z7, W.mg_none_of X G z8, W.mg_none_of X G z9, W.mg_none_of X G z10, W.mg_none_of X G z11, W.mg_none_of X G z12, W.mg_none_of X G z13, W.mg_none_of X G z14, W.mg_none_of X G z15, W.mg_of X G y1, W.mg_of X G y2, W.mg_of X G y3, W.mg_of X G y4, W.mg_of X G x1, W.mg_of X G x4, q16, ⟨q17, q18, q19, q20, q21, q22⟩, exm_mk q8 q9 q10 q23, W.mg_of X G x9, q24, ⟨q25, q26, q27, q28, q29, q30⟩, exm_mk q8 q9 q10 q31, W.mg_of X G x10, q32, ⟨q33, q34, q35, q36, q37, q38⟩, exm_mk q8 q9 q10 q39, W.mg_of X G x6, q40, ⟨q41, q42, q43, q44, q45, q46⟩, exm_mk q8 q9 q10 q47, W.mg_of X G x7, q48, ⟨q49, q50, q51, q52, q53, q54⟩, exm_mk q8 q9 q10 q55, W.mg_of X G x3, q56, ⟨q57, q58, q59, q60, q61, q62⟩, exm_mk q8 q9 q10 q63, W.mg_of X G x8, q64, ⟨q65, q66, q67, q68, q69, q70⟩, exm_mk q8 q9 q10 q71, ⟨q1, q2, q3, q4⟩, q5, W.mg_of X G x2, q11, q12, q13, q14, q15⟩
 have WN : TxtW K mg cN "none" false false false false false false true false false := ⟨T.kN, q72, fun _ _ _ _ _ _ _ _ _ => rfl, ⟨_, W.mg_of X G x3, q73⟩, ⟨_, W.mg_of X G x4, q74⟩, ⟨_, W.mg_of X G x5, q75⟩, ⟨_, W.mg_of X G x6, q76⟩, ⟨_, W.mg_of X G x7, q77⟩, ⟨_, W.mg_of X G x8, q78⟩, ⟨_, W.mg_of X G x9, q79⟩, ⟨_, W.mg_of X G x10, q80⟩, ⟨_, W.mg_of X G x11, q81⟩, ⟨_, W.mg_of X G x12, q82⟩, ⟨_, W.mg_of X G x13, q83⟩, ⟨_, W.mg_of X G x14, q84⟩, ⟨_, W.mg_of X G x15, q85⟩, ⟨_, W.mg_of X G x16, q86⟩, ⟨_, W.mg_of X G x17, q87⟩, ⟨_, W.mg_of X G x18, q88⟩, ⟨_, W.mg_of X G x19, q89⟩, ⟨_, W.mg_of X G x20, q90⟩, ⟨_, W.mg_of X G x21, q91⟩, ⟨_, W.mg_of X G x22, q92⟩, ⟨_, W.mg_of X G x23, q93⟩, ⟨_, W.mg_of X G x24, q94⟩, ⟨_, W.mg_of X G x25, q95⟩⟩
 have WM : TxtW K mg cM "many" false false false false false false false true false := ⟨T.kM, q96, fun _ _ _ _ _ _ _ _ _ => rfl, ⟨_, W.mg_of X G x3, q97⟩, ⟨_, W.mg_of X G x4, q98⟩, ⟨_, W.mg_of X G x5, q99⟩, ⟨_, W.mg_of X G x6, q100⟩, ⟨_, W.mg_of X G x7, q101⟩, ⟨_, W.mg_of X G x8, q102⟩, ⟨_, W.mg_of X G x9, q103⟩, ⟨_, W.mg_of X G x10, q104⟩, ⟨_, W.mg_of X G x11, q105⟩, ⟨_, W.mg_of X G x12, q106⟩, ⟨_, W.mg_of X G x13, q107⟩, ⟨_, W.mg_of X G x14, q108⟩, ⟨_, W.mg_of X G x15, q109⟩, ⟨_, W.mg_of X G x16, q110⟩, ⟨_, W.mg_of X G x17, q111⟩, ⟨_, W.mg_of X G x18, q112⟩, ⟨_, W.mg_of X G x19, q113⟩, ⟨_, W.mg_of X G x20, q114⟩, ⟨_, W.mg_of X G x21, q115⟩, ⟨_, W.mg_of X G x22, q116⟩, ⟨_, W.mg_of X G x23, q117⟩, ⟨_, W.mg_of X G x24, q118⟩, ⟨_, W.mg_of X G x25, q119⟩⟩
 have WB : TxtW K mg cB "picture" false false false false true false false false false := ⟨T.kB, q120, fun _ _ _ _ _ _ _ _ _ => rfl, ⟨_, W.mg_of X G x3, q121⟩, ⟨_, W.mg_of X G x4, q122⟩, ⟨_, W.mg_of X G x5, q123⟩, ⟨_, W.mg_of X G x6, q124⟩, ⟨_, W.mg_of X G x7, q125⟩, ⟨_, W.mg_of X G x8, q126⟩, ⟨_, W.mg_of X G x9, q127⟩, ⟨_, W.mg_of X G x10, q128⟩, ⟨_, W.mg_of X G x11, q129⟩, ⟨_, W.mg_of X G x12, q130⟩, ⟨_, W.mg_of X G x13, q131⟩, ⟨_, W.mg_of X G x14, q132⟩, ⟨_, W.mg_of X G x15, q133⟩, ⟨_, W.mg_of X G x16, q134⟩, ⟨_, W.mg_of X G x17, q135⟩, ⟨_, W.mg_of X G x18, q136⟩, ⟨_, W.mg_of X G x19, q137⟩, ⟨_, W.mg_of X G x20, q138⟩, ⟨_, W.mg_of X G x21, q139⟩, ⟨_, W.mg_of X G x22, q140⟩, ⟨_, W.mg_of X G x23, q141⟩, ⟨_, W.mg_of X G x24, q142⟩, ⟨_, W.mg_of X G x25, q143⟩⟩
 have F1 := aR (st := cW) l1 c1 k1
 have F2 := aR (st := cg) l2 c2 k2
 have F3 := aR (st := il) l3 c3 k3
 have F4 := aR (st := ik) l4 c4 k4
 have F5 := aR (st := bQ) l5 c5 k5
 have F6 := aR (st := bC) l6 c6 k6
 have F7 := aR (st := eQ) l7 c7 k7
 have F8 := aR (st := dD) l8 c8 k8
 have F9 := aR (st := fU) l9 c9 k9
 have F10 := aR (st := fM) l10 c10 k10
 have F11 := aR (st := dH) l11 c11 k11
 have F12 := aR (st := bQ) l12 c12 k12
 have F13 := aR (st := bC) l13 c13 k13
 have F14 := aR (st := s_Palette.__init__) l14 c14 k14
 have F15 := aR (st := s_Palette.colours) l15 c15 k15
 have F16 := aR (st := s_Palette.many) l16 c16 k16
 have F17 := aR (st := s_Palette.colour_of) l17 c17 k17
 have F18 := aR (st := s_Palette.cell_of) l18 c18 k18
 have F19 := aR (st := s_Palette.add_colour) l19 c19 k19
 have F20 := aR (st := bV) l20 c20 k20
 have F21 := aR (st := eU) l21 c21 k21
 have F22 := aR (st := dg) l22 c22 k22
 have F23 := aR (st := dh) l23 c23 k23
 have F24 := aR (st := dY) l24 c24 k24
 have F25 := aR (st := fO) l25 c25 k25
 have F26 := aR (st := gk) l26 c26 k26
 have F27 := aR (st := dj) l27 c27 k27
 have F28 := aR (st := dI) l28 c28 k28
 have F29 := aR (st := gw) l29 c29 k29
 have F30 := aR (st := gr) l30 c30 k30
 have F31 := aR (st := dM) l31 c31 k31
 have F32 := aR (st := eH) l32 c32 k32
 have F33 := aR (st := cV) l33 c33 k33
 have F34 := aR (st := gZ) l34 c34 k34
 have F35 := aR (st := bc) l35 c35 k35
 have F36 := aR (st := dN) l36 c36 k36
 have F37 := aR (st := cJ) l37 c37 k37
 have F38 := aR (st := cX) l38 c38 k38
 have F39 := aR (st := cI) l39 c39 k39
 have F40 := aR (st := cY) l40 c40 k40
 have F41 := aR (st := bT) l41 c41 k41
 have F42 := aR (st := gK) l42 c42 k42
 refine ⟨W.fnOf "law" "law" (aL gK) (aF gK) (ao gK) .none kV42 dc42 pm42 an42 cd42 ct42, fun s v => .of_eq rfl, fun base kb nb => ?_⟩
 have g1 := F1.def (P := l.prog) (w := w) (mg := mg) (base := base) (ok_is_whole_from F1 T) (W.mg_of X G a1) (fun _ _ _ _ _ _ us hl => (by obtain ⟨u0, u1, rfl⟩ := len2 hl; rfl))
 have g2 := F2.def (P := l.prog) (w := w) (mg := mg) (base := base) (ok_is_whole_within F2 g1) (W.mg_of X G a2) (fun _ _ _ _ _ _ us hl => (by obtain ⟨u0, u1, u2, rfl⟩ := len3 hl; rfl))
 have g3A := F3.defA (P := l.prog) (w := w) (mg := mg) (base := base) (ok_is_cell F3 T g2) (fun _ _ _ _ _ _ us hl => (by obtain ⟨u0, rfl⟩ := gO hl; rfl))
 have g3 := F3.def (P := l.prog) (w := w) (mg := mg) (base := base) (ok_is_cell F3 T g2) (W.mg_of X G a3) (fun _ _ _ _ _ _ us hl => (by obtain ⟨u0, rfl⟩ := gO hl; rfl))
 have g4 := F4.def (P := l.prog) (w := w) (mg := mg) (base := base) (ok_is_side F4 T g2) (W.mg_of X G a4) (fun _ _ _ _ _ _ us hl => (by obtain ⟨u0, rfl⟩ := gO hl; rfl))
 have g5 := F5.def (P := l.prog) (w := w) (mg := mg) (base := base) (ok_is_list_of F5 T g3A) (W.mg_of X G a5) (fun _ _ _ _ _ _ us hl => (by obtain ⟨u0, u1, rfl⟩ := len2 hl; rfl))
 have g6 := F6.def (P := l.prog) (w := w) (mg := mg) (base := base) (ok_are_rows_of F6 T g5 g4) (W.mg_of X G a6) (fun _ _ _ _ _ _ us hl => (by obtain ⟨u0, u1, rfl⟩ := len2 hl; rfl))
 have g7 := F7.def (P := l.prog) (w := w) (mg := mg) (base := base) (ok_is_picture F7 (W.mg_of X G a3) g6) (W.mg_of X G a7) (fun _ _ _ _ _ _ us hl => (by obtain ⟨u0, rfl⟩ := gO hl; rfl))
 have g8 := F8.defX (P := l.prog) (w := w) (mg := mg) (base := base) (ok_need_picture F8 T g7) (W.mg_of X G a8) (fun _ _ _ _ _ _ us hl => (by obtain ⟨u0, rfl⟩ := gO hl; rfl))
 have g9 := F9.defX (P := l.prog) (w := w) (mg := mg) (base := base) (ok_all_cells F9 T g8) (W.mg_of X G a9) (fun _ _ _ _ _ _ us hl => (by obtain ⟨u0, rfl⟩ := gO hl; rfl))
 have g10A := F10.defA (P := l.prog) (w := w) (mg := mg) (base := base) (ok_is_colour F10 T g2) (fun _ _ _ _ _ _ us hl => (by obtain ⟨u0, rfl⟩ := gO hl; rfl))
 have g10 := F10.def (P := l.prog) (w := w) (mg := mg) (base := base) (ok_is_colour F10 T g2) (W.mg_of X G a10) (fun _ _ _ _ _ _ us hl => (by obtain ⟨u0, rfl⟩ := gO hl; rfl))
 have g11 := F11.defX (P := l.prog) (w := w) (mg := mg) (base := base) (ok_need_colour F11 T g10) (W.mg_of X G a11) (fun _ _ _ _ _ _ us hl => (by obtain ⟨u0, rfl⟩ := gO hl; rfl))
 have g12 := F12.def (P := l.prog) (w := w) (mg := mg) (base := base) (ok_is_list_of_col F12 T g10A) (W.mg_of X G a12) (fun _ _ _ _ _ _ us hl => (by obtain ⟨u0, u1, rfl⟩ := len2 hl; rfl))
 have g13 := F13.def (P := l.prog) (w := w) (mg := mg) (base := base) (ok_are_rows_of_col F13 T g12 g4) (W.mg_of X G a13) (fun _ _ _ _ _ _ us hl => (by obtain ⟨u0, u1, rfl⟩ := len2 hl; rfl))
 have g14 := F14.makX (P := l.prog) (w := w) (mg := mg) (base := base) (ok_Palette.__init__ F14 T g12 (W.mg_of X G a10) g2) ⟨q6, a14, i14, q7⟩ (W.mg_of X G x2) (fun _ _ _ _ _ _ us hl => (by obtain ⟨u0, u1, rfl⟩ := len2 hl; rfl))
 have g15 := F15.metD (P := l.prog) (w := w) (mg := mg) (base := base) (ok_Palette.colours F15 T) ⟨a15, i15, k15⟩ (fun _ _ _ _ _ _ us hl => (by obtain ⟨u0, rfl⟩ := gO hl; rfl))
 have g16 := F16.metD (P := l.prog) (w := w) (mg := mg) (base := base) (ok_Palette.many F16 T) ⟨a16, i16, k16⟩ (fun _ _ _ _ _ _ us hl => (by obtain ⟨u0, rfl⟩ := gO hl; rfl))
 have g17 := F17.metX (P := l.prog) (w := w) (mg := mg) (base := base) (ok_Palette.colour_of F17 T g2 g16) ⟨a17, i17, k17⟩ (fun _ _ _ _ _ _ us hl => (by obtain ⟨u0, u1, rfl⟩ := len2 hl; rfl))
 have g18 := F18.metX (P := l.prog) (w := w) (mg := mg) (base := base) (ok_Palette.cell_of F18 T g11) ⟨a18, i18, k18⟩ (fun _ _ _ _ _ _ us hl => (by obtain ⟨u0, u1, rfl⟩ := len2 hl; rfl))
 have g19 := F19.metX (P := l.prog) (w := w) (mg := mg) (base := base) (ok_Palette.add_colour F19 T g18 g16) ⟨a19, i19, k19⟩ (fun _ _ _ _ _ _ us hl => (by obtain ⟨u0, u1, rfl⟩ := len2 hl; rfl))
 have g20 := F20.defX (P := l.prog) (w := w) (mg := mg) (base := base) (ok_need_cells_below F20 T g9) (W.mg_of X G a20) (fun _ _ _ _ _ _ us hl => (by obtain ⟨u0, u1, rfl⟩ := len2 hl; rfl))
 have g21 := F21.defX (P := l.prog) (w := w) (mg := mg) (base := base) (ok_need_shown F21 T g20 g16) (W.mg_of X G a21) (fun _ _ _ _ _ _ us hl => (by obtain ⟨u0, u1, rfl⟩ := len2 hl; rfl))
 have g22 := F22.defX (P := l.prog) (w := w) (mg := mg) (base := base) (ok_shown_picture F22 T g21 g17) (W.mg_of X G a22) (fun _ _ _ _ _ _ us hl => (by obtain ⟨u0, u1, rfl⟩ := len2 hl; rfl))
 have g23 := F23.defX (P := l.prog) (w := w) (mg := mg) (base := base) (ok_taken_picture F23 T (W.mg_of X G a10) g13 g14 g19) (W.mg_of X G a23) (fun _ _ _ _ _ _ us hl => (by obtain ⟨u0, rfl⟩ := gO hl; rfl))
 have g24 := F24.def (P := l.prog) (w := w) (mg := mg) (base := base) (ok_law_draw F24 T) (W.mg_of X G a24) (fun _ _ _ _ _ _ us hl => (by obtain ⟨u0, u1, rfl⟩ := len2 hl; rfl))
 have g25 := F25.def (P := l.prog) (w := w) (mg := mg) (base := base) (ok_law_whole F25 T) (W.mg_of X G a25) (fun _ _ _ _ _ _ us hl => (by obtain ⟨u0, rfl⟩ := gO hl; rfl))
 have g26 := F26.defM (P := l.prog) (w := w) (mg := mg) (base := base) (wordB (ok_law_word F26 T WN) (wordB (ok_law_word F26 T WM) (ok_law_word F26 T WB))) (W.mg_of X G a26) (fun _ _ _ _ _ _ us hl => (by obtain ⟨u0, rfl⟩ := gO hl; rfl))
 have g27 := F27.def (P := l.prog) (w := w) (mg := mg) (base := base) (ok_law_colour F27 T) (W.mg_of X G a27) (fun _ _ _ _ _ _ us hl => (by obtain ⟨u0, rfl⟩ := gO hl; rfl))
 have g28 := F28.def (P := l.prog) (w := w) (mg := mg) (base := base) (ok_law_odd F28 T) (W.mg_of X G a28) (fun _ _ _ _ _ _ us hl => (by obtain ⟨u0, u1, rfl⟩ := len2 hl; rfl))
 have g29 := F29.def (P := l.prog) (w := w) (mg := mg) (base := base) (ok_law_pool F29 T g24 g27) (W.mg_of X G a29) (fun _ _ _ _ _ _ us hl => (by obtain ⟨u0, u1, u2, rfl⟩ := len3 hl; rfl))
 have g30 := F30.def (P := l.prog) (w := w) (mg := mg) (base := base) (ok_law_size F30 T) (W.mg_of X G a30) (fun _ _ _ _ _ _ us hl => (by obtain ⟨u0, rfl⟩ := gO hl; rfl))
 have g31 := F31.def (P := l.prog) (w := w) (mg := mg) (base := base) (ok_law_picture F31 T g24 g30) (W.mg_of X G a31) (fun _ _ _ _ _ _ us hl => (by obtain ⟨u0, u1, u2, rfl⟩ := len3 hl; rfl))
 have g32 := F32.def (P := l.prog) (w := w) (mg := mg) (base := base) (ok_law_copied F32 T) (W.mg_of X G a32) (fun _ _ _ _ _ _ us hl => (by obtain ⟨u0, rfl⟩ := gO hl; rfl))
 have g33 := F33.def (P := l.prog) (w := w) (mg := mg) (base := base) (ok_law_rows_good F33 T) (W.mg_of X G a33) (fun _ _ _ _ _ _ us hl => (by obtain ⟨u0, u1, rfl⟩ := len2 hl; rfl))
 have g34 := F34.def (P := l.prog) (w := w) (mg := mg) (base := base) (ok_law_own F34 T) (W.mg_of X G a34) (fun _ _ _ _ _ _ us hl => (by obtain ⟨u0, u1, rfl⟩ := len2 hl; rfl))
 have g35 := F35.def (P := l.prog) (w := w) (mg := mg) (base := base) (orB (iD (I := cellI K) F35 T g32) (iD (I := colI K) F35 T g32)) (W.mg_of X G a35) (fun _ _ _ _ _ _ us hl => (by obtain ⟨u0, u1, u2, rfl⟩ := len3 hl; rfl))
 have g36 := F36.def (P := l.prog) (w := w) (mg := mg) (base := base) (ok_law_refused F36 T g22 g23 g26) (W.mg_of X G a36) (fun _ _ _ _ _ _ us hl => (by obtain ⟨u0, u1, u2, rfl⟩ := len3 hl; rfl))
 have g37 := F37.def (P := l.prog) (w := w) (mg := mg) (base := base) (ok_law_shown_good F37 T g32 g22 g33 g15 g36 g34) (W.mg_of X G a37) (fun _ _ _ _ _ _ us hl => (by obtain ⟨u0, u1, u2, u3, rfl⟩ := len4 hl; rfl))
 have g38 := F38.def (P := l.prog) (w := w) (mg := mg) (base := base) (ok_law_taken_due F38 T) (W.mg_of X G a38) (fun _ _ _ _ _ _ us hl => (by obtain ⟨u0, rfl⟩ := gO hl; rfl))
 have g39 := F39.def (P := l.prog) (w := w) (mg := mg) (base := base) (ok_law_taken_good F39 T g32 g38 g23 g15 g33 g25 g22 g34) (W.mg_of X G a39) (fun _ _ _ _ _ _ us hl => (by obtain ⟨u0, rfl⟩ := gO hl; rfl))
 have g40 := F40.def (P := l.prog) (w := w) (mg := mg) (base := base) (ok_law_many_rows F40 T) (W.mg_of X G a40) (fun _ _ _ _ _ _ us hl => (by obtain ⟨u0, rfl⟩ := gO hl; rfl))
 have g41 := F41.def (P := l.prog) (w := w) (mg := mg) (base := base) (ok_law_sizes_refused F41 T g36) (W.mg_of X G a41) (fun _ _ _ _ _ _ us hl => (by obtain ⟨u0, rfl⟩ := gO hl; rfl))
 exact ok_law F42 T g24 g29 g31 g28 g35 g14 g37 g36 g32 g16 g19 g39 g40 g41
theorem walk {l : W.OpenLaw} {q : Program} {loose : List Str} {XP : (Str → Option Value) → Heap → Prop} {YP : World → Heap → Prop} {d : DefRec} {K : Params → W.Frag} (hn : l.most = some 63) (hdf : d.params.defaults = [])
  (hY : ∀ (w : World) (h : Heap), YP w h → (K w.params).In h)
  (F : ∀ (w : World) (mg : Str → Option Value) (fa : Addr) (h : Heap), (K w.params).In h → h.Ns mainGlobals mg → mg d.name = some (.ref fa) →
   ∃ fd : FuncData, (∀ (s : Shared) (u : Value), BindsTo s fd ⟨[u], []⟩ [("_law_script", u)]) ∧ ∀ base : Heap, (K w.params).In base → base.Ns mainGlobals mg → bB l.prog w (K w.params) mg base gh 14 fa fd ["_law_script"] (spLaw (K w.params))) :
  W.WalkO q loose XP YP l.row.toRowW d [] (fun f vs => PySem.call f vs) :=
 L2.walk_ofB (n := 63) (k := 14) (x := "_law_script") (CX := gh) (sp := spLaw) hn (by decide) hdf ⟨rfl, by decide, by decide, rfl⟩ hY F (fun _ _ a ns _ hb _ hS => ⟨a, ns, rfl, hS, fun _ => rfl⟩) fun _ _ _ _ z => z
end K17
open PySem PySem.W PyProof.Rows
noncomputable def PySem.W.Fast.tw8783417293797305949 : PySem.Program := PySem.Challenge.pw_cellfolio_k17_shown_and_taken
theorem PySem.W.Fast.te8783417293797305949 : PySem.Challenge.pw_cellfolio_k17_shown_and_taken = PySem.W.Fast.tw8783417293797305949 := rfl
def PySem.W.Fast.tw14742369750908825409 : Nat := 0
def PySem.W.Fast.tw4763091634025245378 : Nat := 0
def PySem.W.Fast.tw5223590036971223140 : Nat := 0
def PySem.W.Fast.tw7920193296850590852 : Nat := 0
def PySem.W.Fast.tw12931865639802405541 : Nat := 0
def PySem.W.Fast.tw10781441460592175877 : Nat := 0
def PySem.W.Fast.tw228833362312718342 : Nat := 0
def PySem.W.Fast.tw6991860888029832520 : Nat := 0
def PySem.W.Fast.tw17102088952959746568 : Nat := 0
def PySem.W.Fast.tw1806861678159184235 : Nat := 0
def PySem.W.Fast.tw752354928016398155 : Nat := 0
def PySem.W.Fast.tw1210547857137811916 : Nat := 0
def PySem.W.Fast.tw8163926645696638572 : Nat := 0
def PySem.W.Fast.tw3242973760102708205 : Nat := 0
def PySem.W.Fast.tw4319336664220171504 : Nat := 0
def PySem.W.Fast.tw14242032298468901680 : Nat := 0
def PySem.W.Fast.tw4043664006466683888 : Nat := 0
def PySem.W.Fast.tw13688011990254129585 : Nat := 0
def PySem.W.Fast.tw3953239861974670929 : Nat := 0
def PySem.W.Fast.tw18372189212115701361 : Nat := 0
def PySem.W.Fast.tw16609176691024134389 : Nat := 0
def PySem.W.Fast.tw17531947282873721912 : Nat := 0
def PySem.W.Fast.tw6947606884600386328 : Nat := 0
def PySem.W.Fast.tw3055196888868247961 : Nat := 0
def PySem.W.Fast.tw10543366291810357049 : Nat := 0
def PySem.W.Fast.tw3453323569545091322 : Nat := 0
def PySem.W.Fast.tw17753643584491552250 : Nat := 0
def PySem.W.Fast.tw6035445859202052347 : Nat := 0
def PySem.W.Fast.tw11045325849252973756 : Nat := 0
def PySem.W.Fast.tw15462864218741022556 : Nat := 0
def PySem.W.Fast.tw10584643692015987133 : Nat := 0
def PySem.W.Fast.tw756923478627360574 : Nat := 0
def PySem.W.Fast.tw9064371529934843903 : Nat := 0
set_option maxRecDepth 100000 in
set_option maxHeartbeats 0 in
theorem PySem.Challenge.cw_cellfolio_k17_shown_and_taken_holds : PySem.Challenge.rw_cellfolio_k17_shown_and_taken.Holds := by
  w_on; o_law; k_head; (case hw => w_witness2)
  k_fill
  refine K17.walk (l := PySem.Challenge.rw_cellfolio_k17_shown_and_taken) rfl rfl (fun w h Y => PySem.W.kIn_of Y) ?F
  case F =>
    intro w mg fa h KX G hmg
    refine' K17.all_mk KX G hmg ?a1 ?l1 ?c1 ?k1 ?a2 ?l2 ?c2 ?k2 ?a3 ?l3 ?c3 ?k3 ?a4 ?l4 ?c4 ?k4 ?a5 ?l5 ?c5 ?k5 ?a6 ?l6 ?c6 ?k6 ?a7 ?l7 ?c7 ?k7 ?a8 ?l8 ?c8 ?k8 ?a9 ?l9 ?c9 ?k9 ?a10 ?l10 ?c10 ?k10 ?a11 ?l11 ?c11 ?k11 ?a12 ?l12 ?c12 ?k12 ?a13 ?l13 ?c13 ?k13 ?a14 ?i14 ?l14 ?c14 ?k14 ?a15 ?i15 ?l15 ?c15 ?k15 ?a16 ?i16 ?l16 ?c16 ?k16 ?a17 ?i17 ?l17 ?c17 ?k17 ?a18 ?i18 ?l18 ?c18 ?k18 ?a19 ?i19 ?l19 ?c19 ?k19 ?a20 ?l20 ?c20 ?k20 ?a21 ?l21 ?c21 ?k21 ?a22 ?l22 ?c22 ?k22 ?a23 ?l23 ?c23 ?k23 ?a24 ?l24 ?c24 ?k24 ?a25 ?l25 ?c25 ?k25 ?a26 ?l26 ?c26 ?k26 ?a27 ?l27 ?c27 ?k27 ?a28 ?l28 ?c28 ?k28 ?a29 ?l29 ?c29 ?k29 ?a30 ?l30 ?c30 ?k30 ?a31 ?l31 ?c31 ?k31 ?a32 ?l32 ?c32 ?k32 ?a33 ?l33 ?c33 ?k33 ?a34 ?l34 ?c34 ?k34 ?a35 ?l35 ?c35 ?k35 ?a36 ?l36 ?c36 ?k36 ?a37 ?l37 ?c37 ?k37 ?a38 ?l38 ?c38 ?k38 ?a39 ?l39 ?c39 ?k39 ?a40 ?l40 ?c40 ?k40 ?a41 ?l41 ?c41 ?k41 ?a42 ?l42 ?c42 ?k42 ?z1 ?z2 ?z3 ?z4 ?z5 ?z6 ?z7 ?z8 ?z9 ?z10 ?z11 ?z12 ?z13 ?z14 ?z15 ?y1 ?y2 ?y3 ?y4 ?x1 ?x2 ?x3 ?x4 ?x5 ?x6 ?x7 ?x8 ?x9 ?x10 ?x11 ?x12 ?x13 ?x14 ?x15 ?x16 ?x17 ?x18 ?x19 ?x20 ?x21 ?x22 ?x23 ?x24 ?x25 ?q1 ?q2 ?q3 ?q4 ?q5 ?q6 ?q7 ?q8 ?q9 ?q10 ?q11 ?q12 ?q13 ?q14 ?q15 ?q16 ?q17 ?q18 ?q19 ?q20 ?q21 ?q22 ?q23 ?q24 ?q25 ?q26 ?q27 ?q28 ?q29 ?q30 ?q31 ?q32 ?q33 ?q34 ?q35 ?q36 ?q37 ?q38 ?q39 ?q40 ?q41 ?q42 ?q43 ?q44 ?q45 ?q46 ?q47 ?q48 ?q49 ?q50 ?q51 ?q52 ?q53 ?q54 ?q55 ?q56 ?q57 ?q58 ?q59 ?q60 ?q61 ?q62 ?q63 ?q64 ?q65 ?q66 ?q67 ?q68 ?q69 ?q70 ?q71 ?q72 ?q73 ?q74 ?q75 ?q76 ?q77 ?q78 ?q79 ?q80 ?q81 ?q82 ?q83 ?q84 ?q85 ?q86 ?q87 ?q88 ?q89 ?q90 ?q91 ?q92 ?q93 ?q94 ?q95 ?q96 ?q97 ?q98 ?q99 ?q100 ?q101 ?q102 ?q103 ?q104 ?q105 ?q106 ?q107 ?q108 ?q109 ?q110 ?q111 ?q112 ?q113 ?q114 ?q115 ?q116 ?q117 ?q118 ?q119 ?q120 ?q121 ?q122 ?q123 ?q124 ?q125 ?q126 ?q127 ?q128 ?q129 ?q130 ?q131 ?q132 ?q133 ?q134 ?q135 ?q136 ?q137 ?q138 ?q139 ?q140 ?q141 ?q142 ?q143
    (case x1|x2|x3|x4|x5|x6|x7|x8|x9|x10|x11|x12|x13|x14|x15|x16|x17|x18|x19|x20|x21|x22|x23|x24|x25|a1|l1|c1|k1|a2|l2|c2|k2|a3|l3|c3|k3|a4|l4|c4|k4|a5|l5|c5|k5|a6|l6|c6|k6|a7|l7|c7|k7|a8|l8|c8|k8|a9|l9|c9|k9|a10|l10|c10|k10|a11|l11|c11|k11|a12|l12|c12|k12|a13|l13|c13|k13|a14|i14|l14|c14|k14|a15|i15|l15|c15|k15|a16|i16|l16|c16|k16|a17|i17|l17|c17|k17|a18|i18|l18|c18|k18|a19|i19|l19|c19|k19|a20|l20|c20|k20|a21|l21|c21|k21|a22|l22|c22|k22|a23|l23|c23|k23|a24|l24|c24|k24|a25|l25|c25|k25|a26|l26|c26|k26|a27|l27|c27|k27|a28|l28|c28|k28|a29|l29|c29|k29|a30|l30|c30|k30|a31|l31|c31|k31|a32|l32|c32|k32|a33|l33|c33|k33|a34|l34|c34|k34|a35|l35|c35|k35|a36|l36|c36|k36|a37|l37|c37|k37|a38|l38|c38|k38|a39|l39|c39|k39|a40|l40|c40|k40|a41|l41|c41|k41|a42|l42|c42|k42|z1|z2|z3|z4|z5|z6|z7|z8|z9|z10|z11|z12|z13|z14|z15|y1|y2|y3|y4|q1|q2|q3|q4|q5|q6|q7|q8|q9|q10|q11|q12|q13|q14 => k_is)
    (case q15 => kit_is)
    (case q16 => k_exc)
    (case q17|q18|q19|q20|q21|q22|q23 => k_is)
    (case q24 => k_exc)
    (case q25|q26|q27|q28|q29|q30|q31 => k_is)
    (case q32 => k_exc)
    (case q33|q34|q35|q36|q37|q38|q39 => k_is)
    (case q40 => k_exc)
    (case q41|q42|q43|q44|q45|q46|q47 => k_is)
    (case q48 => k_exc)
    (case q49|q50|q51|q52|q53|q54|q55 => k_is)
    (case q56 => k_exc)
    (case q57|q58|q59|q60|q61|q62|q63 => k_is)
    (case q64 => k_exc)
    (case q65|q66|q67|q68|q69|q70|q71 => k_is)
    (case q72|q73|q74|q75|q76|q77|q78|q79|q80|q81|q82|q83|q84|q85|q86|q87|q88|q89|q90|q91|q92|q93|q94|q95|q96|q97|q98|q99|q100|q101|q102|q103|q104|q105|q106|q107|q108|q109|q110|q111|q112|q113|q114|q115|q116|q117|q118|q119|q120|q121|q122|q123|q124|q125|q126|q127|q128|q129|q130|q131|q132|q133|q134|q135|q136|q137|q138|q139|q140|q141|q142|q143 => kit_is)
#print axioms PySem.Challenge.cw_cellfolio_k17_shown_and_taken_holds
